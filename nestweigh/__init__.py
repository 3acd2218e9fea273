"""Nestweigh: boxes within boxes that change holders by weight."""
