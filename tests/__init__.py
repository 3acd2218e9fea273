"""Tests of nestweigh; they use only what the document's interface names."""
