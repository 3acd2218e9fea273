import PyProof.Rows.All
import Wide.All
import OpenK.AllK
import Wide.FinOn
import KE.KStateDown
import KE.KMathGC
import KE.KExcIs
import KE.GoesMore
import KE.GoesComp
import HandS.ForMost
import HandS.Exc
import HandS.TryOnly
import HandS.TryMany
import HandS.ExcCtx
import HandS.Hot
import HandS.HotCalls
import HandS.ExcInit
import HandS.ExcInitHot
import HandS.ExcIs
import HandS.ExcField
import HandS.WordsExc
import HandS.Defaults
import HandS.Wide
import HandS.IsInst
import HandS.Conv
import HandS.Codes
import HandS.Head0
import HandS.Head1
import HandS.Head2
import HandS.HeadEnd
import HandS.HeadHook1
import HandS.HeadHook2
import HandS.Head3
import HandS.Rev
import HandS.RevTup
import PySem.Challenge.RW_nestweigh_k01_own_weights
set_option Elab.async false
set_option linter.all false
set_option maxRecDepth 100000
set_option maxHeartbeats 4000000
namespace NW
open PySem PySem.Spec PyProof.Rows L2
def errN1 : List Str := ["NestError", "Refusal", "BadName", "BadWeight", "BadNumber", "BadCount", "Twice", "Unknown", "NoHolder", "Loop", "Short", "BadText", "OtherYard", "Same", "Inside", "Unlike", "Nailed"]
def errN2 : List Str := ["Sealed", "Idle", "Broken", "NotComing", "Unbalanced", "TooMany", "BadWish", "Clash", "OtherDoors", "NoStory", "BadOrder", "OrderRefused", "OutOfSteps", "NotEmpty", "NoChange", "NothingDone", "BadClaim"]
def inL (l : List Str) : Str → Bool := fun s => decide (s ∈ l)
def clsFn (s : Stmt) : Stmt := match s with | .ClassDef (body := b) .. => b.getD 0 (.Pass ⟨0, 0, 0, 0⟩) | _ => .Pass ⟨0, 0, 0, 0⟩
def oexK (K : PySem.W.Frag) (C : Addr) : Bool := match K.lookup C with
  | some ⟨.type "type", _, .cls cd, sl⟩ => (match cd.mro, sl.toList with
    | .ref C' :: bm, [_, _, _, _, some (.builtin n), _] => C' == C && n == "ValueError.__new__" && !cd.hasDel && cd.hasDict && PySem.HandSPX.refsVE bm
    | _, _ => false)
  | _ => false
def oexB (K : PySem.W.Frag) (C : Addr) : Bool := oexK K C && (He.eqO (PySem.W.findIn K (.ref C) "__setattr__") (some (some (.builtin "object.__setattr__"))) && (decide (PySem.W.subIn K (.ref C) (.type "BaseException") = some true) && (decide (PySem.W.typeIn K (.ref C) = some (.type "type")) && PySem.W.keepIn K (.ref C))))
def kitFB (K : PySem.W.Frag) (C : Addr) (b : Str → Bool) : Bool := decide (PySem.W.kitOne K (.ref C) (.type "ValueError") = some (b "ValueError")) && (errN1 ++ errN2).all fun n => decide (PySem.W.kitOne K (.ref C) (.ref (He.ga K n)) = some (b n))
def excCB (K : PySem.W.Frag) (D : Addr) : Bool := He.eqO (PySem.W.findIn K (.ref D) "__getattribute__") (some (some (.builtin "BaseException.__getattribute__"))) && (He.eqO (PySem.W.findIn K (.ref D) "__getattr__") (some none) && (decide (PySem.W.subIn K (.ref D) (.type "BaseException") = some true) && (PySem.W.hasDictIn K D &&
  (He.eqO (PySem.W.findIn K (.ref D) "__class__") (some (some (.builtin "object.__class__"))) && (He.eqO (PySem.W.specialIn K (.builtin "object.__class__") "__get__") (some (some (.builtin "getset_descriptor.__get__"))) && (decide (PySem.W.takesIn K (.builtin "object.__class__") = some true) && decide (PySem.W.mroIn K D (.type "object") = some true)))))))
def errFB (K : PySem.W.Frag) (C : Addr) (b : Str → Bool) : Bool := kitFB K C b && (excCB K C && (xfB K C && decide (PySem.W.exmOne K (.ref C) (.ref (He.ga K "NestError")) = some true)))
def iniB (K : PySem.W.Frag) (C : Addr) : Bool := He.eqO (PySem.W.findIn K (.ref C) "__init__") (some (some (.ref (He.ma K C "__init__")))) && decide (PySem.W.typeIn K (.ref (He.ma K C "__init__")) = some (.type "function"))
end NW
namespace NW
open PySem PySem.Spec PyProof.Rows L2
def digK (K : PySem.W.Frag) : Bool := PySem.W.nsOkIn K cStatics && He.eqO (PySem.W.nsIn K cStatics "sys.int_max_str_digits") (some none)
def adS (g : Addr → Option Obj) (n : Nat) : List Addr := He.asD g n ++ [cStatics]
def hookS (n : Nat) (fa : List He.Fa) (fn : List He.DefD) (ok : PySem.W.Frag → List Bool) : PySem.W.Hook where
  α := He.AlD × Bool
  obs := fun s => (He.obsD fa fn (He.frG s.heap.get? (adS s.heap.get? n)), (ok (He.frG s.heap.get? (adS s.heap.get? n))).all id)
  val := fun _ => (He.valD fn, true)
  says := fun _ h => ∃ K : PySem.W.Frag, K.In h ∧ He.SaysD fa fn K ∧ (ok K).all id = true
  of := fun _ _ e => ⟨_, He.frG_in, congrArg (fun z : He.AlD × Bool => z.1) e, congrArg (fun z : He.AlD × Bool => z.2) e⟩
  keeps := fun _ _ _ ⟨K, hK, c⟩ k => ⟨K, PySem.W.Frag.In.keeps hK k, c⟩
def obsS (n : Nat) (fa : List He.Fa) (fn : List He.DefD) (ok : PySem.W.Frag → List Bool) (g : Addr → Option Obj) : He.AlD × Bool := let K := He.frG g (adS g n)
  (He.obsD fa fn K, (ok K).all id)
theorem obsS_eq {n : Nat} {fa : List He.Fa} {fn : List He.DefD} {ok : PySem.W.Frag → List Bool} {g : Addr → Option Obj} {s : Shared} (h : ∀ a, g a = s.heap.get? a) : obsS n fa fn ok g = (hookS n fa fn ok).obs s := by
  have e : g = s.heap.get? := funext h
  rw [e] <;> rfl
end NW
namespace NW
open PySem PySem.W PySem.Calls PyProof.Rows
theorem early (h : (PySem.W.OpenLaw.row PySem.Challenge.rw_nestweigh_k01_own_weights).wellSaid = true → (PySem.W.OpenLaw.row PySem.Challenge.rw_nestweigh_k01_own_weights).Holds) : PySem.Challenge.rw_nestweigh_k01_own_weights.Holds := by
  w_on; o_law
  exact h (by assumption)
end NW
namespace NW
open PySem PySem.Spec PyProof.Rows L2
def top (i : Nat) : Stmt := PySem.Challenge.pw_nestweigh_k01_own_weights.main.body.getD i (.Pass ⟨0, 0, 0, 0⟩)
abbrev s_mix : Stmt := top 41
abbrev s_take : Stmt := top 42
abbrev s_number : Stmt := top 43
abbrev s_pick : Stmt := top 44
abbrev s_weight : Stmt := top 45
abbrev s_not_integer : Stmt := top 46
abbrev s_is_integer : Stmt := top 47
abbrev s_is_number : Stmt := top 37
abbrev s_store : Stmt := top 40
abbrev s_valid_weight : Stmt := top 38
abbrev s_same : Stmt := top 48
abbrev s_kinds : Stmt := top 49
abbrev s_values : Stmt := top 50
abbrev s_asked : Stmt := top 51
abbrev s_law : Stmt := top 52
abbrev s_BadWeight : Stmt := clsFn (top 4)
def d_mix : He.DefD := ⟨("_law_mix", none), "_law_mix", "_law_mix", defArgs s_mix, defBody s_mix, defScope s_mix, [], []⟩
def d_take : He.DefD := ⟨("_law_take", none), "_law_take", "_law_take", defArgs s_take, defBody s_take, defScope s_take, [], []⟩
def d_number : He.DefD := ⟨("_law_number", none), "_law_number", "_law_number", defArgs s_number, defBody s_number, defScope s_number, [], []⟩
def d_pick : He.DefD := ⟨("_law_pick", none), "_law_pick", "_law_pick", defArgs s_pick, defBody s_pick, defScope s_pick, [], []⟩
def d_weight : He.DefD := ⟨("_law_weight", none), "_law_weight", "_law_weight", defArgs s_weight, defBody s_weight, defScope s_weight, [], []⟩
def d_not_integer : He.DefD := ⟨("_law_not_integer", none), "_law_not_integer", "_law_not_integer", defArgs s_not_integer, defBody s_not_integer, defScope s_not_integer, [], []⟩
def d_is_integer : He.DefD := ⟨("_law_is_integer", none), "_law_is_integer", "_law_is_integer", defArgs s_is_integer, defBody s_is_integer, defScope s_is_integer, [], []⟩
def d_is_number : He.DefD := ⟨("is_number", none), "is_number", "is_number", defArgs s_is_number, defBody s_is_number, defScope s_is_number, [], []⟩
def d_store : He.DefD := ⟨("_law_store", none), "_law_store", "_law_store", defArgs s_store, defBody s_store, defScope s_store, [], []⟩
def d_valid_weight : He.DefD := ⟨("valid_weight", none), "valid_weight", "valid_weight", defArgs s_valid_weight, defBody s_valid_weight, defScope s_valid_weight, [], []⟩
def d_same : He.DefD := ⟨("_law_same", none), "_law_same", "_law_same", defArgs s_same, defBody s_same, defScope s_same, [], []⟩
def d_kinds : He.DefD := ⟨("_law_kinds", none), "_law_kinds", "_law_kinds", defArgs s_kinds, defBody s_kinds, defScope s_kinds, [], []⟩
def d_values : He.DefD := ⟨("_law_values", none), "_law_values", "_law_values", defArgs s_values, defBody s_values, defScope s_values, [], []⟩
def d_asked : He.DefD := ⟨("_law_asked", none), "_law_asked", "_law_asked", defArgs s_asked, defBody s_asked, defScope s_asked, [], []⟩
def d_law : He.DefD := ⟨("law", none), "law", "law", defArgs s_law, defBody s_law, defScope s_law, [], []⟩
def d_BadWeight : He.DefD := ⟨("BadWeight", some "__init__"), "__init__", "BadWeight.__init__", defArgs s_BadWeight, defBody s_BadWeight, defScope s_BadWeight, [], []⟩
def fn : List He.DefD := [d_mix, d_take, d_number, d_pick, d_weight, d_not_integer, d_is_integer, d_is_number, d_store, d_valid_weight, d_same, d_kinds, d_values, d_asked, d_law, d_BadWeight]
def fa0 : List He.Fa := [.glo "_law_mix", .glo "_law_take", .glo "_law_number", .glo "_law_pick", .glo "_law_weight", .glo "_law_not_integer", .glo "_law_is_integer", .glo "is_number", .glo "_law_store", .glo "valid_weight", .glo "_law_same", .glo "_law_kinds", .glo "_law_values", .glo "_law_asked", .glo "law", .glo "BadClaim"]
def fa1 : List He.Fa := [.glo "BadCount", .glo "BadName", .glo "BadNumber", .glo "BadOrder", .glo "BadText", .glo "BadWeight", .glo "BadWish", .glo "Broken", .glo "Clash", .glo "Idle", .glo "Inside", .glo "Loop", .glo "Nailed", .glo "NestError", .glo "NoChange", .glo "NoHolder"]
def fa2 : List He.Fa := [.glo "NoStory", .glo "NotComing", .glo "NotEmpty", .glo "NothingDone", .glo "OrderRefused", .glo "OtherDoors", .glo "OtherYard", .glo "OutOfSteps", .glo "Refusal", .glo "Same", .glo "Sealed", .glo "Short", .glo "TooMany", .glo "Twice", .glo "Unbalanced", .glo "Unknown"]
def fa3 : List He.Fa := [.glo "Unlike", .free "ValueError", .free "abs", .free "bool", .free "dict", .free "int", .free "isinstance", .free "len", .free "list", .free "max", .free "min", .free "range", .free "reversed", .free "str", .free "tuple", .int "MOST_WEIGHT" 1000000000]
def fa : List He.Fa := fa0 ++ fa1 ++ fa2 ++ fa3
def okL (K : PySem.W.Frag) : List Bool := ([digK K, oexB K (He.ga K "BadWeight"), iniB K (He.ga K "BadWeight"), He.eqO (PySem.W.findIn K (.ref (He.ga K "BadWeight")) "weight") (some none), errFB K (He.ga K "BadWeight") (inL ["ValueError", "NestError", "BadWeight"])] : List Bool)
def names0 : List PySem.Str := ["NestError", "Refusal", "BadName", "BadWeight", "BadNumber", "BadCount", "Twice", "Unknown", "NoHolder", "Loop", "Short", "BadText", "OtherYard", "Same", "Inside", "Unlike"]
def names1 : List PySem.Str := ["Nailed", "Sealed", "Idle", "Broken", "NotComing", "Unbalanced", "TooMany", "BadWish", "Clash", "OtherDoors", "NoStory", "BadOrder", "OrderRefused", "OutOfSteps", "NotEmpty", "NoChange"]
def names2 : List PySem.Str := ["NothingDone", "BadClaim", "MOST_WEIGHT", "is_number", "valid_weight", "_law_store", "_law_mix", "_law_take", "_law_number", "_law_pick", "_law_weight", "_law_not_integer", "_law_is_integer", "_law_same", "_law_kinds", "_law_values"]
def names3 : List PySem.Str := ["_law_asked"]
def names : List PySem.Str := names0 ++ names1 ++ names2 ++ names3
abbrev R : PySem.W.OpenRow := PySem.W.OpenLaw.row PySem.Challenge.rw_nestweigh_k01_own_weights
abbrev hk : PySem.W.Hook := hookS 5 fa fn okL
def ob (s : PySem.W.SharedT) : He.AlD × Bool := obsS 5 fa fn okL (HandSHeadRun.getT s)
theorem ob_eq (s : PySem.W.SharedT) : ob s = hk.obs s.abs := obsS_eq (HandSHeadRun.getT_eq s)
theorem run (w : World) : HandSHeadRun.RunEq R (PySem.W.view R.prog [52]) hk ob 20000 names w := by
  intro os
  kernel_rfl
end NW
namespace NW
open PySem PySem.Spec PyProof.Rows L2
open C8 (tCut pss_cut)
theorem orOp {X : Cx} {f : Value → Value → Sem Value} {r q : R2} (a : OpR X f r) (b : OpR X f q) : OpR X f (fun x y H Q => r x y H Q ∨ q x y H Q) := by
  intro pins s σ H x y v u Q I rx ry h
  cases h with
  | inl h => exact a pins s σ H x y v u Q I rx ry h
  | inr h => exact b pins s σ H x y v u Q I rx ry h
theorem orCall {X : Cx} {f : Value} {r q : List V → Hp → VK → Prop} (a : CallR X f r) (b : CallR X f q) : CallR X f (fun xs H Q => r xs H Q ∨ q xs H Q) := by
  intro pins s σ H xs us Q I rx h
  cases h with
  | inl h => exact a pins s σ H xs us Q I rx h
  | inr h => exact b pins s σ H xs us Q I rx h
/-- a new object of content o -/
def NewR (o : HO) (H : Hp) (Q : VK) : Prop := ∀ q, H q = none → Q (.ref q) (upd H q o)
def rAddS : R2 := fun x y H Q => ∃ i j, x = .str i ∧ y = .str j ∧ i.length + j.length ≤ sizeLine ∧ Q (.str (i ++ j)) H
def aAdd : R2 := fun x y H Q => rI0 (fun i j => .int (i + j)) x y H Q ∨ (rAddS x y H Q ∨ rCat x y H Q)
theorem oAdd {X : Cx} : OpR X (binaryOp .Add) aAdd := orOp op_add (orOp op_add_str op_cat)
section
variable {H : Hp} {Q : VK} {i j : Int} {x y : Str} {p q : Addr} {xs ys : List V}
theorem add_ii (h : Q (.int (i + j)) H) : aAdd (.int i) (.int j) H Q := .inl ⟨i, j, rfl, rfl, h⟩
theorem add_ss (hl : x.length + y.length ≤ 1000000) (h : Q (.str (x ++ y)) H) : aAdd (.str x) (.str y) H Q := .inr (.inl ⟨x, y, rfl, rfl, Nat.le_trans hl (by decide), h⟩)
theorem add_ll (hp : H p = some (.lst xs)) (hq : H q = some (.lst ys)) (hl : xs.length + ys.length ≤ 1000000) (h : NewR (.lst (xs ++ ys)) H Q) : aAdd (.ref p) (.ref q) H Q := .inr (.inr ⟨p, q, xs, ys, rfl, rfl, hp, hq, Nat.le_trans hl (by decide), h⟩)
end
def aSub : R2 := rI0 fun i j => .int (i - j)
theorem oSub {X : Cx} : OpR X (binaryOp .Sub) aSub := op_sub
def aMul : R2 := rI IntMulOk fun i j => .int (i * j)
theorem oMul {X : Cx} : OpR X (binaryOp .Mult) aMul := by
  intro pins s σ H x y v u Q I rx ry h
  obtain ⟨i, j, ex, ey, hc, q⟩ := h
  subst ex ey
  obtain ⟨t1, e1⟩ := rx
  obtain ⟨t2, e2⟩ := ry
  subst e1 e2
  exact PyProof.Rows.mul_int ⟨.int (i * j), H, I.tok _, ⟨_, rfl⟩, q⟩ hc
def aDiv : R2 := rI CDivW fun i j => .int (i / j)
theorem oDiv {X : Cx} : OpR X (binaryOp .FloorDiv) aDiv := op_fdivW
def aMod : R2 := rI (fun _ j => 0 < j) fun i j => .int (i % j)
theorem oMod {X : Cx} : OpR X (binaryOp .Mod) aMod := op_mod
def aPow : R2 := rI CPow fun i j => .int (i ^ j.toNat)
theorem oPow {X : Cx} : OpR X (binaryOp .Pow) aPow := op_pow
section
variable {H : Hp} {Q : VK} {i j : Int}
theorem sub_ii (h : Q (.int (i - j)) H) : aSub (.int i) (.int j) H Q := ⟨i, j, rfl, rfl, h⟩
theorem mul_l (h1 : -(2 ^ 64) < i) (h2 : i < 2 ^ 64) (h : Q (.int (i * j)) H) : aMul (.int i) (.int j) H Q := ⟨i, j, rfl, rfl, (CMul.ok (.inl ⟨h1, h2⟩)), h⟩
theorem mul_r (h1 : -(2 ^ 64) < j) (h2 : j < 2 ^ 64) (h : Q (.int (i * j)) H) : aMul (.int i) (.int j) H Q := ⟨i, j, rfl, rfl, (CMul.ok (.inr ⟨h1, h2⟩)), h⟩
theorem div_ii (h1 : 0 < j) (h2 : j < 2 ^ 300) (h : Q (.int (i / j)) H) : aDiv (.int i) (.int j) H Q := ⟨i, j, rfl, rfl, wide_div h1 (b := 300) (by omega) (by decide) (by decide), h⟩
theorem mod_ii (h1 : 0 < j) (h : Q (.int (i % j)) H) : aMod (.int i) (.int j) H Q := ⟨i, j, rfl, rfl, h1, h⟩
theorem pow_ii {k : Int} (h0 : 0 ≤ j) (h1 : j ≤ 1000000) (h2 : i.natAbs < 2 ^ 64) (e : i ^ j.toNat = k) (h : Q (.int k) H) : aPow (.int i) (.int j) H Q := ⟨i, j, rfl, rfl, ⟨h0, h1, h2⟩, by
  show Q (.int (i ^ j.toNat)) H
  rw [e]; exact h⟩
end
def aLt : R2 := rI0 fun i j => .bl (decide (i < j))
def aLe : R2 := rI0 fun i j => .bl (decide (i ≤ j))
def aGt : R2 := rI0 fun i j => .bl (decide (j < i))
def aGe : R2 := rI0 fun i j => .bl (decide (j ≤ i))
theorem oLt {X : Cx} : OpR X (compareOp .Lt) aLt := op_lt
theorem oLe {X : Cx} : OpR X (compareOp .LtE) aLe := op_le
theorem oGt {X : Cx} : OpR X (compareOp .Gt) aGt := op_gt
theorem oGe {X : Cx} : OpR X (compareOp .GtE) aGe := op_ge
def aEq : R2 := rEq
def aNe : R2 := rNe
theorem oEq {X : Cx} : OpR X (compareOp .Eq) aEq := op_eq
theorem oNe {X : Cx} : OpR X (compareOp .NotEq) aNe := op_ne
section
variable {H : Hp} {Q : VK} {i j : Int} {x y : V}
theorem lt_ii (h : Q (.bl (decide (i < j))) H) : aLt (.int i) (.int j) H Q := ⟨i, j, rfl, rfl, h⟩
theorem le_ii (h : Q (.bl (decide (i ≤ j))) H) : aLe (.int i) (.int j) H Q := ⟨i, j, rfl, rfl, h⟩
theorem gt_ii (h : Q (.bl (decide (j < i))) H) : aGt (.int i) (.int j) H Q := ⟨i, j, rfl, rfl, h⟩
theorem ge_ii (h : Q (.bl (decide (j ≤ i))) H) : aGe (.int i) (.int j) H Q := ⟨i, j, rfl, rfl, h⟩
theorem eq_ii (h : Q (.bl (decide (i = j))) H) : aEq (.int i) (.int j) H Q := ⟨rfl, by
  have e : decide (V.int i = V.int j) = decide (i = j) := by rw [dec_int, Bool.beq_eq_decide_eq]
  rw [e]; exact h⟩
theorem ne_ii (h : Q (.bl (!decide (i = j))) H) : aNe (.int i) (.int j) H Q := ⟨rfl, by
  have e : decide (V.int i = V.int j) = decide (i = j) := by rw [dec_int, Bool.beq_eq_decide_eq]
  rw [e]; exact h⟩
theorem eq_sc (hs : scal x y = true) (h : Q (.bl (decide (x = y))) H) : aEq x y H Q := ⟨hs, h⟩
end
def gGetL (K : PySem.W.Frag) : V → V → Hp → VK → Prop := fun x y H Q => ∃ p xs i v, x = .ref p ∧ y = .int i ∧ 0 ≤ i ∧ SqL K H p xs ∧ xs[i.toNat]? = some v ∧ Q v H
theorem getL {X : Cx} : PGet X (gGetL X.K) := by
  intro pins s σ H o i ov iv Q I ro ri h
  obtain ⟨p, xs, k, v, eo, ei, h0, hq, hv, q⟩ := h
  subst eo ei
  obtain rfl : ov = Value.ref p := ro
  obtain ⟨t, et⟩ := ri
  subst et
  obtain ⟨its, r, pl, hz⟩ := I.list hq
  obtain ⟨u, hu, ru⟩ := r.get hv
  have hlt : k.toNat < its.length := by
    cases Nat.lt_or_ge k.toNat its.length with
    | inl h => exact h
    | inr h =>
      rw [List.getElem?_eq_none h] at hu
      cases hu
  have hl := r.length
  have hn := line63
  exact wpAny_getItem_list pl.isList h0 (by omega) (by simpa using hu) ⟨v, H, I, ru, q⟩
section
variable {K : PySem.W.Frag} {σ : L2.St} {H : Hp} {Q : VK} {D : Ends} {t u : TS} {te ta tb : TE} {c d : TT} {g : TG} {i : Nat} {v : V} {B : Bool → Hp → Prop}
theorem s_seq (h : t { D with nx := u D } σ H) : tSeq t u D σ H := h
theorem s_asg (h : te σ H fun x H1 => g x σ H1 D.nx) : tAsg te g D σ H := h
theorem s_if (h : c σ H fun b H1 => if b = true then t D σ H1 else u D σ H1) : tIfS c t u D σ H := h
theorem s_ret (h : te σ H D.rt) : tRet te D σ H := h
theorem s_drop (h : te σ H fun _ H1 => D.nx σ H1) : tDrop te D σ H := h
theorem v_c (h : Q v H) : tC v σ H Q := h
theorem v_op {r : R2} (h : ta σ H fun x H1 => tb σ H1 fun y H2 => r x y H2 Q) : tOp r ta tb σ H Q := h
theorem c_test (h : te σ H fun x H1 => ∃ k, x = .bl k ∧ B k H1) : tTest te σ H B := h
theorem c_bl {b : Bool} {B : Bool → Prop} (h : B b) : ∃ k, V.bl b = .bl k ∧ B k := ⟨b, rfl, h⟩
end
section
variable {X : Cx} {a b : Expr} {pos : Pos} {i j k : Int}
theorem pe_weak {e : Expr} {t t' : TE} (h : PE X e t) (w : ∀ σ H Q, t' σ H Q → t σ H Q) : PE X e t' := ⟨fun pins s σ H Q I q => h.run pins s σ H Q I (w σ H Q q)⟩
theorem pe_powc (ha : PE X a (tC (.int i))) (hb : PE X b (tC (.int j))) (k : Int) (h : decide (0 ≤ j ∧ j ≤ 1000000 ∧ i.natAbs < 2 ^ 64 ∧ i ^ j.toNat = k) = true) : PE X (.BinOp a .Pow b pos) (tC (.int k)) :=
  pe_weak (pe_op oPow ha hb) fun σ H Q q => by
    obtain ⟨h1, h2, h3, h4⟩ := of_decide_eq_true h
    exact pow_ii h1 h2 h3 h4 q
theorem pe_mulc (ha : PE X a (tC (.int i))) (hb : PE X b (tC (.int j))) (k : Int) (h : decide (-(2 ^ 64) < i ∧ i < 2 ^ 64 ∧ i * j = k) = true) : PE X (.BinOp a .Mult b pos) (tC (.int k)) :=
  pe_weak (pe_op oMul ha hb) fun σ H Q q => by
    obtain ⟨h1, h2, h3⟩ := of_decide_eq_true h
    exact mul_l h1 h2 (by rw [h3]; exact q)
theorem pe_addc (ha : PE X a (tC (.int i))) (hb : PE X b (tC (.int j))) (k : Int) (h : decide (i + j = k) = true) : PE X (.BinOp a .Add b pos) (tC (.int k)) :=
  pe_weak (pe_op oAdd ha hb) fun σ H Q q => add_ii (by rw [of_decide_eq_true h]; exact q)
end
end NW
namespace NW
open PySem PySem.Spec PyProof.Rows L2
open C8 (tCut pss_cut)
theorem passN {X : Cx} : Passes (L2N.CX X.prog X.w) X E0 := fun _ _ _ _ _ _ _ h => by
  obtain ⟨_, _, _, _, _, _, _, _, _, _, _, _, z⟩ := h
  exact z.elim
/-- the module's name x stands for a def that keeps sp, by level k -/
structure HasAt (P : Program) (w : World) (K : PySem.W.Frag) (mg : Str → Option Value) (base : Heap) (x : Str) (k : Nat) (ps : List Str) (sp : Sp) (f : Addr) (fd : FuncData) : Prop where
  g : mg x = some (.ref f)
  kp : PySem.W.keepIn K (.ref f) = true
  b : Binds K fd ps []
  ok : FnOk P w K mg base (L2N.CX P w) k f fd ps sp
def Has (P : Program) (w : World) (K : PySem.W.Frag) (mg : Str → Option Value) (base : Heap) (x : Str) (k : Nat) (ps : List Str) (sp : Sp) : Prop := ∃ f fd, HasAt P w K mg base x k ps sp f fd
section
variable {X : Cx} {k j : Nat} {ps : List Str} {sp : Sp} {x : Str} {p pos : Pos} {e : Expr} {es : List Expr} {t : TA}
theorem pe_dc (h : Has X.prog X.w X.K X.mg X.base x k ps sp) (hr : Room j X.A) (ha : PA X (e :: es) t) (hk : k ≤ j := by decide) (hg : Gl X x := by rfl) (hdb : (x == ("__debug__" : Str)) = false := by decide)
    (he : starEach (e :: es) X.env = (false, eval e X.env) :: starEach es X.env := by rfl) (hpl : (backTo pos (starEach es X.env)).any (·.1) = false := by rfl) : PE X (.Call (.Name x p) (e :: es) [] pos) (tCall sp [] E0 t) := by
  obtain ⟨f, fd, F⟩ := h
  exact pe_call F.ok (hr.mono hk) hg F.g F.kp F.b .nil passN ha hdb he hpl
theorem pe_dcS {E : L2.St → XK} (h : Has X.prog X.w X.K X.mg X.base x k ps sp) (hr : Room j X.A) (hx : ∀ σ, PassesAt (L2N.CX X.prog X.w) X σ (E σ)) (ha : PA X (e :: es) t) (hk : k ≤ j := by decide) (hg : Gl X x := by rfl) (hdb : (x == ("__debug__" : Str)) = false := by decide)
    (he : starEach (e :: es) X.env = (false, eval e X.env) :: starEach es X.env := by rfl) (hpl : (backTo pos (starEach es X.env)).any (·.1) = false := by rfl) : PE X (.Call (.Name x p) (e :: es) [] pos) (tCallS sp E t) := by
  obtain ⟨f, fd, F⟩ := h
  exact pe_callS F.ok (hr.mono hk) hg F.g F.kp F.b hx ha hdb he hpl
end
section
variable {P : Program} {w : World} {K : PySem.W.Frag} {mg : Str → Option Value} {base : Heap} {x : Str} {params : Arguments} {body : List Stmt} {scope : Scope} {f : Addr} {N ps : List Str} {k : Nat} {sp : Sp}
/-- a def that lets nothing out -/
theorem has_of {t : TS} (g : mg x = some (.ref f)) (F : ∃ fd, FunD K x x params body scope [] [] f fd) (S : FnScope N ps scope) (len : ∀ vs H Q E, sp vs H Q E → vs.length = ps.length)
    (bn : ∀ (kV doc pm : Value) (an : Option Addr) (cdv ct : Value) (us : List Value), us.length = ps.length → bindArgs (PySem.W.fnOf x x params body scope .none kV doc pm an cdv ct) ⟨us, []⟩ = pure (ps.zip us))
    (d : ∀ (cdv : Value) (A : Around) (outer : List Env) (s : Shared) (H : Hp) (E : XK), Room k (A.deeper (envOfC x scope s.heap.objs.size f cdv)) → PSs (cxOf (L2N.CX P w) P w K mg base N x scope f cdv A outer s H E).nox body t)
    (pure_ : ∀ vs H Q E, sp vs H Q E → t { nx := fun _ H' => Q .non H', rt := Q } (start N vs) H) : Has P w K mg base x (k + 1) ps sp := by
  obtain ⟨fd, F⟩ := F
  exact ⟨f, fd, g, F.kp, F.bindsN bn, F.ok S len fun cdv A outer s H vs Q E hr h => ⟨t, PSs.nox (d cdv A outer s H E hr), pure_ vs H Q E h⟩⟩
end
/-- a module's constant -/
theorem pe_gi {X : Cx} {x : Str} {i : Int} {pos : Pos} (h : ∃ t, X.mg x = some (.int i t)) (hg : Gl X x := by rfl) (hd : (x == ("__debug__" : Str)) = false := by decide) : PE X (.Name x pos) (tC (.int i)) := by
  obtain ⟨t, h⟩ := h
  exact pe_glob hg h ⟨t, rfl⟩ hd
end NW
namespace NW
open PySem PySem.Spec PyProof.Rows L2
open C8 (tCut pss_cut)
/-- the store: its cells, the next cell's place, .. -/
def Sto (H : Hp) (st : Addr) : Prop := ∃ (cl : Addr) (ns : List Int) (at_ left small seed turn : Int), H st = some (.lst [.ref cl, .int at_, .int left, .int small, .int seed, .int turn]) ∧ H cl = some (.lst (ns.map V.int)) ∧ 0 ≤ at_
/-- all but the store stays -/
structure Keep (st : Addr) (H H' : Hp) : Prop where
  o : ∀ b o, H b = some o → b ≠ st → H' b = some o
  h : ∀ v r, H st = some (.lst (v :: r)) → ∃ r', H' st = some (.lst (v :: r'))
theorem Keep.refl (st : Addr) (H : Hp) : Keep st H H := ⟨fun _ _ h _ => h, fun _ r h => ⟨r, h⟩⟩
theorem Keep.trans {st : Addr} {H H1 H2 : Hp} (a : Keep st H H1) (b : Keep st H1 H2) : Keep st H H2 := ⟨fun c o h n => b.o c o (a.o c o h n) n, fun v r h => by
  obtain ⟨r1, h1⟩ := a.h v r h
  exact b.h v r1 h1⟩
theorem Keep.upd {st : Addr} {H H1 : Hp} {v : V} {r r' : List V} (a : Keep st H H1) (hp : H1 st = some (.lst (v :: r))) : Keep st H (upd H1 st (.lst (v :: r'))) := ⟨fun c u h n => by
  rw [upd_ne n]; exact a.o c u h n, fun w s h => by
  obtain ⟨r1, h1⟩ := a.h w s h
  rw [hp] at h1
  injection h1 with h1
  injection h1 with h1
  injection h1 with h1 h2
  exact ⟨r', by rw [upd_same, h1]⟩⟩
theorem Keep.new {st p : Addr} {H H1 : Hp} {o : HO} (a : Keep st H H1) (hp : H1 p = none) : Keep st H (L2.upd H1 p o) := ⟨fun c u h n => by
  rw [upd_ne (ne_of_none (a.o c u h n) hp)]; exact a.o c u h n, fun w s h => by
  obtain ⟨r1, h1⟩ := a.h w s h
  exact ⟨r1, by rw [upd_ne (ne_of_none h1 hp)]; exact h1⟩⟩
/-- an object of the call's own changes -/
theorem Keep.own {st p : Addr} {H H1 : Hp} {o : HO} (a : Keep st H H1) (hp : H p = none) (hn : p ≠ st) : Keep st H (L2.upd H1 p o) := ⟨fun c u h n => by
  rw [upd_ne (ne_of_none h hp)]; exact a.o c u h n, fun w s h => by
  obtain ⟨r1, h1⟩ := a.h w s h
  exact ⟨r1, by rw [upd_ne (Ne.symm hn)]; exact h1⟩⟩
theorem Sto.own {H : Hp} {st cl p : Addr} {r : List V} {o : HO} (h : Sto H st) (hh : H st = some (.lst (.ref cl :: r))) (h1 : p ≠ st) (h2 : p ≠ cl) : Sto (L2.upd H p o) st := by
  obtain ⟨cl', ns, a, b, c, d, e, g1, g2, g3⟩ := h
  rw [g1] at hh
  injection hh with hh
  injection hh with hh
  injection hh with hh
  injection hh with hh
  subst hh
  exact ⟨cl', ns, a, b, c, d, e, by rw [upd_ne (Ne.symm h1)]; exact g1, by rw [upd_ne (Ne.symm h2)]; exact g2, g3⟩
def aInt : List V → Hp → VK → Prop := fun xs H Q => ((∃ i, xs = [.int i] ∧ Q (.int i) H) ∨ ∃ k, xs = [.bl k] ∧ Q (.int (if k then 1 else 0)) H) ∨ ∃ a n, xs = [.str a] ∧ PySem.intText? a = some n ∧ a.length ≤ 640 ∧ Q (.int n) H
theorem cInt {X : Cx} : CallR X (.type "int") aInt := orCall call_int1 call_int_str
def aAbs : List V → Hp → VK → Prop := fun xs H Q => ∃ i, xs = [.int i] ∧ Q (.int (if i < 0 then -i else i)) H
def aMax : List V → Hp → VK → Prop := fun xs H Q => ∃ i j, xs = [.int i, .int j] ∧ Q (.int (if j > i then j else i)) H
def aMin : List V → Hp → VK → Prop := fun xs H Q => ∃ i j, xs = [.int i, .int j] ∧ Q (.int (if j < i then j else i)) H
def aLen (K : PySem.W.Frag) : List V → Hp → VK → Prop := fun xs H Q => ∃ x n, xs = [x] ∧ LenV K x H n ∧ Q (.int (n : Nat)) H
theorem cLen {X : Cx} : CallR X (.builtin "len") (aLen X.K) := call_len
def aList (K : PySem.W.Frag) : List V → Hp → VK → Prop := fun xs H Q => ∃ p ys, xs = [.ref p] ∧ (SqL K H p ys ∨ SqT K H p ys) ∧ ∀ l, H l = none → Q (.ref l) (upd H l (.lst ys))
theorem cList {X : Cx} : CallR X (.type "list") (aList X.K) := call_list_of
def aIx (K : PySem.W.Frag) : R2 := rIx K
theorem oIx {X : Cx} : IxR X (aIx X.K) := ix_seq
def aSet : TSet := rSetL
theorem oSet {X : Cx} : PSet X aSet := set_list
def iAdd : TIp := rI0 fun i j => .int (i + j)
theorem ioAdd {X : Cx} : PIp X .Add iAdd := fun pins s σ H x y v u Q I rx ry h => iop_add pins s σ H x y v u Q I rx ry h
section
variable {K : PySem.W.Frag} {H : Hp} {Q : VK} {i j : Int} {p : Addr} {xs : List V} {v : V} {σ : L2.St} {ta tb : TE} {t : TA} {B : Bool → Hp → Prop}
theorem int_i (h : Q (.int i) H) : aInt [.int i] H Q := .inl (.inl ⟨i, rfl, h⟩)
theorem abs_i (h : Q (.int (i.natAbs : Int)) H) : aAbs [.int i] H Q := ⟨i, rfl, by
  have e : (if i < 0 then -i else i) = (i.natAbs : Int) := by
    by_cases c : i < 0
    · rw [if_pos c]; omega
    · rw [if_neg c]; omega
  rw [e]; exact h⟩
theorem max_i (h : Q (.int (max i j)) H) : aMax [.int i, .int j] H Q := ⟨i, j, rfl, by
  have e : (if j > i then j else i) = max i j := by
    by_cases c : j > i
    · rw [if_pos c]; omega
    · rw [if_neg c]; omega
  rw [e]; exact h⟩
theorem min_i (h : Q (.int (min i j)) H) : aMin [.int i, .int j] H Q := ⟨i, j, rfl, by
  have e : (if j < i then j else i) = min i j := by
    by_cases c : j < i
    · rw [if_pos c]; omega
    · rw [if_neg c]; omega
  rw [e]; exact h⟩
theorem len_m (hp : H p = some (.lst xs)) (h : Q (.int (xs.length : Nat)) H) : aLen K [.ref p] H Q := ⟨_, _, rfl, .inl ⟨xs, SqL.of hp, rfl⟩, h⟩
theorem len_t (hp : SqT K H p xs) (h : Q (.int (xs.length : Nat)) H) : aLen K [.ref p] H Q := ⟨_, _, rfl, .inr ⟨xs, hp, rfl⟩, h⟩
theorem list_l (hp : SqL K H p xs) (h : NewR (.lst xs) H Q) : aList K [.ref p] H Q := ⟨p, xs, rfl, .inl hp, h⟩
theorem ix_m (hp : H p = some (.lst xs)) (e : atI xs i = some v) (h : Q v H) : aIx K (.ref p) (.int i) H Q := .inl ⟨p, xs, i, v, rfl, rfl, SqL.of hp, e, h⟩
theorem ix_l (hp : SqL K H p xs) (e : atI xs i = some v) (h : Q v H) : aIx K (.ref p) (.int i) H Q := .inl ⟨p, xs, i, v, rfl, rfl, hp, e, h⟩
theorem ix_t (hp : SqT K H p xs) (e : atI xs i = some v) (h : Q v H) : aIx K (.ref p) (.int i) H Q := .inr (.inl ⟨p, xs, i, v, rfl, rfl, hp, e, h⟩)
theorem get_m (hp : H p = some (.lst xs)) (h0 : 0 ≤ i) (e : xs[i.toNat]? = some v) (h : Q v H) : gGetL K (.ref p) (.int i) H Q := ⟨p, xs, i, v, rfl, rfl, h0, SqL.of hp, e, h⟩
theorem set_m {R : Hp → Prop} {n : Nat} (hp : H p = some (.lst xs)) (e : ixN xs.length i = some n) (h : R (upd H p (.lst (xs.set n v)))) : aSet (.ref p) (.int i) v H R := ⟨p, xs, i, n, rfl, rfl, hp, e, h⟩
theorem iadd_ii (h : Q (.int (i + j)) H) : iAdd (.int i) (.int j) H Q := ⟨i, j, rfl, rfl, h⟩
theorem v_augS {tget : V → V → Hp → VK → Prop} {ti : TIp} {tset : TSet} {D : Ends} {te : TE} (h : ta σ H fun o H1 => tb σ H1 fun a H2 => tget o a H2 fun x H3 => te σ H3 fun y H4 => ti x y H4 fun z H5 => tset o a z H5 fun H6 => D.nx σ H6) : tAugS ta tb te tget ti tset D σ H := h
theorem v_sub {tset : TSet} {R : L2.St → Hp → Prop} (h : ta σ H fun o H1 => tb σ H1 fun a H2 => tset o a v H2 fun H3 => R σ H3) : gSub ta tb tset v σ H R := h
theorem v_cons {R : List V → Hp → Prop} (h : ta σ H fun x H1 => t σ H1 fun ys H2 => R (x :: ys) H2) : tCons ta t σ H R := h
theorem v_nil {R : List V → Hp → Prop} (h : R [] H) : tNil σ H R := h
theorem v_cb {r : List V → Hp → VK → Prop} (h : t σ H fun vs H1 => r vs H1 Q) : tCB r t σ H Q := h
theorem v_call {sp : Sp} {E : XK} (h : t σ H fun vs H1 => sp vs H1 Q E) : tCall sp [] E t σ H Q := by
  show t σ H fun vs H1 => sp (vs ++ []) H1 Q E
  have e : (fun (vs : List V) (H1 : Hp) => sp (vs ++ []) H1 Q E) = fun vs H1 => sp vs H1 Q E := by
    funext vs H1
    rw [List.append_nil]
  rw [e]
  exact h
theorem c_and {c d : TT} (h : c σ H fun b H1 => if b = true then d σ H1 B else B false H1) : tAnd c d σ H B := h
theorem c_or {c d : TT} (h : c σ H fun b H1 => if b = true then B true H1 else d σ H1 B) : tOr c d σ H B := h
theorem c_not {c : TT} (h : c σ H fun b H1 => B (!b) H1) : tNot c σ H B := h
theorem if_d {c : Prop} {dc : Decidable c} {A A' : Prop} (h1 : c → A) (h2 : ¬ c → A') : if @decide c dc = true then A else A' := by
  by_cases q : c
  · rw [if_pos (decide_eq_true q)]; exact h1 q
  · rw [if_neg (fun z => q (of_decide_eq_true z))]; exact h2 q
theorem if_t {A A' : Prop} (h : A) : if true = true then A else A' := h
theorem if_f {A A' : Prop} (h : A') : if false = true then A else A' := h
theorem v_var0 (h : Q v H) : tVar 0 (some v :: σ) H Q := ⟨v, rfl, h⟩
theorem s_name0 {o : Option V} {R : L2.St → Hp → Prop} (h : R (some v :: σ) H) : gName 0 v (o :: σ) H R := h
theorem v_aug0 {ti : TIp} {D : Ends} (h : ta (some v :: σ) H fun y H1 => ti v y H1 fun z H2 => D.nx (some z :: σ) H2) : tAug 0 ta ti D (some v :: σ) H := ⟨v, rfl, h⟩
theorem v_var1 {a0 : Option V} (h : Q v H) : tVar 1 (a0 :: some v :: σ) H Q := ⟨v, rfl, h⟩
theorem s_name1 {a0 : Option V} {o : Option V} {R : L2.St → Hp → Prop} (h : R (a0 :: some v :: σ) H) : gName 1 v (a0 :: o :: σ) H R := h
theorem v_aug1 {a0 : Option V} {ti : TIp} {D : Ends} (h : ta (a0 :: some v :: σ) H fun y H1 => ti v y H1 fun z H2 => D.nx (a0 :: some z :: σ) H2) : tAug 1 ta ti D (a0 :: some v :: σ) H := ⟨v, rfl, h⟩
theorem v_var2 {a0 a1 : Option V} (h : Q v H) : tVar 2 (a0 :: a1 :: some v :: σ) H Q := ⟨v, rfl, h⟩
theorem s_name2 {a0 a1 : Option V} {o : Option V} {R : L2.St → Hp → Prop} (h : R (a0 :: a1 :: some v :: σ) H) : gName 2 v (a0 :: a1 :: o :: σ) H R := h
theorem v_aug2 {a0 a1 : Option V} {ti : TIp} {D : Ends} (h : ta (a0 :: a1 :: some v :: σ) H fun y H1 => ti v y H1 fun z H2 => D.nx (a0 :: a1 :: some z :: σ) H2) : tAug 2 ta ti D (a0 :: a1 :: some v :: σ) H := ⟨v, rfl, h⟩
theorem v_var3 {a0 a1 a2 : Option V} (h : Q v H) : tVar 3 (a0 :: a1 :: a2 :: some v :: σ) H Q := ⟨v, rfl, h⟩
theorem s_name3 {a0 a1 a2 : Option V} {o : Option V} {R : L2.St → Hp → Prop} (h : R (a0 :: a1 :: a2 :: some v :: σ) H) : gName 3 v (a0 :: a1 :: a2 :: o :: σ) H R := h
theorem v_aug3 {a0 a1 a2 : Option V} {ti : TIp} {D : Ends} (h : ta (a0 :: a1 :: a2 :: some v :: σ) H fun y H1 => ti v y H1 fun z H2 => D.nx (a0 :: a1 :: a2 :: some z :: σ) H2) : tAug 3 ta ti D (a0 :: a1 :: a2 :: some v :: σ) H := ⟨v, rfl, h⟩
theorem v_var4 {a0 a1 a2 a3 : Option V} (h : Q v H) : tVar 4 (a0 :: a1 :: a2 :: a3 :: some v :: σ) H Q := ⟨v, rfl, h⟩
theorem s_name4 {a0 a1 a2 a3 : Option V} {o : Option V} {R : L2.St → Hp → Prop} (h : R (a0 :: a1 :: a2 :: a3 :: some v :: σ) H) : gName 4 v (a0 :: a1 :: a2 :: a3 :: o :: σ) H R := h
theorem v_aug4 {a0 a1 a2 a3 : Option V} {ti : TIp} {D : Ends} (h : ta (a0 :: a1 :: a2 :: a3 :: some v :: σ) H fun y H1 => ti v y H1 fun z H2 => D.nx (a0 :: a1 :: a2 :: a3 :: some z :: σ) H2) : tAug 4 ta ti D (a0 :: a1 :: a2 :: a3 :: some v :: σ) H := ⟨v, rfl, h⟩
theorem v_var5 {a0 a1 a2 a3 a4 : Option V} (h : Q v H) : tVar 5 (a0 :: a1 :: a2 :: a3 :: a4 :: some v :: σ) H Q := ⟨v, rfl, h⟩
theorem s_name5 {a0 a1 a2 a3 a4 : Option V} {o : Option V} {R : L2.St → Hp → Prop} (h : R (a0 :: a1 :: a2 :: a3 :: a4 :: some v :: σ) H) : gName 5 v (a0 :: a1 :: a2 :: a3 :: a4 :: o :: σ) H R := h
theorem v_aug5 {a0 a1 a2 a3 a4 : Option V} {ti : TIp} {D : Ends} (h : ta (a0 :: a1 :: a2 :: a3 :: a4 :: some v :: σ) H fun y H1 => ti v y H1 fun z H2 => D.nx (a0 :: a1 :: a2 :: a3 :: a4 :: some z :: σ) H2) : tAug 5 ta ti D (a0 :: a1 :: a2 :: a3 :: a4 :: some v :: σ) H := ⟨v, rfl, h⟩
theorem v_var6 {a0 a1 a2 a3 a4 a5 : Option V} (h : Q v H) : tVar 6 (a0 :: a1 :: a2 :: a3 :: a4 :: a5 :: some v :: σ) H Q := ⟨v, rfl, h⟩
theorem s_name6 {a0 a1 a2 a3 a4 a5 : Option V} {o : Option V} {R : L2.St → Hp → Prop} (h : R (a0 :: a1 :: a2 :: a3 :: a4 :: a5 :: some v :: σ) H) : gName 6 v (a0 :: a1 :: a2 :: a3 :: a4 :: a5 :: o :: σ) H R := h
theorem v_aug6 {a0 a1 a2 a3 a4 a5 : Option V} {ti : TIp} {D : Ends} (h : ta (a0 :: a1 :: a2 :: a3 :: a4 :: a5 :: some v :: σ) H fun y H1 => ti v y H1 fun z H2 => D.nx (a0 :: a1 :: a2 :: a3 :: a4 :: a5 :: some z :: σ) H2) : tAug 6 ta ti D (a0 :: a1 :: a2 :: a3 :: a4 :: a5 :: some v :: σ) H := ⟨v, rfl, h⟩
theorem v_var7 {a0 a1 a2 a3 a4 a5 a6 : Option V} (h : Q v H) : tVar 7 (a0 :: a1 :: a2 :: a3 :: a4 :: a5 :: a6 :: some v :: σ) H Q := ⟨v, rfl, h⟩
theorem s_name7 {a0 a1 a2 a3 a4 a5 a6 : Option V} {o : Option V} {R : L2.St → Hp → Prop} (h : R (a0 :: a1 :: a2 :: a3 :: a4 :: a5 :: a6 :: some v :: σ) H) : gName 7 v (a0 :: a1 :: a2 :: a3 :: a4 :: a5 :: a6 :: o :: σ) H R := h
theorem v_aug7 {a0 a1 a2 a3 a4 a5 a6 : Option V} {ti : TIp} {D : Ends} (h : ta (a0 :: a1 :: a2 :: a3 :: a4 :: a5 :: a6 :: some v :: σ) H fun y H1 => ti v y H1 fun z H2 => D.nx (a0 :: a1 :: a2 :: a3 :: a4 :: a5 :: a6 :: some z :: σ) H2) : tAug 7 ta ti D (a0 :: a1 :: a2 :: a3 :: a4 :: a5 :: a6 :: some v :: σ) H := ⟨v, rfl, h⟩
theorem v_var8 {a0 a1 a2 a3 a4 a5 a6 a7 : Option V} (h : Q v H) : tVar 8 (a0 :: a1 :: a2 :: a3 :: a4 :: a5 :: a6 :: a7 :: some v :: σ) H Q := ⟨v, rfl, h⟩
theorem s_name8 {a0 a1 a2 a3 a4 a5 a6 a7 : Option V} {o : Option V} {R : L2.St → Hp → Prop} (h : R (a0 :: a1 :: a2 :: a3 :: a4 :: a5 :: a6 :: a7 :: some v :: σ) H) : gName 8 v (a0 :: a1 :: a2 :: a3 :: a4 :: a5 :: a6 :: a7 :: o :: σ) H R := h
theorem v_aug8 {a0 a1 a2 a3 a4 a5 a6 a7 : Option V} {ti : TIp} {D : Ends} (h : ta (a0 :: a1 :: a2 :: a3 :: a4 :: a5 :: a6 :: a7 :: some v :: σ) H fun y H1 => ti v y H1 fun z H2 => D.nx (a0 :: a1 :: a2 :: a3 :: a4 :: a5 :: a6 :: a7 :: some z :: σ) H2) : tAug 8 ta ti D (a0 :: a1 :: a2 :: a3 :: a4 :: a5 :: a6 :: a7 :: some v :: σ) H := ⟨v, rfl, h⟩
theorem v_var9 {a0 a1 a2 a3 a4 a5 a6 a7 a8 : Option V} (h : Q v H) : tVar 9 (a0 :: a1 :: a2 :: a3 :: a4 :: a5 :: a6 :: a7 :: a8 :: some v :: σ) H Q := ⟨v, rfl, h⟩
theorem s_name9 {a0 a1 a2 a3 a4 a5 a6 a7 a8 : Option V} {o : Option V} {R : L2.St → Hp → Prop} (h : R (a0 :: a1 :: a2 :: a3 :: a4 :: a5 :: a6 :: a7 :: a8 :: some v :: σ) H) : gName 9 v (a0 :: a1 :: a2 :: a3 :: a4 :: a5 :: a6 :: a7 :: a8 :: o :: σ) H R := h
theorem v_aug9 {a0 a1 a2 a3 a4 a5 a6 a7 a8 : Option V} {ti : TIp} {D : Ends} (h : ta (a0 :: a1 :: a2 :: a3 :: a4 :: a5 :: a6 :: a7 :: a8 :: some v :: σ) H fun y H1 => ti v y H1 fun z H2 => D.nx (a0 :: a1 :: a2 :: a3 :: a4 :: a5 :: a6 :: a7 :: a8 :: some z :: σ) H2) : tAug 9 ta ti D (a0 :: a1 :: a2 :: a3 :: a4 :: a5 :: a6 :: a7 :: a8 :: some v :: σ) H := ⟨v, rfl, h⟩
theorem v_var10 {a0 a1 a2 a3 a4 a5 a6 a7 a8 a9 : Option V} (h : Q v H) : tVar 10 (a0 :: a1 :: a2 :: a3 :: a4 :: a5 :: a6 :: a7 :: a8 :: a9 :: some v :: σ) H Q := ⟨v, rfl, h⟩
theorem s_name10 {a0 a1 a2 a3 a4 a5 a6 a7 a8 a9 : Option V} {o : Option V} {R : L2.St → Hp → Prop} (h : R (a0 :: a1 :: a2 :: a3 :: a4 :: a5 :: a6 :: a7 :: a8 :: a9 :: some v :: σ) H) : gName 10 v (a0 :: a1 :: a2 :: a3 :: a4 :: a5 :: a6 :: a7 :: a8 :: a9 :: o :: σ) H R := h
theorem v_aug10 {a0 a1 a2 a3 a4 a5 a6 a7 a8 a9 : Option V} {ti : TIp} {D : Ends} (h : ta (a0 :: a1 :: a2 :: a3 :: a4 :: a5 :: a6 :: a7 :: a8 :: a9 :: some v :: σ) H fun y H1 => ti v y H1 fun z H2 => D.nx (a0 :: a1 :: a2 :: a3 :: a4 :: a5 :: a6 :: a7 :: a8 :: a9 :: some z :: σ) H2) : tAug 10 ta ti D (a0 :: a1 :: a2 :: a3 :: a4 :: a5 :: a6 :: a7 :: a8 :: a9 :: some v :: σ) H := ⟨v, rfl, h⟩
theorem v_var11 {a0 a1 a2 a3 a4 a5 a6 a7 a8 a9 a10 : Option V} (h : Q v H) : tVar 11 (a0 :: a1 :: a2 :: a3 :: a4 :: a5 :: a6 :: a7 :: a8 :: a9 :: a10 :: some v :: σ) H Q := ⟨v, rfl, h⟩
theorem s_name11 {a0 a1 a2 a3 a4 a5 a6 a7 a8 a9 a10 : Option V} {o : Option V} {R : L2.St → Hp → Prop} (h : R (a0 :: a1 :: a2 :: a3 :: a4 :: a5 :: a6 :: a7 :: a8 :: a9 :: a10 :: some v :: σ) H) : gName 11 v (a0 :: a1 :: a2 :: a3 :: a4 :: a5 :: a6 :: a7 :: a8 :: a9 :: a10 :: o :: σ) H R := h
theorem v_aug11 {a0 a1 a2 a3 a4 a5 a6 a7 a8 a9 a10 : Option V} {ti : TIp} {D : Ends} (h : ta (a0 :: a1 :: a2 :: a3 :: a4 :: a5 :: a6 :: a7 :: a8 :: a9 :: a10 :: some v :: σ) H fun y H1 => ti v y H1 fun z H2 => D.nx (a0 :: a1 :: a2 :: a3 :: a4 :: a5 :: a6 :: a7 :: a8 :: a9 :: a10 :: some z :: σ) H2) : tAug 11 ta ti D (a0 :: a1 :: a2 :: a3 :: a4 :: a5 :: a6 :: a7 :: a8 :: a9 :: a10 :: some v :: σ) H := ⟨v, rfl, h⟩
theorem v_var12 {a0 a1 a2 a3 a4 a5 a6 a7 a8 a9 a10 a11 : Option V} (h : Q v H) : tVar 12 (a0 :: a1 :: a2 :: a3 :: a4 :: a5 :: a6 :: a7 :: a8 :: a9 :: a10 :: a11 :: some v :: σ) H Q := ⟨v, rfl, h⟩
theorem s_name12 {a0 a1 a2 a3 a4 a5 a6 a7 a8 a9 a10 a11 : Option V} {o : Option V} {R : L2.St → Hp → Prop} (h : R (a0 :: a1 :: a2 :: a3 :: a4 :: a5 :: a6 :: a7 :: a8 :: a9 :: a10 :: a11 :: some v :: σ) H) : gName 12 v (a0 :: a1 :: a2 :: a3 :: a4 :: a5 :: a6 :: a7 :: a8 :: a9 :: a10 :: a11 :: o :: σ) H R := h
theorem v_aug12 {a0 a1 a2 a3 a4 a5 a6 a7 a8 a9 a10 a11 : Option V} {ti : TIp} {D : Ends} (h : ta (a0 :: a1 :: a2 :: a3 :: a4 :: a5 :: a6 :: a7 :: a8 :: a9 :: a10 :: a11 :: some v :: σ) H fun y H1 => ti v y H1 fun z H2 => D.nx (a0 :: a1 :: a2 :: a3 :: a4 :: a5 :: a6 :: a7 :: a8 :: a9 :: a10 :: a11 :: some z :: σ) H2) : tAug 12 ta ti D (a0 :: a1 :: a2 :: a3 :: a4 :: a5 :: a6 :: a7 :: a8 :: a9 :: a10 :: a11 :: some v :: σ) H := ⟨v, rfl, h⟩
theorem v_var13 {a0 a1 a2 a3 a4 a5 a6 a7 a8 a9 a10 a11 a12 : Option V} (h : Q v H) : tVar 13 (a0 :: a1 :: a2 :: a3 :: a4 :: a5 :: a6 :: a7 :: a8 :: a9 :: a10 :: a11 :: a12 :: some v :: σ) H Q := ⟨v, rfl, h⟩
theorem s_name13 {a0 a1 a2 a3 a4 a5 a6 a7 a8 a9 a10 a11 a12 : Option V} {o : Option V} {R : L2.St → Hp → Prop} (h : R (a0 :: a1 :: a2 :: a3 :: a4 :: a5 :: a6 :: a7 :: a8 :: a9 :: a10 :: a11 :: a12 :: some v :: σ) H) : gName 13 v (a0 :: a1 :: a2 :: a3 :: a4 :: a5 :: a6 :: a7 :: a8 :: a9 :: a10 :: a11 :: a12 :: o :: σ) H R := h
theorem v_aug13 {a0 a1 a2 a3 a4 a5 a6 a7 a8 a9 a10 a11 a12 : Option V} {ti : TIp} {D : Ends} (h : ta (a0 :: a1 :: a2 :: a3 :: a4 :: a5 :: a6 :: a7 :: a8 :: a9 :: a10 :: a11 :: a12 :: some v :: σ) H fun y H1 => ti v y H1 fun z H2 => D.nx (a0 :: a1 :: a2 :: a3 :: a4 :: a5 :: a6 :: a7 :: a8 :: a9 :: a10 :: a11 :: a12 :: some z :: σ) H2) : tAug 13 ta ti D (a0 :: a1 :: a2 :: a3 :: a4 :: a5 :: a6 :: a7 :: a8 :: a9 :: a10 :: a11 :: a12 :: some v :: σ) H := ⟨v, rfl, h⟩
theorem v_var14 {a0 a1 a2 a3 a4 a5 a6 a7 a8 a9 a10 a11 a12 a13 : Option V} (h : Q v H) : tVar 14 (a0 :: a1 :: a2 :: a3 :: a4 :: a5 :: a6 :: a7 :: a8 :: a9 :: a10 :: a11 :: a12 :: a13 :: some v :: σ) H Q := ⟨v, rfl, h⟩
theorem s_name14 {a0 a1 a2 a3 a4 a5 a6 a7 a8 a9 a10 a11 a12 a13 : Option V} {o : Option V} {R : L2.St → Hp → Prop} (h : R (a0 :: a1 :: a2 :: a3 :: a4 :: a5 :: a6 :: a7 :: a8 :: a9 :: a10 :: a11 :: a12 :: a13 :: some v :: σ) H) : gName 14 v (a0 :: a1 :: a2 :: a3 :: a4 :: a5 :: a6 :: a7 :: a8 :: a9 :: a10 :: a11 :: a12 :: a13 :: o :: σ) H R := h
theorem v_aug14 {a0 a1 a2 a3 a4 a5 a6 a7 a8 a9 a10 a11 a12 a13 : Option V} {ti : TIp} {D : Ends} (h : ta (a0 :: a1 :: a2 :: a3 :: a4 :: a5 :: a6 :: a7 :: a8 :: a9 :: a10 :: a11 :: a12 :: a13 :: some v :: σ) H fun y H1 => ti v y H1 fun z H2 => D.nx (a0 :: a1 :: a2 :: a3 :: a4 :: a5 :: a6 :: a7 :: a8 :: a9 :: a10 :: a11 :: a12 :: a13 :: some z :: σ) H2) : tAug 14 ta ti D (a0 :: a1 :: a2 :: a3 :: a4 :: a5 :: a6 :: a7 :: a8 :: a9 :: a10 :: a11 :: a12 :: a13 :: some v :: σ) H := ⟨v, rfl, h⟩
theorem v_var15 {a0 a1 a2 a3 a4 a5 a6 a7 a8 a9 a10 a11 a12 a13 a14 : Option V} (h : Q v H) : tVar 15 (a0 :: a1 :: a2 :: a3 :: a4 :: a5 :: a6 :: a7 :: a8 :: a9 :: a10 :: a11 :: a12 :: a13 :: a14 :: some v :: σ) H Q := ⟨v, rfl, h⟩
theorem s_name15 {a0 a1 a2 a3 a4 a5 a6 a7 a8 a9 a10 a11 a12 a13 a14 : Option V} {o : Option V} {R : L2.St → Hp → Prop} (h : R (a0 :: a1 :: a2 :: a3 :: a4 :: a5 :: a6 :: a7 :: a8 :: a9 :: a10 :: a11 :: a12 :: a13 :: a14 :: some v :: σ) H) : gName 15 v (a0 :: a1 :: a2 :: a3 :: a4 :: a5 :: a6 :: a7 :: a8 :: a9 :: a10 :: a11 :: a12 :: a13 :: a14 :: o :: σ) H R := h
theorem v_aug15 {a0 a1 a2 a3 a4 a5 a6 a7 a8 a9 a10 a11 a12 a13 a14 : Option V} {ti : TIp} {D : Ends} (h : ta (a0 :: a1 :: a2 :: a3 :: a4 :: a5 :: a6 :: a7 :: a8 :: a9 :: a10 :: a11 :: a12 :: a13 :: a14 :: some v :: σ) H fun y H1 => ti v y H1 fun z H2 => D.nx (a0 :: a1 :: a2 :: a3 :: a4 :: a5 :: a6 :: a7 :: a8 :: a9 :: a10 :: a11 :: a12 :: a13 :: a14 :: some z :: σ) H2) : tAug 15 ta ti D (a0 :: a1 :: a2 :: a3 :: a4 :: a5 :: a6 :: a7 :: a8 :: a9 :: a10 :: a11 :: a12 :: a13 :: a14 :: some v :: σ) H := ⟨v, rfl, h⟩
theorem mod_r (h1 : 0 < j) (h : ∀ r, 0 ≤ r → r < j → r = i % j → Q (.int r) H) : aMod (.int i) (.int j) H Q := mod_ii h1 (h _ (Int.emod_nonneg _ (by omega)) (Int.emod_lt_of_pos _ h1) rfl)
theorem div_r (h1 : 0 < j) (h2 : j < 2 ^ 300) (h : ∀ r, r = i / j → Q (.int r) H) : aDiv (.int i) (.int j) H Q := div_ii h1 h2 (h _ rfl)
theorem ixN_lit {n k : Nat} (h0 : (0 : Int) ≤ (k : Int)) (h : (k : Int) < n) : ixN n (k : Int) = some k := by
  unfold ixN
  rw [if_pos h0, if_pos h]
  rfl
theorem ix_m0 {r : List V} (hp : H p = some (.lst (v :: r))) (h : Q v H) : aIx K (.ref p) (.int 0) H Q := ix_m hp (atI_nat (j := 0) rfl) h
theorem get_m0 {r : List V} (hp : H p = some (.lst (v :: r))) (h : Q v H) : gGetL K (.ref p) (.int 0) H Q := get_m hp (by decide) rfl h
theorem ix_m1 {a0 : V} {r : List V} (hp : H p = some (.lst (a0 :: v :: r))) (h : Q v H) : aIx K (.ref p) (.int 1) H Q := ix_m hp (atI_nat (j := 1) rfl) h
theorem get_m1 {a0 : V} {r : List V} (hp : H p = some (.lst (a0 :: v :: r))) (h : Q v H) : gGetL K (.ref p) (.int 1) H Q := get_m hp (by decide) rfl h
theorem set_m1 {a0 : V} {o : V} {r : List V} {R : Hp → Prop} (hp : H p = some (.lst (a0 :: o :: r))) (h : R (upd H p (.lst (a0 :: v :: r)))) : aSet (.ref p) (.int 1) v H R := set_m hp (n := 1) (ixN_lit (by decide) (by simp only [List.length_cons]; omega)) h
theorem ix_m2 {a0 a1 : V} {r : List V} (hp : H p = some (.lst (a0 :: a1 :: v :: r))) (h : Q v H) : aIx K (.ref p) (.int 2) H Q := ix_m hp (atI_nat (j := 2) rfl) h
theorem get_m2 {a0 a1 : V} {r : List V} (hp : H p = some (.lst (a0 :: a1 :: v :: r))) (h : Q v H) : gGetL K (.ref p) (.int 2) H Q := get_m hp (by decide) rfl h
theorem set_m2 {a0 a1 : V} {o : V} {r : List V} {R : Hp → Prop} (hp : H p = some (.lst (a0 :: a1 :: o :: r))) (h : R (upd H p (.lst (a0 :: a1 :: v :: r)))) : aSet (.ref p) (.int 2) v H R := set_m hp (n := 2) (ixN_lit (by decide) (by simp only [List.length_cons]; omega)) h
theorem ix_m3 {a0 a1 a2 : V} {r : List V} (hp : H p = some (.lst (a0 :: a1 :: a2 :: v :: r))) (h : Q v H) : aIx K (.ref p) (.int 3) H Q := ix_m hp (atI_nat (j := 3) rfl) h
theorem get_m3 {a0 a1 a2 : V} {r : List V} (hp : H p = some (.lst (a0 :: a1 :: a2 :: v :: r))) (h : Q v H) : gGetL K (.ref p) (.int 3) H Q := get_m hp (by decide) rfl h
theorem set_m3 {a0 a1 a2 : V} {o : V} {r : List V} {R : Hp → Prop} (hp : H p = some (.lst (a0 :: a1 :: a2 :: o :: r))) (h : R (upd H p (.lst (a0 :: a1 :: a2 :: v :: r)))) : aSet (.ref p) (.int 3) v H R := set_m hp (n := 3) (ixN_lit (by decide) (by simp only [List.length_cons]; omega)) h
theorem ix_m4 {a0 a1 a2 a3 : V} {r : List V} (hp : H p = some (.lst (a0 :: a1 :: a2 :: a3 :: v :: r))) (h : Q v H) : aIx K (.ref p) (.int 4) H Q := ix_m hp (atI_nat (j := 4) rfl) h
theorem get_m4 {a0 a1 a2 a3 : V} {r : List V} (hp : H p = some (.lst (a0 :: a1 :: a2 :: a3 :: v :: r))) (h : Q v H) : gGetL K (.ref p) (.int 4) H Q := get_m hp (by decide) rfl h
theorem set_m4 {a0 a1 a2 a3 : V} {o : V} {r : List V} {R : Hp → Prop} (hp : H p = some (.lst (a0 :: a1 :: a2 :: a3 :: o :: r))) (h : R (upd H p (.lst (a0 :: a1 :: a2 :: a3 :: v :: r)))) : aSet (.ref p) (.int 4) v H R := set_m hp (n := 4) (ixN_lit (by decide) (by simp only [List.length_cons]; omega)) h
theorem ix_m5 {a0 a1 a2 a3 a4 : V} {r : List V} (hp : H p = some (.lst (a0 :: a1 :: a2 :: a3 :: a4 :: v :: r))) (h : Q v H) : aIx K (.ref p) (.int 5) H Q := ix_m hp (atI_nat (j := 5) rfl) h
theorem get_m5 {a0 a1 a2 a3 a4 : V} {r : List V} (hp : H p = some (.lst (a0 :: a1 :: a2 :: a3 :: a4 :: v :: r))) (h : Q v H) : gGetL K (.ref p) (.int 5) H Q := get_m hp (by decide) rfl h
theorem set_m5 {a0 a1 a2 a3 a4 : V} {o : V} {r : List V} {R : Hp → Prop} (hp : H p = some (.lst (a0 :: a1 :: a2 :: a3 :: a4 :: o :: r))) (h : R (upd H p (.lst (a0 :: a1 :: a2 :: a3 :: a4 :: v :: r)))) : aSet (.ref p) (.int 5) v H R := set_m hp (n := 5) (ixN_lit (by decide) (by simp only [List.length_cons]; omega)) h
theorem st_set1 {st : Addr} {H0 : Hp} {c0 c1 c2 c3 c4 c5 v : V} {R : Hp → Prop} (hp : H st = some (.lst [c0, c1, c2, c3, c4, c5])) (k : Keep st H0 H) (h : ∀ H1, H1 st = some (.lst [c0, v, c2, c3, c4, c5]) → Keep st H0 H1 → R H1) : aSet (.ref st) (.int 1) v H R := set_m1 hp (h _ upd_same (k.upd hp))
theorem st_set2 {st : Addr} {H0 : Hp} {c0 c1 c2 c3 c4 c5 v : V} {R : Hp → Prop} (hp : H st = some (.lst [c0, c1, c2, c3, c4, c5])) (k : Keep st H0 H) (h : ∀ H1, H1 st = some (.lst [c0, c1, v, c3, c4, c5]) → Keep st H0 H1 → R H1) : aSet (.ref st) (.int 2) v H R := set_m2 hp (h _ upd_same (k.upd hp))
theorem st_set3 {st : Addr} {H0 : Hp} {c0 c1 c2 c3 c4 c5 v : V} {R : Hp → Prop} (hp : H st = some (.lst [c0, c1, c2, c3, c4, c5])) (k : Keep st H0 H) (h : ∀ H1, H1 st = some (.lst [c0, c1, c2, v, c4, c5]) → Keep st H0 H1 → R H1) : aSet (.ref st) (.int 3) v H R := set_m3 hp (h _ upd_same (k.upd hp))
theorem st_set4 {st : Addr} {H0 : Hp} {c0 c1 c2 c3 c4 c5 v : V} {R : Hp → Prop} (hp : H st = some (.lst [c0, c1, c2, c3, c4, c5])) (k : Keep st H0 H) (h : ∀ H1, H1 st = some (.lst [c0, c1, c2, c3, v, c5]) → Keep st H0 H1 → R H1) : aSet (.ref st) (.int 4) v H R := set_m4 hp (h _ upd_same (k.upd hp))
theorem st_set5 {st : Addr} {H0 : Hp} {c0 c1 c2 c3 c4 c5 v : V} {R : Hp → Prop} (hp : H st = some (.lst [c0, c1, c2, c3, c4, c5])) (k : Keep st H0 H) (h : ∀ H1, H1 st = some (.lst [c0, c1, c2, c3, c4, v]) → Keep st H0 H1 → R H1) : aSet (.ref st) (.int 5) v H R := set_m5 hp (h _ upd_same (k.upd hp))
theorem s_next {D : Ends} (h : D.nx σ H) : tNext D σ H := h
theorem s_break {D : Ends} (h : D.bk σ H) : tBreak D σ H := h
theorem s_cont {D : Ends} (h : D.ct σ H) : tCont D σ H := h
theorem s_cut {D : Ends} {t1 t2 : TS} (Mid : L2.St → Hp → Prop) (h1 : t1 { D with nx := Mid } σ H) (h2 : ∀ σ' H', Mid σ' H' → t2 D σ' H') : tCut t1 t2 D σ H := ⟨Mid, h1, h2⟩
end
theorem atI_ints {ns : List Int} {k : Int} (h0 : 0 ≤ k) (h : k < ((ns.map V.int).length : Nat)) : ∃ c : Int, atI (ns.map V.int) k = some (.int c) := by
  rw [List.length_map] at h
  have hk : k.toNat < ns.length := by omega
  have ek : k = ((k.toNat : Nat) : Int) := by omega
  refine ⟨ns[k.toNat], ?_⟩
  have q : atI (ns.map V.int) ((k.toNat : Nat) : Int) = some (.int ns[k.toNat]) := atI_nat (by rw [List.getElem?_map, List.getElem?_eq_getElem hk] <;> rfl)
  rw [← ek] at q
  exact q
/-- what a for owes where its iterator J stands -/
def LoopI (J : It) (g : TG) (tb : TS) (D : Ends) (σ : L2.St) (H : Hp) : Prop := ∃ W : Nat → Nat → L2.St → Hp → Prop, (∃ m, W 0 m σ H) ∧ ∀ i m σ H, W i m σ H →
  (J.stop i H ∧ D.nx σ H) ∨ (J.go i H ∧ ∃ N : L2.St → Hp → Prop, (∀ σ' H', N σ' H' → ∃ m', m' < m ∧ W (i + 1) m' σ' H') ∧ ∀ x H', J.yld i H x H' → g x σ H' fun σ2 H2 => tb { D with nx := N, ct := N, bk := D.nx } σ2 H2)
section
variable {K : PySem.W.Frag} {H : Hp} {σ : L2.St} {D : Ends} {g : TG} {tb : TS} {ta : TA} {te : TE}
theorem s_for1 (h : ta σ H fun vs H1 => ∃ j : Int, vs = [.int j] ∧ -(2 ^ 62) ≤ j ∧ j < 2 ^ 62 ∧ LoopI (Itr 0 j.toNat) g tb D σ H1) : tFor (iRng1 ta) g tb D σ H := h
theorem rng1 {j : Int} {R : Int → Prop} (h1 : -(2 ^ 62) ≤ j) (h2 : j < 2 ^ 62) (h : R j) : ∃ j' : Int, [V.int j] = [.int j'] ∧ -(2 ^ 62) ≤ j' ∧ j' < 2 ^ 62 ∧ R j' := ⟨j, rfl, h1, h2, h⟩
theorem loop_rng {n : Nat} (Pv : Nat → L2.St → Hp → Prop) (h0 : Pv 0 σ H) (hs : ∀ i σ H, i < n → Pv i σ H → g (.int (i : Int)) σ H fun σ2 H2 => tb { D with nx := Pv (i + 1), ct := Pv (i + 1), bk := D.nx } σ2 H2)
    (hd : ∀ σ H, Pv n σ H → D.nx σ H) : LoopI (Itr 0 n) g tb D σ H := for_range Pv h0 (fun i σ H hi hp => by rw [Int.zero_add]; exact hs i σ H hi hp) hd
theorem s_forL (h : te σ H fun x H1 => ∃ a, x = .ref a ∧ (∃ xs, SqL K H1 a xs) ∧ LoopI (Itl K a) g tb D σ H1) : tFor (iList K te) g tb D σ H := h
theorem lst1 {a : Addr} {xs : List V} {R : Addr → Prop} (hq : SqL K H a xs) (h : R a) : ∃ a', V.ref a = .ref a' ∧ (∃ xs, SqL K H a' xs) ∧ R a' := ⟨a, rfl, ⟨xs, hq⟩, h⟩
theorem loop_lst {a : Addr} (xs : List V) (Pv : Nat → L2.St → Hp → Prop) (h0 : Pv 0 σ H) (hl : ∀ i σ H, i ≤ xs.length → Pv i σ H → SqL K H a xs)
    (hs : ∀ i x σ H, xs[i]? = some x → Pv i σ H → g x σ H fun σ2 H2 => tb { D with nx := Pv (i + 1), ct := Pv (i + 1), bk := D.nx } σ2 H2) (hd : ∀ σ H, Pv xs.length σ H → D.nx σ H) : LoopI (Itl K a) g tb D σ H := for_list Pv h0 hl hs hd
end
end NW
namespace NW
open PySem PySem.Spec PyProof.Rows L2
open C8 (tCut pss_cut)
local macro_rules | `(tactic| walk_at "nw") => `(tactic| first
  | with_reducible refine s_seq ?_
  | with_reducible refine s_asg ?_
  | with_reducible refine s_if ?_
  | with_reducible refine s_ret ?_
  | with_reducible refine s_drop ?_
  | with_reducible refine v_var0 ?_
  | with_reducible refine s_name0 ?_
  | with_reducible refine v_aug0 ?_
  | with_reducible refine v_var1 ?_
  | with_reducible refine s_name1 ?_
  | with_reducible refine v_aug1 ?_
  | with_reducible refine v_var2 ?_
  | with_reducible refine s_name2 ?_
  | with_reducible refine v_aug2 ?_
  | with_reducible refine v_var3 ?_
  | with_reducible refine s_name3 ?_
  | with_reducible refine v_aug3 ?_
  | with_reducible refine v_var4 ?_
  | with_reducible refine s_name4 ?_
  | with_reducible refine v_aug4 ?_
  | with_reducible refine v_var5 ?_
  | with_reducible refine s_name5 ?_
  | with_reducible refine v_aug5 ?_
  | with_reducible refine v_var6 ?_
  | with_reducible refine s_name6 ?_
  | with_reducible refine v_aug6 ?_
  | with_reducible refine v_var7 ?_
  | with_reducible refine s_name7 ?_
  | with_reducible refine v_aug7 ?_
  | with_reducible refine v_var8 ?_
  | with_reducible refine s_name8 ?_
  | with_reducible refine v_aug8 ?_
  | with_reducible refine v_var9 ?_
  | with_reducible refine s_name9 ?_
  | with_reducible refine v_aug9 ?_
  | with_reducible refine v_var10 ?_
  | with_reducible refine s_name10 ?_
  | with_reducible refine v_aug10 ?_
  | with_reducible refine v_var11 ?_
  | with_reducible refine s_name11 ?_
  | with_reducible refine v_aug11 ?_
  | with_reducible refine v_var12 ?_
  | with_reducible refine s_name12 ?_
  | with_reducible refine v_aug12 ?_
  | with_reducible refine v_var13 ?_
  | with_reducible refine s_name13 ?_
  | with_reducible refine v_aug13 ?_
  | with_reducible refine v_var14 ?_
  | with_reducible refine s_name14 ?_
  | with_reducible refine v_aug14 ?_
  | with_reducible refine v_var15 ?_
  | with_reducible refine s_name15 ?_
  | with_reducible refine v_aug15 ?_
  | with_reducible refine v_c ?_
  | with_reducible refine v_op ?_
  | with_reducible refine v_cons ?_
  | with_reducible refine v_nil ?_
  | with_reducible refine v_cb ?_
  | with_reducible refine v_call ?_
  | with_reducible refine c_test ?_
  | with_reducible refine c_bl ?_
  | with_reducible refine c_and ?_
  | with_reducible refine c_or ?_
  | with_reducible refine c_not ?_
  | with_reducible refine v_augS ?_
  | with_reducible refine v_sub ?_
  | with_reducible refine add_ii ?_
  | with_reducible refine sub_ii ?_
  | with_reducible refine iadd_ii ?_
  | with_reducible refine lt_ii ?_
  | with_reducible refine le_ii ?_
  | with_reducible refine gt_ii ?_
  | with_reducible refine ge_ii ?_
  | with_reducible refine eq_ii ?_
  | with_reducible refine ne_ii ?_
  | with_reducible refine int_i ?_
  | with_reducible refine abs_i ?_
  | with_reducible refine max_i ?_
  | with_reducible refine min_i ?_
  | with_reducible refine mul_r (by omega) (by omega) ?_
  | with_reducible refine mul_l (by omega) (by omega) ?_
  | with_reducible refine ix_m0 (by assumption) ?_
  | with_reducible refine get_m0 (by assumption) ?_
  | with_reducible refine ix_m1 (by assumption) ?_
  | with_reducible refine get_m1 (by assumption) ?_
  | with_reducible refine ix_m2 (by assumption) ?_
  | with_reducible refine get_m2 (by assumption) ?_
  | with_reducible refine ix_m3 (by assumption) ?_
  | with_reducible refine get_m3 (by assumption) ?_
  | with_reducible refine ix_m4 (by assumption) ?_
  | with_reducible refine get_m4 (by assumption) ?_
  | with_reducible refine ix_m5 (by assumption) ?_
  | with_reducible refine get_m5 (by assumption) ?_
  | (with_reducible refine st_set1 (by assumption) (by assumption) ?_; intro H1 hs1 kp1)
  | (with_reducible refine st_set2 (by assumption) (by assumption) ?_; intro H1 hs1 kp1)
  | (with_reducible refine st_set3 (by assumption) (by assumption) ?_; intro H1 hs1 kp1)
  | (with_reducible refine st_set4 (by assumption) (by assumption) ?_; intro H1 hs1 kp1)
  | (with_reducible refine st_set5 (by assumption) (by assumption) ?_; intro H1 hs1 kp1)
  | with_reducible refine len_m (by assumption) ?_
  | with_reducible refine s_for1 ?_
  | with_reducible refine s_forL ?_
  | with_reducible refine rng1 (by omega) (by omega) ?_
  | with_reducible refine s_next ?_
  | with_reducible refine s_break ?_
  | with_reducible refine s_cont ?_
  | with_reducible refine if_t ?_
  | with_reducible refine if_f ?_)
def sp_mix : Sp := fun vs H Q _ => ∃ a b : Int, vs = [.int a, .int b] ∧ ∀ r : Int, 0 ≤ r → r < 9967 → Q (.int r) H
def t_mix (K : PySem.W.Frag) : TS :=
  (tSeq (tAsg (tOp aMod (tOp aAdd (tOp aAdd (tOp aMul (tCB aInt (tCons (tVar 0) tNil)) (tC (.int 29))) (tOp aMul (tCB aInt (tCons (tVar 1) tNil)) (tC (.int 4001)))) (tC (.int 17))) (tC (.int 10007))) (gName 2))
    (tSeq (tAsg (tOp aMod (tOp aAdd (tOp aAdd (tOp aAdd (tOp aMul (tVar 2) (tVar 2)) (tVar 2)) (tCB aInt (tCons (tVar 0) tNil))) (tCB aInt (tCons (tVar 1) tNil))) (tC (.int 9973))) (gName 3))
    (tRet (tOp aMod (tOp aAdd (tOp aAdd (tOp aMul (tVar 3) (tVar 3)) (tOp aMul (tC (.int 3)) (tVar 3))) (tVar 2)) (tC (.int 9967))))))
theorem p_mix (K : PySem.W.Frag) (vs : List V) (H : Hp) (Q : VK) (E : XK) (h : sp_mix vs H Q E) : t_mix K { nx := fun _ H' => Q .non H', rt := Q } (start ["seed", "turn", "one", "two"] vs) H := by
  obtain ⟨a, b, e, q⟩ := h
  subst e
  show t_mix K _ [some (.int a), some (.int b), none, none] H
  unfold t_mix
  repeat walk_at "nw"
  refine mod_r (by omega) fun one h0 h1 _ => ?_
  repeat walk_at "nw"
  refine mod_r (by omega) fun two h2 h3 _ => ?_
  repeat walk_at "nw"
  refine mod_r (by omega) fun r h4 h5 _ => ?_
  repeat walk_at "nw"
  exact q r h4 h5
def sp_take : Sp := fun vs H Q _ => ∃ (st : Addr) (many : Int), vs = [.ref st, .int many] ∧ Sto H st ∧ many < 2 ^ 300 ∧ ∀ (r : Int) (H' : Hp), Sto H' st → Keep st H H' → 0 ≤ r → (r < many ∨ r = 0) → Q (.int r) H'
def t_take (K : PySem.W.Frag) : TS :=
  (tSeq (tIfS (tTest (tOp aLt (tVar 1) (tC (.int 2)))) (tRet (tC (.int 0))) tNext)
    (tCut (tIfS (tAnd (tTest (tOp aEq (tOp (aIx K) (tVar 0) (tC (.int 2))) (tC (.int 0)))) (tAnd (tTest (tOp aEq (tOp (aIx K) (tVar 0) (tC (.int 3))) (tC (.int 0)))) (tTest (tOp aLt (tOp (aIx K) (tVar 0) (tC (.int 1))) (tCB (aLen K) (tCons (tOp (aIx K) (tVar 0) (tC (.int 0))) tNil)))))) (tSeq (tAsg (tCB aInt (tCons (tOp (aIx K) (tOp (aIx K) (tVar 0) (tC (.int 0))) (tOp (aIx K) (tVar 0) (tC (.int 1)))) tNil)) (gName 2))
    (tSeq (tAugS (tVar 0) (tC (.int 1)) (tC (.int 1)) (gGetL K) iAdd aSet)
    (tSeq (tAsg (tOp aMod (tCB aInt (tCons (tOp aAdd (tOp aMul (tOp (aIx K) (tVar 0) (tC (.int 4))) (tC (.int 31))) (tVar 2)) tNil)) (tC (.int 100000007))) (gSub (tVar 0) (tC (.int 4)) aSet))
    (tIfS (tTest (tOp aGe (tCB aAbs (tCons (tVar 2) tNil)) (tC (.int 1000000000000000000)))) (tAsg (tCB aAbs (tCons (tVar 2) tNil)) (gSub (tVar 0) (tC (.int 2)) aSet)) (tAsg (tC (.int 2)) (gSub (tVar 0) (tC (.int 3)) aSet)))))) tNext)
    (tSeq (tAugS (tVar 0) (tC (.int 5)) (tC (.int 1)) (gGetL K) iAdd aSet)
    (tSeq (tIfS (tTest (tOp aGt (tOp (aIx K) (tVar 0) (tC (.int 2))) (tC (.int 0)))) (tSeq (tAsg (tCB aInt (tCons (tOp (aIx K) (tVar 0) (tC (.int 2))) tNil)) (gName 3))
    (tSeq (tAsg (tOp aDiv (tVar 3) (tVar 1)) (gSub (tVar 0) (tC (.int 2)) aSet))
    (tRet (tOp aMod (tVar 3) (tVar 1))))) tNext)
    (tSeq (tAsg (tCB aMax (tCons (tC (.int 0)) (tCons (tOp aSub (tOp (aIx K) (tVar 0) (tC (.int 3))) (tC (.int 1))) tNil))) (gSub (tVar 0) (tC (.int 3)) aSet))
    (tSeq (tAsg (tC (.int 0)) (gName 4))
    (tSeq (tAsg (tC (.int 1)) (gName 5))
    (tSeq (tFor (iRng1 (tCons (tC (.int 60)) tNil)) (gName 6) (tSeq (tIfS (tTest (tOp aGe (tVar 5) (tVar 1))) tBreak tNext)
    (tSeq (tAsg (tOp aAdd (tOp aMul (tVar 4) (tC (.int 9967))) (tCall sp_mix [] E0 (tCons (tOp (aIx K) (tVar 0) (tC (.int 4))) (tCons (tOp aAdd (tOp (aIx K) (tVar 0) (tC (.int 5))) (tOp aMul (tC (.int 977)) (tVar 6))) tNil)))) (gName 4))
    (tAsg (tOp aMul (tVar 5) (tC (.int 9967))) (gName 5)))))
    (tRet (tOp aMod (tCB aInt (tCons (tVar 4) tNil)) (tVar 1)))))))))))
theorem p_take (K : PySem.W.Frag) (vs : List V) (H : Hp) (Q : VK) (E : XK) (h : sp_take vs H Q E) : t_take K { nx := fun _ H' => Q .non H', rt := Q } (start ["store", "many", "cell", "digits", "number", "room", "k"] vs) H := by
  obtain ⟨st, many, e, ⟨cl, ns, at_, left, small, seed, turn, hs, hc, h0⟩, hm, q⟩ := h
  subst e
  show t_take K _ [some (.ref st), some (.int many), none, none, none, none, none] H
  have hne : cl ≠ st := fun z => by
    rw [z, hs] at hc
    cases ns with
    | nil => cases hc
    | cons a r => cases hc
  have kp := Keep.refl st H
  unfold t_take
  repeat walk_at "nw"
  refine if_d (fun c => ?_) (fun c => ?_)
  · repeat walk_at "nw"
    exact q 0 H ⟨cl, ns, at_, left, small, seed, turn, hs, hc, h0⟩ (Keep.refl _ _) (by omega) (.inr rfl)
  have kc : ∀ {H2 : Hp}, Keep st H H2 → H2 cl = some (.lst (ns.map V.int)) := fun k => k.o cl _ hc hne
  refine s_cut (fun σ' H' => ∃ (o : Option V) (at_ left small seed turn : Int), σ' = [some (.ref st), some (.int many), o, none, none, none, none] ∧
    H' st = some (.lst [.ref cl, .int at_, .int left, .int small, .int seed, .int turn]) ∧ 0 ≤ at_ ∧ Keep st H H') ?_ ?_
  · -- the store's cells: the next one is begun, or nothing is done
    have stay : ∃ (o : Option V) (at_ left small seed turn : Int), [some (V.ref st), some (V.int many), none, none, none, none, none] = [some (.ref st), some (.int many), o, none, none, none, none] ∧
      H st = some (.lst [.ref cl, .int at_, .int left, .int small, .int seed, .int turn]) ∧ 0 ≤ at_ ∧ Keep st H H := ⟨none, at_, left, small, seed, turn, rfl, hs, h0, kp⟩
    repeat walk_at "nw"
    refine if_d (fun _ => ?_) (fun _ => ?_)
    rotate_left
    · repeat walk_at "nw"
      exact stay
    repeat walk_at "nw"
    refine if_d (fun _ => ?_) (fun _ => ?_)
    rotate_left
    · repeat walk_at "nw"
      exact stay
    repeat walk_at "nw"
    refine if_d (fun c3 => ?_) (fun _ => ?_)
    rotate_left
    · repeat walk_at "nw"
      exact stay
    obtain ⟨cell, hcell⟩ := atI_ints h0 c3
    repeat walk_at "nw"
    refine ix_m hc hcell ?_
    repeat walk_at "nw"
    refine mod_r (by omega) fun seed' _ _ _ => ?_
    repeat walk_at "nw"
    refine if_d (fun _ => ?_) (fun _ => ?_)
    · repeat walk_at "nw"
      exact ⟨_, _, _, _, _, _, rfl, by assumption, by omega, by assumption⟩
    · repeat walk_at "nw"
      exact ⟨_, _, _, _, _, _, rfl, by assumption, by omega, by assumption⟩
  · clear hs kp
    rintro σ' H' ⟨o, at_, left, small, seed, turn, rfl, hs, h0, kp⟩
    repeat walk_at "nw"
    refine if_d (fun c2 => ?_) (fun _ => ?_)
    · repeat walk_at "nw"
      refine div_r (by omega) hm fun d _ => ?_
      repeat walk_at "nw"
      refine mod_r (by omega) fun r h4 h5 _ => ?_
      exact q r _ ⟨cl, ns, _, _, _, _, _, by assumption, kc (by assumption), h0⟩ (by assumption) h4 (.inl h5)
    · repeat walk_at "nw"
      rename_i H1 hs1 kp1
      have fin : ∀ number : Int, aMod (.int number) (.int many) H1 Q := fun number => mod_r (by omega) fun r h4 h5 _ => q r _ ⟨cl, ns, _, _, _, _, _, hs1, kc kp1, h0⟩ kp1 h4 (.inl h5)
      refine loop_rng (fun _ σ' H' => ∃ (number room : Int) (kk : Option V), σ' = [some (.ref st), some (.int many), o, none, some (.int number), some (.int room), kk] ∧ H' = H1) ⟨0, 1, none, rfl, rfl⟩ ?_ ?_
      · rintro i σ' H' _ ⟨number, room, kk, rfl, rfl⟩
        repeat walk_at "nw"
        refine if_d (fun _ => ?_) (fun _ => ?_)
        · repeat walk_at "nw"
          exact fin _
        · repeat walk_at "nw"
          refine ⟨_, _, rfl, fun r _ _ => ?_⟩
          repeat walk_at "nw"
          exact ⟨_, _, _, rfl, rfl⟩
      · rintro σ' H' ⟨number, room, kk, rfl, rfl⟩
        repeat walk_at "nw"
        exact fin _
theorem l_mix : ∀ vs H Q E, sp_mix vs H Q E → vs.length = 2 := fun _ _ _ _ ⟨_, _, e, _⟩ => by rw [e]; rfl
theorem l_take : ∀ vs H Q E, sp_take vs H Q E → vs.length = 2 := fun _ _ _ _ ⟨_, _, e, _⟩ => by rw [e]; rfl
end NW
namespace NW
open PySem PySem.Spec PyProof.Rows L2
open C8 (tCut pss_cut)
def aIsi (K : PySem.W.Frag) : List V → Hp → VK → Prop := fun xs H Q => rIsi K xs H Q ∨ rIsiT K xs H Q
theorem cIsi {X : Cx} : CallR X (.builtin "isinstance") (aIsi X.K) := orCall call_isi call_isiT
section
variable {K : PySem.W.Frag} {H : Hp} {Q : VK} {x : V} {T a : String} {b : Bool}
theorem isi_of (ht : TyX K H x (.type a)) (hb : kitB a T = some b) (h : Q (.bl b) H) : aIsi K [x, .ty T] H Q := .inl ⟨x, _, _, _, b, rfl, .ty T, ht, kit_ty hb, h⟩
theorem isi_two {p : Addr} {T U : String} {b c : Bool} (ht : TyX K H x (.type a)) (hp : H p = some (.tup [.ty T, .ty U])) (hb : kitB a T = some b) (hc : kitB a U = some c) (h : Q (.bl (b || c)) H) : aIsi K [x, .ref p] H Q :=
  .inr ⟨x, p, _, _, _, b || c, rfl, hp, .cons (.ty T) (.cons (.ty U) .nil), ht, kitAny_cons (kit_ty hb) (fun e => by rw [e]; exact kitAny_cons (kit_ty hc) (fun e2 => by rw [e2]; rfl) (fun e2 => by rw [e2]; rfl)) (fun e => by rw [e]; rfl), h⟩
end
section
variable {K : PySem.W.Frag} {H H0 : Hp} {Q : VK} {i : Int} {k : Bool} {s : Str} {p t : Addr} {xs : List V} {kvs : List (Key × V)}
theorem isi_non_bool (h : Q (.bl false) H) : aIsi K [.non, .ty "bool"] H Q := isi_of (.base .non) (by decide +kernel) h
theorem isi_non_int (h : Q (.bl false) H) : aIsi K [.non, .ty "int"] H Q := isi_of (.base .non) (by decide +kernel) h
theorem isi_non_str (h : Q (.bl false) H) : aIsi K [.non, .ty "str"] H Q := isi_of (.base .non) (by decide +kernel) h
theorem isi_non_list (h : Q (.bl false) H) : aIsi K [.non, .ty "list"] H Q := isi_of (.base .non) (by decide +kernel) h
theorem isi_non_tuple (h : Q (.bl false) H) : aIsi K [.non, .ty "tuple"] H Q := isi_of (.base .non) (by decide +kernel) h
theorem isi_non_dict (h : Q (.bl false) H) : aIsi K [.non, .ty "dict"] H Q := isi_of (.base .non) (by decide +kernel) h
theorem isi_non_seq (ht : H t = some (.tup [.ty "list", .ty "tuple"])) (h : Q (.bl false) H) : aIsi K [.non, .ref t] H Q := isi_two (b := false) (c := false) (.base .non) ht (by decide +kernel) (by decide +kernel) h
theorem isi_bl_bool (h : Q (.bl true) H) : aIsi K [(.bl k), .ty "bool"] H Q := isi_of (.base (.bl _)) (by decide +kernel) h
theorem isi_bl_int (h : Q (.bl true) H) : aIsi K [(.bl k), .ty "int"] H Q := isi_of (.base (.bl _)) (by decide +kernel) h
theorem isi_bl_str (h : Q (.bl false) H) : aIsi K [(.bl k), .ty "str"] H Q := isi_of (.base (.bl _)) (by decide +kernel) h
theorem isi_bl_list (h : Q (.bl false) H) : aIsi K [(.bl k), .ty "list"] H Q := isi_of (.base (.bl _)) (by decide +kernel) h
theorem isi_bl_tuple (h : Q (.bl false) H) : aIsi K [(.bl k), .ty "tuple"] H Q := isi_of (.base (.bl _)) (by decide +kernel) h
theorem isi_bl_dict (h : Q (.bl false) H) : aIsi K [(.bl k), .ty "dict"] H Q := isi_of (.base (.bl _)) (by decide +kernel) h
theorem isi_bl_seq (ht : H t = some (.tup [.ty "list", .ty "tuple"])) (h : Q (.bl false) H) : aIsi K [(.bl k), .ref t] H Q := isi_two (b := false) (c := false) (.base (.bl _)) ht (by decide +kernel) (by decide +kernel) h
theorem isi_int_bool (h : Q (.bl false) H) : aIsi K [(.int i), .ty "bool"] H Q := isi_of (.base (.int _)) (by decide +kernel) h
theorem isi_int_int (h : Q (.bl true) H) : aIsi K [(.int i), .ty "int"] H Q := isi_of (.base (.int _)) (by decide +kernel) h
theorem isi_int_str (h : Q (.bl false) H) : aIsi K [(.int i), .ty "str"] H Q := isi_of (.base (.int _)) (by decide +kernel) h
theorem isi_int_list (h : Q (.bl false) H) : aIsi K [(.int i), .ty "list"] H Q := isi_of (.base (.int _)) (by decide +kernel) h
theorem isi_int_tuple (h : Q (.bl false) H) : aIsi K [(.int i), .ty "tuple"] H Q := isi_of (.base (.int _)) (by decide +kernel) h
theorem isi_int_dict (h : Q (.bl false) H) : aIsi K [(.int i), .ty "dict"] H Q := isi_of (.base (.int _)) (by decide +kernel) h
theorem isi_int_seq (ht : H t = some (.tup [.ty "list", .ty "tuple"])) (h : Q (.bl false) H) : aIsi K [(.int i), .ref t] H Q := isi_two (b := false) (c := false) (.base (.int _)) ht (by decide +kernel) (by decide +kernel) h
theorem isi_str_bool (h : Q (.bl false) H) : aIsi K [(.str s), .ty "bool"] H Q := isi_of (.base (.str _)) (by decide +kernel) h
theorem isi_str_int (h : Q (.bl false) H) : aIsi K [(.str s), .ty "int"] H Q := isi_of (.base (.str _)) (by decide +kernel) h
theorem isi_str_str (h : Q (.bl true) H) : aIsi K [(.str s), .ty "str"] H Q := isi_of (.base (.str _)) (by decide +kernel) h
theorem isi_str_list (h : Q (.bl false) H) : aIsi K [(.str s), .ty "list"] H Q := isi_of (.base (.str _)) (by decide +kernel) h
theorem isi_str_tuple (h : Q (.bl false) H) : aIsi K [(.str s), .ty "tuple"] H Q := isi_of (.base (.str _)) (by decide +kernel) h
theorem isi_str_dict (h : Q (.bl false) H) : aIsi K [(.str s), .ty "dict"] H Q := isi_of (.base (.str _)) (by decide +kernel) h
theorem isi_str_seq (ht : H t = some (.tup [.ty "list", .ty "tuple"])) (h : Q (.bl false) H) : aIsi K [(.str s), .ref t] H Q := isi_two (b := false) (c := false) (.base (.str _)) ht (by decide +kernel) (by decide +kernel) h
theorem isi_lst_bool (hs : Same H0 H) (hp : H0 p = some (.lst xs)) (h : Q (.bl false) H) : aIsi K [(.ref p), .ty "bool"] H Q := isi_of (.base (.lst (hs _ _ hp))) (by decide +kernel) h
theorem isi_lst_int (hs : Same H0 H) (hp : H0 p = some (.lst xs)) (h : Q (.bl false) H) : aIsi K [(.ref p), .ty "int"] H Q := isi_of (.base (.lst (hs _ _ hp))) (by decide +kernel) h
theorem isi_lst_str (hs : Same H0 H) (hp : H0 p = some (.lst xs)) (h : Q (.bl false) H) : aIsi K [(.ref p), .ty "str"] H Q := isi_of (.base (.lst (hs _ _ hp))) (by decide +kernel) h
theorem isi_lst_list (hs : Same H0 H) (hp : H0 p = some (.lst xs)) (h : Q (.bl true) H) : aIsi K [(.ref p), .ty "list"] H Q := isi_of (.base (.lst (hs _ _ hp))) (by decide +kernel) h
theorem isi_lst_tuple (hs : Same H0 H) (hp : H0 p = some (.lst xs)) (h : Q (.bl false) H) : aIsi K [(.ref p), .ty "tuple"] H Q := isi_of (.base (.lst (hs _ _ hp))) (by decide +kernel) h
theorem isi_lst_dict (hs : Same H0 H) (hp : H0 p = some (.lst xs)) (h : Q (.bl false) H) : aIsi K [(.ref p), .ty "dict"] H Q := isi_of (.base (.lst (hs _ _ hp))) (by decide +kernel) h
theorem isi_lst_seq (hs : Same H0 H) (hp : H0 p = some (.lst xs)) (ht : H t = some (.tup [.ty "list", .ty "tuple"])) (h : Q (.bl true) H) : aIsi K [(.ref p), .ref t] H Q := isi_two (b := true) (c := false) (.base (.lst (hs _ _ hp))) ht (by decide +kernel) (by decide +kernel) h
theorem isi_tup_bool (hs : Same H0 H) (hp : H0 p = some (.tup xs)) (h : Q (.bl false) H) : aIsi K [(.ref p), .ty "bool"] H Q := isi_of (.base (.tup (hs _ _ hp))) (by decide +kernel) h
theorem isi_tup_int (hs : Same H0 H) (hp : H0 p = some (.tup xs)) (h : Q (.bl false) H) : aIsi K [(.ref p), .ty "int"] H Q := isi_of (.base (.tup (hs _ _ hp))) (by decide +kernel) h
theorem isi_tup_str (hs : Same H0 H) (hp : H0 p = some (.tup xs)) (h : Q (.bl false) H) : aIsi K [(.ref p), .ty "str"] H Q := isi_of (.base (.tup (hs _ _ hp))) (by decide +kernel) h
theorem isi_tup_list (hs : Same H0 H) (hp : H0 p = some (.tup xs)) (h : Q (.bl false) H) : aIsi K [(.ref p), .ty "list"] H Q := isi_of (.base (.tup (hs _ _ hp))) (by decide +kernel) h
theorem isi_tup_tuple (hs : Same H0 H) (hp : H0 p = some (.tup xs)) (h : Q (.bl true) H) : aIsi K [(.ref p), .ty "tuple"] H Q := isi_of (.base (.tup (hs _ _ hp))) (by decide +kernel) h
theorem isi_tup_dict (hs : Same H0 H) (hp : H0 p = some (.tup xs)) (h : Q (.bl false) H) : aIsi K [(.ref p), .ty "dict"] H Q := isi_of (.base (.tup (hs _ _ hp))) (by decide +kernel) h
theorem isi_tup_seq (hs : Same H0 H) (hp : H0 p = some (.tup xs)) (ht : H t = some (.tup [.ty "list", .ty "tuple"])) (h : Q (.bl true) H) : aIsi K [(.ref p), .ref t] H Q := isi_two (b := false) (c := true) (.base (.tup (hs _ _ hp))) ht (by decide +kernel) (by decide +kernel) h
theorem isi_dK_bool (hs : Same H0 H) (hp : H0 p = some (.dK kvs)) (h : Q (.bl false) H) : aIsi K [(.ref p), .ty "bool"] H Q := isi_of (.base (.dK (hs _ _ hp))) (by decide +kernel) h
theorem isi_dK_int (hs : Same H0 H) (hp : H0 p = some (.dK kvs)) (h : Q (.bl false) H) : aIsi K [(.ref p), .ty "int"] H Q := isi_of (.base (.dK (hs _ _ hp))) (by decide +kernel) h
theorem isi_dK_str (hs : Same H0 H) (hp : H0 p = some (.dK kvs)) (h : Q (.bl false) H) : aIsi K [(.ref p), .ty "str"] H Q := isi_of (.base (.dK (hs _ _ hp))) (by decide +kernel) h
theorem isi_dK_list (hs : Same H0 H) (hp : H0 p = some (.dK kvs)) (h : Q (.bl false) H) : aIsi K [(.ref p), .ty "list"] H Q := isi_of (.base (.dK (hs _ _ hp))) (by decide +kernel) h
theorem isi_dK_tuple (hs : Same H0 H) (hp : H0 p = some (.dK kvs)) (h : Q (.bl false) H) : aIsi K [(.ref p), .ty "tuple"] H Q := isi_of (.base (.dK (hs _ _ hp))) (by decide +kernel) h
theorem isi_dK_dict (hs : Same H0 H) (hp : H0 p = some (.dK kvs)) (h : Q (.bl true) H) : aIsi K [(.ref p), .ty "dict"] H Q := isi_of (.base (.dK (hs _ _ hp))) (by decide +kernel) h
theorem isi_dK_seq (hs : Same H0 H) (hp : H0 p = some (.dK kvs)) (ht : H t = some (.tup [.ty "list", .ty "tuple"])) (h : Q (.bl false) H) : aIsi K [(.ref p), .ref t] H Q := isi_two (b := false) (c := false) (.base (.dK (hs _ _ hp))) ht (by decide +kernel) (by decide +kernel) h
/-- a new tuple -/
theorem tup_new {σ : L2.St} {ta : TA} (h : ta σ H fun ys H1 => ys.length ≤ sizeLine ∧ NewR (.tup ys) H1 Q) : tTup ta σ H Q := h
theorem lst_new {σ : L2.St} {ta : TA} (h : ta σ H fun ys H1 => ys.length ≤ sizeLine ∧ NewR (.lst ys) H1 Q) : tLst ta σ H Q := h
theorem lit_len {ys : List V} {A : Prop} (hl : ys.length ≤ 1000000) (h : A) : ys.length ≤ sizeLine ∧ A := ⟨Nat.le_trans hl (by decide), h⟩
theorem new_same {o : HO} (hs : Same H0 H) (h : ∀ q H1, H q = none → H1 q = some o → Same H H1 → Same H0 H1 → Q (.ref q) H1) : NewR o H Q :=
  fun q hq => h q _ hq upd_same (fun b o e => by rw [upd_ne (ne_of_none e hq)]; exact e) (fun b o e => by rw [upd_ne (ne_of_none (hs b o e) hq)]; exact hs b o e)
theorem ev_isN {σ : L2.St} {te : TE} (h : te σ H fun x H1 => Q (.bl (decide (x = .non))) H1) : tIsN te σ H Q := h
theorem ev_tB {σ : L2.St} {te : TE} {B : Bool → Hp → Prop} (h : te σ H fun x H1 => ∃ c, x = .bl c ∧ B c H1) : tB te σ H B := h
theorem ev_and {σ : L2.St} {ta tb : TE} (h : ta σ H fun x H1 => ∃ c, x = .bl c ∧ if c = true then tb σ H1 Q else Q (.bl false) H1) : tAndV ta tb σ H Q := h
theorem ev_or {σ : L2.St} {ta tb : TE} (h : ta σ H fun x H1 => ∃ c, x = .bl c ∧ if c = true then Q (.bl true) H1 else tb σ H1 Q) : tOrV ta tb σ H Q := h
theorem ev_not {σ : L2.St} {ta : TE} (h : ta σ H fun x H1 => ∃ c, x = .bl c ∧ Q (.bl (!c)) H1) : tNotV ta σ H Q := h
def tTru (K : PySem.W.Frag) (ta : TE) : TT := fun σ H Q => ta σ H fun x H' => ∃ k, TruV K x H' k ∧ Q k H'
theorem c_tru {σ : L2.St} {te : TE} {B : Bool → Hp → Prop} (h : te σ H fun x H' => ∃ k, TruV K x H' k ∧ B k H') : tTru K te σ H B := h
theorem tru_bl {b : Bool} {B : Bool → Prop} (h : B b) : ∃ k, TruV K (.bl b) H k ∧ B k := ⟨b, rfl, h⟩
theorem if_dT {c : Prop} {dc : Decidable c} {A A' : Prop} (hc : c) (h : A) : if @decide c dc = true then A else A' := by rw [if_pos (decide_eq_true hc)]; exact h
theorem if_dF {c : Prop} {dc : Decidable c} {A A' : Prop} (hc : ¬ c) (h : A') : if @decide c dc = true then A else A' := by rw [if_neg (fun z => hc (of_decide_eq_true z))]; exact h
theorem eq_bb {b c : Bool} (h : Q (.bl (decide (b = c))) H) : aEq (.bl b) (.bl c) H Q := eq_sc rfl (by rw [dec_bl, Bool.beq_eq_decide_eq]; exact h)
theorem eq_ss {b c : Str} (h : Q (.bl (decide (b = c))) H) : aEq (.str b) (.str c) H Q := eq_sc rfl (by
  have e : decide (V.str b = V.str c) = decide (b = c) := decide_eq_decide.mpr ⟨fun z => V.str.inj z, fun z => by rw [z]⟩
  rw [e]; exact h)
theorem if_nt {A A' : Prop} (h : A') : if (!true) = true then A else A' := h
theorem if_nf {A A' : Prop} (h : A) : if (!false) = true then A else A' := h
theorem if_nd {c : Prop} {dc : Decidable c} {A A' : Prop} (h1 : c → A') (h2 : ¬ c → A) : if (!@decide c dc) = true then A else A' := by
  by_cases q : c
  · rw [decide_eq_true q]; exact h1 q
  · rw [decide_eq_false q]; exact h2 q
theorem len_ms (hs : Same H0 H) (hp : H0 p = some (.lst xs)) (h : Q (.int (xs.length : Nat)) H) : aLen K [.ref p] H Q := len_m (hs _ _ hp) h
theorem len_ts (hs : Same H0 H) (hp : H0 p = some (.tup xs)) (h : Q (.int (xs.length : Nat)) H) : aLen K [.ref p] H Q := len_t (SqT.of (hs _ _ hp)) h
end
inductive DT where
  | non
  | bl (b : Bool)
  | int (i : Int)
  | str (s : Str)
  | lst (xs : List DT)
  | tup (xs : List DT)
mutual
inductive Is (H : Hp) : V → DT → Prop where
  | non : Is H .non .non
  | bl (b : Bool) : Is H (.bl b) (.bl b)
  | int (i : Int) : Is H (.int i) (.int i)
  | str (s : Str) : Is H (.str s) (.str s)
  | lst {a : Addr} {vs : List V} {xs : List DT} : H a = some (.lst vs) → Iss H vs xs → vs.length ≤ 1000000 → Is H (.ref a) (.lst xs)
  | tup {a : Addr} {vs : List V} {xs : List DT} : H a = some (.tup vs) → Iss H vs xs → vs.length ≤ 1000000 → Is H (.ref a) (.tup xs)
inductive Iss (H : Hp) : List V → List DT → Prop where
  | nil : Iss H [] []
  | cons {v : V} {vs : List V} {x : DT} {xs : List DT} : Is H v x → Iss H vs xs → Iss H (v :: vs) (x :: xs)
end
mutual
def DT.dep : DT → Nat
  | .lst xs => depL xs + 1
  | .tup xs => depL xs + 1
  | _ => 0
def depL : List DT → Nat
  | [] => 0
  | x :: xs => max x.dep (depL xs)
end
theorem Iss.len {H : Hp} : ∀ {vs : List V} {xs : List DT}, Iss H vs xs → vs.length = xs.length
  | _, _, .nil => rfl
  | _, _, .cons _ t => congrArg (· + 1) (Iss.len t)
theorem Iss.at {H : Hp} : ∀ {vs : List V} {xs : List DT} {i : Nat}, Iss H vs xs → i < vs.length → ∃ v x, vs[i]? = some v ∧ xs[i]? = some x ∧ Is H v x
  | _, _, _, .nil, h => absurd h (Nat.not_lt_zero _)
  | _, _, 0, .cons a _, _ => ⟨_, _, rfl, rfl, a⟩
  | _, _, i + 1, .cons _ t, h => by
    obtain ⟨v, x, h1, h2, h3⟩ := Iss.at (i := i) t (Nat.lt_of_succ_lt_succ h)
    exact ⟨v, x, h1, h2, h3⟩
theorem depL_at : ∀ {xs : List DT} {i : Nat} {x : DT}, xs[i]? = some x → x.dep ≤ depL xs
  | [], _, _, h => by simp at h
  | y :: ys, 0, x, h => by
    have e : y = x := Option.some.inj h
    subst e
    exact Nat.le_max_left _ _
  | y :: ys, i + 1, x, h => Nat.le_trans (depL_at (xs := ys) (i := i) h) (Nat.le_max_right _ _)
mutual
theorem Is.mono {H H' : Hp} (s : Same H H') : ∀ {v : V} {d : DT}, Is H v d → Is H' v d
  | _, _, .non => .non
  | _, _, .bl b => .bl b
  | _, _, .int i => .int i
  | _, _, .str x => .str x
  | _, _, .lst h t l => .lst (s _ _ h) (Iss.mono s t) l
  | _, _, .tup h t l => .tup (s _ _ h) (Iss.mono s t) l
theorem Iss.mono {H H' : Hp} (s : Same H H') : ∀ {vs : List V} {ds : List DT}, Iss H vs ds → Iss H' vs ds
  | _, _, .nil => .nil
  | _, _, .cons a t => .cons (Is.mono s a) (Iss.mono s t)
end
/-- one and other, of depth less than n: True exactly if they are the same through and through -/
def sp_same : Nat → Sp
  | 0 => fun _ _ _ _ => False
  | n + 1 => fun vs H Q _ => ∃ (x y : V) (d e : DT), vs = [x, y] ∧ Is H x d ∧ Is H y e ∧ d.dep ≤ n ∧ ∀ (b : Bool) (H' : Hp), Same H H' → (b = true ↔ d = e) → Q (.bl b) H'
theorem l_same : ∀ n vs H Q E, sp_same n vs H Q E → vs.length = 2
  | 0, _, _, _, _, h => h.elim
  | n + 1, _, _, _, _, ⟨_, _, _, _, e, _⟩ => by rw [e]; rfl
def t_same (K : PySem.W.Frag) (n : Nat) : TS :=
  (tSeq (tIfS (tOr (tB (tIsN (tVar 0))) (tB (tIsN (tVar 1)))) (tRet (tAndV (tIsN (tVar 0)) (tIsN (tVar 1)))) tNext)
    (tSeq (tIfS (tOr (tTru K (tCB (aIsi K) (tCons (tVar 0) (tCons (tC (.ty "bool")) tNil)))) (tTru K (tCB (aIsi K) (tCons (tVar 1) (tCons (tC (.ty "bool")) tNil))))) (tRet (tAndV (tCB (aIsi K) (tCons (tVar 0) (tCons (tC (.ty "bool")) tNil))) (tAndV (tCB (aIsi K) (tCons (tVar 1) (tCons (tC (.ty "bool")) tNil))) (tOp aEq (tVar 0) (tVar 1))))) tNext)
    (tSeq (tIfS (tTru K (tCB (aIsi K) (tCons (tVar 0) (tCons (tC (.ty "int")) tNil)))) (tRet (tAndV (tCB (aIsi K) (tCons (tVar 1) (tCons (tC (.ty "int")) tNil))) (tOp aEq (tVar 0) (tVar 1)))) tNext)
    (tSeq (tIfS (tTru K (tCB (aIsi K) (tCons (tVar 0) (tCons (tC (.ty "str")) tNil)))) (tRet (tAndV (tCB (aIsi K) (tCons (tVar 1) (tCons (tC (.ty "str")) tNil))) (tOp aEq (tVar 0) (tVar 1)))) tNext)
    (tSeq (tIfS (tTru K (tCB (aIsi K) (tCons (tVar 0) (tCons (tC (.ty "dict")) tNil)))) tNever tNext)
    (tSeq (tIfS (tAnd (tTru K (tCB (aIsi K) (tCons (tVar 0) (tCons (tC (.ty "list")) tNil)))) (tNot (tTru K (tCB (aIsi K) (tCons (tVar 1) (tCons (tC (.ty "list")) tNil)))))) (tRet (tC (.bl false))) tNext)
    (tSeq (tIfS (tAnd (tTru K (tCB (aIsi K) (tCons (tVar 0) (tCons (tC (.ty "tuple")) tNil)))) (tNot (tTru K (tCB (aIsi K) (tCons (tVar 1) (tCons (tC (.ty "tuple")) tNil)))))) (tRet (tC (.bl false))) tNext)
    (tSeq (tIfS (tOr (tNot (tTru K (tCB (aIsi K) (tCons (tVar 0) (tCons (tTup (tCons (tC (.ty "list")) (tCons (tC (.ty "tuple")) tNil))) tNil))))) (tTest (tOp aNe (tCB (aLen K) (tCons (tVar 0) tNil)) (tCB (aLen K) (tCons (tVar 1) tNil))))) (tRet (tC (.bl false))) tNext)
    (tSeq (tFor (iRng1 (tCons (tCB (aLen K) (tCons (tVar 0) tNil)) tNil)) (gName 2) (tIfS (tNot (tTru K (tCall (sp_same n) [] E0 (tCons (tOp (aIx K) (tVar 0) (tVar 2)) (tCons (tOp (aIx K) (tVar 1) (tVar 2)) tNil))))) (tRet (tC (.bl false))) tNext))
    (tRet (tC (.bl true))))))))))))
local macro_rules | `(tactic| walk_at "nw") => `(tactic| first
  | with_reducible refine s_seq ?_
  | with_reducible refine s_asg ?_
  | with_reducible refine s_if ?_
  | with_reducible refine s_ret ?_
  | with_reducible refine s_drop ?_
  | with_reducible refine v_var0 ?_
  | with_reducible refine s_name0 ?_
  | with_reducible refine v_aug0 ?_
  | with_reducible refine v_var1 ?_
  | with_reducible refine s_name1 ?_
  | with_reducible refine v_aug1 ?_
  | with_reducible refine v_var2 ?_
  | with_reducible refine s_name2 ?_
  | with_reducible refine v_aug2 ?_
  | with_reducible refine v_var3 ?_
  | with_reducible refine s_name3 ?_
  | with_reducible refine v_aug3 ?_
  | with_reducible refine v_var4 ?_
  | with_reducible refine s_name4 ?_
  | with_reducible refine v_aug4 ?_
  | with_reducible refine v_var5 ?_
  | with_reducible refine s_name5 ?_
  | with_reducible refine v_aug5 ?_
  | with_reducible refine v_var6 ?_
  | with_reducible refine s_name6 ?_
  | with_reducible refine v_aug6 ?_
  | with_reducible refine v_var7 ?_
  | with_reducible refine s_name7 ?_
  | with_reducible refine v_aug7 ?_
  | with_reducible refine v_var8 ?_
  | with_reducible refine s_name8 ?_
  | with_reducible refine v_aug8 ?_
  | with_reducible refine v_var9 ?_
  | with_reducible refine s_name9 ?_
  | with_reducible refine v_aug9 ?_
  | with_reducible refine v_var10 ?_
  | with_reducible refine s_name10 ?_
  | with_reducible refine v_aug10 ?_
  | with_reducible refine v_var11 ?_
  | with_reducible refine s_name11 ?_
  | with_reducible refine v_aug11 ?_
  | with_reducible refine v_var12 ?_
  | with_reducible refine s_name12 ?_
  | with_reducible refine v_aug12 ?_
  | with_reducible refine v_var13 ?_
  | with_reducible refine s_name13 ?_
  | with_reducible refine v_aug13 ?_
  | with_reducible refine v_var14 ?_
  | with_reducible refine s_name14 ?_
  | with_reducible refine v_aug14 ?_
  | with_reducible refine v_var15 ?_
  | with_reducible refine s_name15 ?_
  | with_reducible refine v_aug15 ?_
  | with_reducible refine v_c ?_
  | with_reducible refine v_op ?_
  | with_reducible refine v_cons ?_
  | with_reducible refine v_nil ?_
  | with_reducible refine v_cb ?_
  | with_reducible refine v_call ?_
  | with_reducible refine c_test ?_
  | with_reducible refine c_bl ?_
  | with_reducible refine c_and ?_
  | with_reducible refine c_or ?_
  | with_reducible refine c_not ?_
  | with_reducible refine v_augS ?_
  | with_reducible refine v_sub ?_
  | with_reducible refine add_ii ?_
  | with_reducible refine sub_ii ?_
  | with_reducible refine iadd_ii ?_
  | with_reducible refine lt_ii ?_
  | with_reducible refine le_ii ?_
  | with_reducible refine gt_ii ?_
  | with_reducible refine ge_ii ?_
  | with_reducible refine eq_ii ?_
  | with_reducible refine ne_ii ?_
  | with_reducible refine int_i ?_
  | with_reducible refine abs_i ?_
  | with_reducible refine max_i ?_
  | with_reducible refine min_i ?_
  | with_reducible refine mul_r (by omega) (by omega) ?_
  | with_reducible refine mul_l (by omega) (by omega) ?_
  | with_reducible refine ix_m0 (by assumption) ?_
  | with_reducible refine get_m0 (by assumption) ?_
  | with_reducible refine ix_m1 (by assumption) ?_
  | with_reducible refine get_m1 (by assumption) ?_
  | with_reducible refine ix_m2 (by assumption) ?_
  | with_reducible refine get_m2 (by assumption) ?_
  | with_reducible refine ix_m3 (by assumption) ?_
  | with_reducible refine get_m3 (by assumption) ?_
  | with_reducible refine ix_m4 (by assumption) ?_
  | with_reducible refine get_m4 (by assumption) ?_
  | with_reducible refine ix_m5 (by assumption) ?_
  | with_reducible refine get_m5 (by assumption) ?_
  | (with_reducible refine st_set1 (by assumption) (by assumption) ?_; intro H1 hs1 kp1)
  | (with_reducible refine st_set2 (by assumption) (by assumption) ?_; intro H1 hs1 kp1)
  | (with_reducible refine st_set3 (by assumption) (by assumption) ?_; intro H1 hs1 kp1)
  | (with_reducible refine st_set4 (by assumption) (by assumption) ?_; intro H1 hs1 kp1)
  | (with_reducible refine st_set5 (by assumption) (by assumption) ?_; intro H1 hs1 kp1)
  | with_reducible refine len_m (by assumption) ?_
  | with_reducible refine s_for1 ?_
  | with_reducible refine s_forL ?_
  | with_reducible refine rng1 (by omega) (by omega) ?_
  | with_reducible refine s_next ?_
  | with_reducible refine s_break ?_
  | with_reducible refine s_cont ?_
  | with_reducible refine isi_non_bool ?_
  | with_reducible refine isi_non_int ?_
  | with_reducible refine isi_non_str ?_
  | with_reducible refine isi_non_list ?_
  | with_reducible refine isi_non_tuple ?_
  | with_reducible refine isi_non_dict ?_
  | with_reducible refine isi_non_seq (by assumption) ?_
  | with_reducible refine isi_bl_bool ?_
  | with_reducible refine isi_bl_int ?_
  | with_reducible refine isi_bl_str ?_
  | with_reducible refine isi_bl_list ?_
  | with_reducible refine isi_bl_tuple ?_
  | with_reducible refine isi_bl_dict ?_
  | with_reducible refine isi_bl_seq (by assumption) ?_
  | with_reducible refine isi_int_bool ?_
  | with_reducible refine isi_int_int ?_
  | with_reducible refine isi_int_str ?_
  | with_reducible refine isi_int_list ?_
  | with_reducible refine isi_int_tuple ?_
  | with_reducible refine isi_int_dict ?_
  | with_reducible refine isi_int_seq (by assumption) ?_
  | with_reducible refine isi_str_bool ?_
  | with_reducible refine isi_str_int ?_
  | with_reducible refine isi_str_str ?_
  | with_reducible refine isi_str_list ?_
  | with_reducible refine isi_str_tuple ?_
  | with_reducible refine isi_str_dict ?_
  | with_reducible refine isi_str_seq (by assumption) ?_
  | with_reducible refine isi_lst_bool (by assumption) (by assumption) ?_
  | with_reducible refine isi_lst_int (by assumption) (by assumption) ?_
  | with_reducible refine isi_lst_str (by assumption) (by assumption) ?_
  | with_reducible refine isi_lst_list (by assumption) (by assumption) ?_
  | with_reducible refine isi_lst_tuple (by assumption) (by assumption) ?_
  | with_reducible refine isi_lst_dict (by assumption) (by assumption) ?_
  | with_reducible refine isi_lst_seq (by assumption) (by assumption) (by assumption) ?_
  | with_reducible refine isi_tup_bool (by assumption) (by assumption) ?_
  | with_reducible refine isi_tup_int (by assumption) (by assumption) ?_
  | with_reducible refine isi_tup_str (by assumption) (by assumption) ?_
  | with_reducible refine isi_tup_list (by assumption) (by assumption) ?_
  | with_reducible refine isi_tup_tuple (by assumption) (by assumption) ?_
  | with_reducible refine isi_tup_dict (by assumption) (by assumption) ?_
  | with_reducible refine isi_tup_seq (by assumption) (by assumption) (by assumption) ?_
  | with_reducible refine isi_dK_bool (by assumption) (by assumption) ?_
  | with_reducible refine isi_dK_int (by assumption) (by assumption) ?_
  | with_reducible refine isi_dK_str (by assumption) (by assumption) ?_
  | with_reducible refine isi_dK_list (by assumption) (by assumption) ?_
  | with_reducible refine isi_dK_tuple (by assumption) (by assumption) ?_
  | with_reducible refine isi_dK_dict (by assumption) (by assumption) ?_
  | with_reducible refine isi_dK_seq (by assumption) (by assumption) (by assumption) ?_
  | with_reducible refine eq_bb ?_
  | with_reducible refine eq_ss ?_
  | with_reducible refine ev_isN ?_
  | with_reducible refine ev_tB ?_
  | with_reducible refine ev_and ?_
  | with_reducible refine ev_or ?_
  | with_reducible refine ev_not ?_
  | with_reducible refine c_tru ?_
  | with_reducible refine tru_bl ?_
  | with_reducible refine if_nt ?_
  | with_reducible refine if_nf ?_
  | with_reducible refine tup_new ?_
  | with_reducible refine lst_new ?_
  | with_reducible refine len_ms (by assumption) (by assumption) ?_
  | with_reducible refine len_ts (by assumption) (by assumption) ?_
  | ((with_reducible refine lit_len ?_ ?_); (focus (first | decide | (simp; done) | (simp; omega))))
  | (with_reducible refine new_same (by assumption) ?_; intro q1 H1 hq1 he1 sm1 hs1)
  | with_reducible refine if_dT rfl ?_
  | ((with_reducible refine if_dF ?_ ?_); focus (intro z; cases z; done))
  | with_reducible refine if_t ?_
  | with_reducible refine if_f ?_)
set_option maxHeartbeats 8000000 in
theorem p_same (K : PySem.W.Frag) (n : Nat) (vs : List V) (H : Hp) (Q : VK) (E : XK) (h : sp_same (n + 1) vs H Q E) : t_same K n { nx := fun _ H' => Q .non H', rt := Q } (start ["one", "other", "k"] vs) H := by
  obtain ⟨x, y, d, e, ev, hx, hy, hd, q⟩ := h
  subst ev
  show t_same K n _ [some x, some y, none] H
  have hs := Same.refl H
  unfold t_same
  cases hx with
  | @lst a vs xs h1 h2 hl =>
    cases hy with
    | @lst a' vs' xs' g1 g2 gl =>
      obtain ⟨m, rfl⟩ : ∃ m, n = m + 1 := by
        simp only [DT.dep] at hd
        exact ⟨n - 1, by omega⟩
      simp only [DT.dep] at hd
      have el := Iss.len h2
      have el' := Iss.len g2
      repeat walk_at "nw"
      refine if_nd (fun c => ?_) (fun c => ?_)
      · repeat walk_at "nw"
        refine loop_rng (fun i σ' H' => ∃ kk : Option V, σ' = [some (.ref a), some (.ref a'), kk] ∧ Same H H' ∧ ∀ j, j < i → xs[j]? = xs'[j]?) ⟨none, rfl, by assumption, fun j z => absurd z (Nat.not_lt_zero _)⟩ ?_ ?_
        · rintro i σ' H' hi ⟨kk, rfl, hs', hj⟩
          have hi' : i < vs.length := by omega
          obtain ⟨v, x, hv, hx, isx⟩ := Iss.at h2 hi'
          obtain ⟨v', x', hv', hx', isx'⟩ := Iss.at g2 (show i < vs'.length by omega)
          have dx := depL_at hx
          repeat walk_at "nw"
          refine ix_l (SqL.of (hs' _ _ h1)) (atI_nat hv) ?_
          repeat walk_at "nw"
          refine ix_l (SqL.of (hs' _ _ g1)) (atI_nat hv') ?_
          repeat walk_at "nw"
          refine ⟨v, v', x, x', rfl, isx.mono hs', isx'.mono hs', by omega, fun b H2 hs2 e => ?_⟩
          repeat walk_at "nw"
          cases b with
          | false =>
            repeat walk_at "nw"
            refine q false H2 (hs'.trans hs2) ⟨fun z => absurd z Bool.false_ne_true, fun z => ?_⟩
            injection z with z
            rw [z, hx'] at hx
            exact e.mpr (Option.some.inj hx).symm
          | true =>
            repeat walk_at "nw"
            refine ⟨_, rfl, hs'.trans hs2, fun j hlt => ?_⟩
            by_cases ej : j = i
            · rw [ej, hx, hx', e.mp rfl]
            · exact hj j (by omega)
        · rintro σ' H' ⟨kk, rfl, hs', hj⟩
          repeat walk_at "nw"
          refine q true H' hs' ⟨fun _ => ?_, fun _ => rfl⟩
          have z : xs = xs' := List.ext_getElem? fun j => by
            by_cases hlt : j < vs.length
            · exact hj j (by omega)
            · rw [List.getElem?_eq_none (by omega), List.getElem?_eq_none (by omega)]
          rw [z]
      · repeat walk_at "nw"
        refine q false _ (by assumption) ⟨fun z => absurd z Bool.false_ne_true, fun z => ?_⟩
        injection z with z
        rw [z] at el
        exact absurd (by rw [el, el']) c
    | _ =>
      repeat walk_at "nw"
      refine q _ _ ?_ ?_ <;> first | assumption | simp
  | @tup a vs xs h1 h2 hl =>
    cases hy with
    | @tup a' vs' xs' g1 g2 gl =>
      obtain ⟨m, rfl⟩ : ∃ m, n = m + 1 := by
        simp only [DT.dep] at hd
        exact ⟨n - 1, by omega⟩
      simp only [DT.dep] at hd
      have el := Iss.len h2
      have el' := Iss.len g2
      repeat walk_at "nw"
      refine if_nd (fun c => ?_) (fun c => ?_)
      · repeat walk_at "nw"
        refine loop_rng (fun i σ' H' => ∃ kk : Option V, σ' = [some (.ref a), some (.ref a'), kk] ∧ Same H H' ∧ ∀ j, j < i → xs[j]? = xs'[j]?) ⟨none, rfl, by assumption, fun j z => absurd z (Nat.not_lt_zero _)⟩ ?_ ?_
        · rintro i σ' H' hi ⟨kk, rfl, hs', hj⟩
          have hi' : i < vs.length := by omega
          obtain ⟨v, x, hv, hx, isx⟩ := Iss.at h2 hi'
          obtain ⟨v', x', hv', hx', isx'⟩ := Iss.at g2 (show i < vs'.length by omega)
          have dx := depL_at hx
          repeat walk_at "nw"
          refine ix_t (SqT.of (hs' _ _ h1)) (atI_nat hv) ?_
          repeat walk_at "nw"
          refine ix_t (SqT.of (hs' _ _ g1)) (atI_nat hv') ?_
          repeat walk_at "nw"
          refine ⟨v, v', x, x', rfl, isx.mono hs', isx'.mono hs', by omega, fun b H2 hs2 e => ?_⟩
          repeat walk_at "nw"
          cases b with
          | false =>
            repeat walk_at "nw"
            refine q false H2 (hs'.trans hs2) ⟨fun z => absurd z Bool.false_ne_true, fun z => ?_⟩
            injection z with z
            rw [z, hx'] at hx
            exact e.mpr (Option.some.inj hx).symm
          | true =>
            repeat walk_at "nw"
            refine ⟨_, rfl, hs'.trans hs2, fun j hlt => ?_⟩
            by_cases ej : j = i
            · rw [ej, hx, hx', e.mp rfl]
            · exact hj j (by omega)
        · rintro σ' H' ⟨kk, rfl, hs', hj⟩
          repeat walk_at "nw"
          refine q true H' hs' ⟨fun _ => ?_, fun _ => rfl⟩
          have z : xs = xs' := List.ext_getElem? fun j => by
            by_cases hlt : j < vs.length
            · exact hj j (by omega)
            · rw [List.getElem?_eq_none (by omega), List.getElem?_eq_none (by omega)]
          rw [z]
      · repeat walk_at "nw"
        refine q false _ (by assumption) ⟨fun z => absurd z Bool.false_ne_true, fun z => ?_⟩
        injection z with z
        rw [z] at el
        exact absurd (by rw [el, el']) c
    | _ =>
      repeat walk_at "nw"
      refine q _ _ ?_ ?_ <;> first | assumption | simp
  | _ =>
    cases hy with
    | _ =>
      repeat walk_at "nw"
      refine q _ _ ?_ ?_ <;> first | assumption | simp
end NW
namespace NW
open PySem PySem.Spec PyProof.Rows L2
open C8 (tCut pss_cut)
theorem c_take {H H0 : Hp} {Q : VK} {E : XK} {st : Addr} {many : Int} (hs : Sto H st) (kp : Keep st H0 H) (hm : many < 2 ^ 300) (h : ∀ (r : Int) (H' : Hp), Sto H' st → Keep st H0 H' → 0 ≤ r → (r < many ∨ r = 0) → Q (.int r) H') : sp_take [.ref st, .int many] H Q E :=
  ⟨st, many, rfl, hs, hm, fun r H' s k h0 h1 => h r H' s (kp.trans k) h0 h1⟩
theorem Sto.mono {H H' : Hp} {st : Addr} (s : Same H H') (h : Sto H st) : Sto H' st := by
  obtain ⟨cl, ns, a, b, c, d, e, h1, h2, h3⟩ := h
  exact ⟨cl, ns, a, b, c, d, e, s _ _ h1, s _ _ h2, h3⟩
theorem Sto.ne {H : Hp} {st q : Addr} (h : Sto H st) (hq : H q = none) : q ≠ st := by
  obtain ⟨cl, ns, a, b, c, d, e, h1, h2, h3⟩ := h
  exact Ne.symm (ne_of_none h1 hq)
theorem same_new {H : Hp} {q : Addr} {o : HO} (hq : H q = none) : Same H (upd H q o) := fun b o e => by
  rw [upd_ne (ne_of_none e hq)]
  exact e
theorem new_st {H H0 : Hp} {Q : VK} {o : HO} {st : Addr} (hS : Sto H st) (hs : Keep st H0 H) (h : ∀ q H1, H q = none → H1 q = some o → q ≠ st → Keep st H0 H1 → Sto H1 st → Same H H1 → Q (.ref q) H1) : NewR o H Q :=
  fun q hq => h q _ hq upd_same (hS.ne hq) (hs.new hq) (hS.mono (same_new hq)) (same_new hq)
theorem ev_chain {σ : L2.St} {H : Hp} {Q : VK} {r r' : R2} {ta tb tc : TE} (h : ta σ H fun x H1 => tb σ H1 fun y H2 => r x y H2 fun z H3 => ∃ k, z = .bl k ∧ if k = true then tc σ H3 fun z' H4 => r' y z' H4 Q else Q (.bl false) H3) : tChain r r' ta tb tc σ H Q := h
theorem ix_some {K : PySem.W.Frag} {H : Hp} {Q : VK} {p : Addr} {xs : List V} {i : Int} (hp : H p = some (.lst xs)) (h0 : 0 ≤ i) (h1 : i < xs.length) (h : ∀ v, v ∈ xs → Q v H) : aIx K (.ref p) (.int i) H Q := by
  have hk : i.toNat < xs.length := by omega
  have ek : i = ((i.toNat : Nat) : Int) := by omega
  rw [ek]
  exact ix_m hp (atI_nat (List.getElem?_eq_getElem hk)) (h _ (List.getElem_mem hk))
/-- a number from low to high; low if high is less -/
def sp_number : Sp := fun vs H Q _ => ∃ (st : Addr) (lo hi : Int), vs = [.ref st, .int lo, .int hi] ∧ Sto H st ∧ hi - lo + 1 < 2 ^ 300 ∧ ∀ (r : Int) (H' : Hp), Sto H' st → Keep st H H' → lo ≤ r → (r ≤ hi ∨ r = lo) → Q (.int r) H'
def t_number (K : PySem.W.Frag) : TS :=
  (tSeq (tAsg (tCall sp_take [] E0 (tCons (tVar 0) (tCons (tC (.int 6)) tNil))) (gName 3))
    (tSeq (tIfS (tOr (tTest (tOp aEq (tVar 3) (tC (.int 0)))) (tTest (tOp aLe (tVar 2) (tVar 1)))) (tRet (tVar 1)) tNext)
    (tSeq (tIfS (tTest (tOp aEq (tVar 3) (tC (.int 1)))) (tRet (tVar 2)) tNext)
    (tSeq (tIfS (tTest (tOp aEq (tVar 3) (tC (.int 2)))) (tRet (tCB aMin (tCons (tVar 2) (tCons (tOp aAdd (tOp aAdd (tVar 1) (tC (.int 1))) (tCall sp_take [] E0 (tCons (tVar 0) (tCons (tC (.int 2)) tNil)))) tNil)))) tNext)
    (tSeq (tIfS (tTest (tOp aEq (tVar 3) (tC (.int 3)))) (tRet (tCB aMax (tCons (tVar 1) (tCons (tOp aSub (tOp aSub (tVar 2) (tC (.int 1))) (tCall sp_take [] E0 (tCons (tVar 0) (tCons (tC (.int 2)) tNil)))) tNil)))) tNext)
    (tRet (tOp aAdd (tVar 1) (tCall sp_take [] E0 (tCons (tVar 0) (tCons (tOp aAdd (tOp aSub (tVar 2) (tVar 1)) (tC (.int 1))) tNil))))))))))
theorem l_number : ∀ vs H Q E, sp_number vs H Q E → vs.length = 3 := fun _ _ _ _ h => by
  obtain ⟨_, _, _, e, _⟩ := h
  rw [e]; rfl
local macro_rules | `(tactic| walk_at "nw") => `(tactic| first
  | with_reducible refine s_seq ?_
  | with_reducible refine s_asg ?_
  | with_reducible refine s_if ?_
  | with_reducible refine s_ret ?_
  | with_reducible refine s_drop ?_
  | with_reducible refine v_var0 ?_
  | with_reducible refine s_name0 ?_
  | with_reducible refine v_aug0 ?_
  | with_reducible refine v_var1 ?_
  | with_reducible refine s_name1 ?_
  | with_reducible refine v_aug1 ?_
  | with_reducible refine v_var2 ?_
  | with_reducible refine s_name2 ?_
  | with_reducible refine v_aug2 ?_
  | with_reducible refine v_var3 ?_
  | with_reducible refine s_name3 ?_
  | with_reducible refine v_aug3 ?_
  | with_reducible refine v_var4 ?_
  | with_reducible refine s_name4 ?_
  | with_reducible refine v_aug4 ?_
  | with_reducible refine v_var5 ?_
  | with_reducible refine s_name5 ?_
  | with_reducible refine v_aug5 ?_
  | with_reducible refine v_var6 ?_
  | with_reducible refine s_name6 ?_
  | with_reducible refine v_aug6 ?_
  | with_reducible refine v_var7 ?_
  | with_reducible refine s_name7 ?_
  | with_reducible refine v_aug7 ?_
  | with_reducible refine v_var8 ?_
  | with_reducible refine s_name8 ?_
  | with_reducible refine v_aug8 ?_
  | with_reducible refine v_var9 ?_
  | with_reducible refine s_name9 ?_
  | with_reducible refine v_aug9 ?_
  | with_reducible refine v_var10 ?_
  | with_reducible refine s_name10 ?_
  | with_reducible refine v_aug10 ?_
  | with_reducible refine v_var11 ?_
  | with_reducible refine s_name11 ?_
  | with_reducible refine v_aug11 ?_
  | with_reducible refine v_var12 ?_
  | with_reducible refine s_name12 ?_
  | with_reducible refine v_aug12 ?_
  | with_reducible refine v_var13 ?_
  | with_reducible refine s_name13 ?_
  | with_reducible refine v_aug13 ?_
  | with_reducible refine v_var14 ?_
  | with_reducible refine s_name14 ?_
  | with_reducible refine v_aug14 ?_
  | with_reducible refine v_var15 ?_
  | with_reducible refine s_name15 ?_
  | with_reducible refine v_aug15 ?_
  | with_reducible refine v_c ?_
  | with_reducible refine v_op ?_
  | with_reducible refine v_cons ?_
  | with_reducible refine v_nil ?_
  | with_reducible refine v_cb ?_
  | with_reducible refine v_call ?_
  | with_reducible refine c_test ?_
  | with_reducible refine c_bl ?_
  | with_reducible refine c_and ?_
  | with_reducible refine c_or ?_
  | with_reducible refine c_not ?_
  | with_reducible refine v_augS ?_
  | with_reducible refine v_sub ?_
  | with_reducible refine add_ii ?_
  | with_reducible refine sub_ii ?_
  | with_reducible refine iadd_ii ?_
  | with_reducible refine lt_ii ?_
  | with_reducible refine le_ii ?_
  | with_reducible refine gt_ii ?_
  | with_reducible refine ge_ii ?_
  | with_reducible refine eq_ii ?_
  | with_reducible refine ne_ii ?_
  | with_reducible refine int_i ?_
  | with_reducible refine abs_i ?_
  | with_reducible refine max_i ?_
  | with_reducible refine min_i ?_
  | with_reducible refine mul_r (by omega) (by omega) ?_
  | with_reducible refine mul_l (by omega) (by omega) ?_
  | with_reducible refine ix_m0 (by assumption) ?_
  | with_reducible refine get_m0 (by assumption) ?_
  | with_reducible refine ix_m1 (by assumption) ?_
  | with_reducible refine get_m1 (by assumption) ?_
  | with_reducible refine ix_m2 (by assumption) ?_
  | with_reducible refine get_m2 (by assumption) ?_
  | with_reducible refine ix_m3 (by assumption) ?_
  | with_reducible refine get_m3 (by assumption) ?_
  | with_reducible refine ix_m4 (by assumption) ?_
  | with_reducible refine get_m4 (by assumption) ?_
  | with_reducible refine ix_m5 (by assumption) ?_
  | with_reducible refine get_m5 (by assumption) ?_
  | (with_reducible refine st_set1 (by assumption) (by assumption) ?_; intro H1 hs1 kp1)
  | (with_reducible refine st_set2 (by assumption) (by assumption) ?_; intro H1 hs1 kp1)
  | (with_reducible refine st_set3 (by assumption) (by assumption) ?_; intro H1 hs1 kp1)
  | (with_reducible refine st_set4 (by assumption) (by assumption) ?_; intro H1 hs1 kp1)
  | (with_reducible refine st_set5 (by assumption) (by assumption) ?_; intro H1 hs1 kp1)
  | with_reducible refine len_m (by assumption) ?_
  | with_reducible refine s_for1 ?_
  | with_reducible refine s_forL ?_
  | with_reducible refine rng1 (by omega) (by omega) ?_
  | with_reducible refine s_next ?_
  | with_reducible refine s_break ?_
  | with_reducible refine s_cont ?_
  | with_reducible refine isi_non_bool ?_
  | with_reducible refine isi_non_int ?_
  | with_reducible refine isi_non_str ?_
  | with_reducible refine isi_non_list ?_
  | with_reducible refine isi_non_tuple ?_
  | with_reducible refine isi_non_dict ?_
  | with_reducible refine isi_non_seq (by assumption) ?_
  | with_reducible refine isi_bl_bool ?_
  | with_reducible refine isi_bl_int ?_
  | with_reducible refine isi_bl_str ?_
  | with_reducible refine isi_bl_list ?_
  | with_reducible refine isi_bl_tuple ?_
  | with_reducible refine isi_bl_dict ?_
  | with_reducible refine isi_bl_seq (by assumption) ?_
  | with_reducible refine isi_int_bool ?_
  | with_reducible refine isi_int_int ?_
  | with_reducible refine isi_int_str ?_
  | with_reducible refine isi_int_list ?_
  | with_reducible refine isi_int_tuple ?_
  | with_reducible refine isi_int_dict ?_
  | with_reducible refine isi_int_seq (by assumption) ?_
  | with_reducible refine isi_str_bool ?_
  | with_reducible refine isi_str_int ?_
  | with_reducible refine isi_str_str ?_
  | with_reducible refine isi_str_list ?_
  | with_reducible refine isi_str_tuple ?_
  | with_reducible refine isi_str_dict ?_
  | with_reducible refine isi_str_seq (by assumption) ?_
  | with_reducible refine isi_lst_bool (by assumption) (by assumption) ?_
  | with_reducible refine isi_lst_int (by assumption) (by assumption) ?_
  | with_reducible refine isi_lst_str (by assumption) (by assumption) ?_
  | with_reducible refine isi_lst_list (by assumption) (by assumption) ?_
  | with_reducible refine isi_lst_tuple (by assumption) (by assumption) ?_
  | with_reducible refine isi_lst_dict (by assumption) (by assumption) ?_
  | with_reducible refine isi_lst_seq (by assumption) (by assumption) (by assumption) ?_
  | with_reducible refine isi_tup_bool (by assumption) (by assumption) ?_
  | with_reducible refine isi_tup_int (by assumption) (by assumption) ?_
  | with_reducible refine isi_tup_str (by assumption) (by assumption) ?_
  | with_reducible refine isi_tup_list (by assumption) (by assumption) ?_
  | with_reducible refine isi_tup_tuple (by assumption) (by assumption) ?_
  | with_reducible refine isi_tup_dict (by assumption) (by assumption) ?_
  | with_reducible refine isi_tup_seq (by assumption) (by assumption) (by assumption) ?_
  | with_reducible refine isi_dK_bool (by assumption) (by assumption) ?_
  | with_reducible refine isi_dK_int (by assumption) (by assumption) ?_
  | with_reducible refine isi_dK_str (by assumption) (by assumption) ?_
  | with_reducible refine isi_dK_list (by assumption) (by assumption) ?_
  | with_reducible refine isi_dK_tuple (by assumption) (by assumption) ?_
  | with_reducible refine isi_dK_dict (by assumption) (by assumption) ?_
  | with_reducible refine isi_dK_seq (by assumption) (by assumption) (by assumption) ?_
  | with_reducible refine eq_bb ?_
  | with_reducible refine eq_ss ?_
  | with_reducible refine ev_isN ?_
  | with_reducible refine ev_tB ?_
  | with_reducible refine ev_and ?_
  | with_reducible refine ev_or ?_
  | with_reducible refine ev_not ?_
  | with_reducible refine c_tru ?_
  | with_reducible refine tru_bl ?_
  | with_reducible refine if_nt ?_
  | with_reducible refine if_nf ?_
  | with_reducible refine tup_new ?_
  | with_reducible refine lst_new ?_
  | with_reducible refine len_ms (by assumption) (by assumption) ?_
  | with_reducible refine len_ts (by assumption) (by assumption) ?_
  | ((with_reducible refine lit_len ?_ ?_); (focus (first | decide | (simp; done) | (simp; omega))))
  | (with_reducible refine new_same (by assumption) ?_; intro q1 H1 hq1 he1 sm1 hs1)
  | with_reducible refine if_dT rfl ?_
  | ((with_reducible refine if_dF ?_ ?_); focus (intro z; cases z; done))
  | with_reducible refine if_t ?_
  | with_reducible refine if_f ?_
  | ((with_reducible refine c_take (by assumption) (by assumption) ?_ ?_); (focus omega); intro r1 H1 hS1 kp1 h01 h11))
local macro_rules | `(tactic| walk_at "go") => `(tactic| repeat' (first | walk_at "nw" | ((with_reducible refine if_d ?_ ?_) <;> intro c1) | ((with_reducible refine if_nd ?_ ?_) <;> intro c1)))
theorem p_number (K : PySem.W.Frag) (vs : List V) (H : Hp) (Q : VK) (E : XK) (h : sp_number vs H Q E) : t_number K { nx := fun _ H' => Q .non H', rt := Q } (start ["store", "low", "high", "manner"] vs) H := by
  obtain ⟨st, lo, hi, ev, hs, hm, q⟩ := h
  subst ev
  show t_number K _ [some (.ref st), some (.int lo), some (.int hi), none] H
  have kp := Keep.refl st H
  unfold t_number
  walk_at "go"
  all_goals exact q _ _ (by assumption) (by assumption) (by omega) (by omega)
theorem c_number {H H0 : Hp} {Q : VK} {E : XK} {st : Addr} {lo hi : Int} (hs : Sto H st) (kp : Keep st H0 H) (hm : hi - lo + 1 < 2 ^ 300) (h : ∀ (r : Int) (H' : Hp), Sto H' st → Keep st H0 H' → lo ≤ r → (r ≤ hi ∨ r = lo) → Q (.int r) H') : sp_number [.ref st, .int lo, .int hi] H Q E :=
  ⟨st, lo, hi, rfl, hs, hm, fun r H' s k h0 h1 => h r H' s (kp.trans k) h0 h1⟩
/-- an item of a row -/
def sp_pick : Sp := fun vs H Q _ => ∃ (st row : Addr), vs = [.ref st, .ref row] ∧ Sto H st ∧ ∃ (xs : List V), H row = some (.lst xs) ∧ row ≠ st ∧ 0 < xs.length ∧ xs.length ≤ 1000000 ∧ ∀ (v : V) (H' : Hp), Sto H' st → Keep st H H' → v ∈ xs → Q v H'
def t_pick (K : PySem.W.Frag) : TS :=
  (tRet (tOp (aIx K) (tVar 1) (tCall sp_take [] E0 (tCons (tVar 0) (tCons (tCB (aLen K) (tCons (tVar 1) tNil)) tNil)))))
theorem l_pick : ∀ vs H Q E, sp_pick vs H Q E → vs.length = 2 := fun _ _ _ _ h => by
  obtain ⟨_, _, e, _⟩ := h
  rw [e]; rfl
theorem p_pick (K : PySem.W.Frag) (vs : List V) (H : Hp) (Q : VK) (E : XK) (h : sp_pick vs H Q E) : t_pick K { nx := fun _ H' => Q .non H', rt := Q } (start ["store", "row"] vs) H := by
  obtain ⟨st, row, ev, hs, xs, hr, hne, hn, hl, q⟩ := h
  subst ev
  show t_pick K _ [some (.ref st), some (.ref row)] H
  have kp := Keep.refl st H
  unfold t_pick
  walk_at "go"
  exact ix_some ((by assumption : Keep st H _).o row _ hr hne) (by assumption) (by omega) fun v hv => q v _ (by assumption) (by assumption) hv
theorem c_pick {H H0 : Hp} {Q : VK} {E : XK} {st row : Addr} {xs : List V} (hs : Sto H st) (kp : Keep st H0 H) (hr : H row = some (.lst xs)) (hne : row ≠ st) (hn : 0 < xs.length ∧ xs.length ≤ 1000000) (h : ∀ (v : V) (H' : Hp), Sto H' st → Keep st H0 H' → Keep st H H' → v ∈ xs → Q v H') : sp_pick [.ref st, .ref row] H Q E :=
  ⟨st, row, rfl, hs, xs, hr, hne, hn.1, hn.2, fun v H' s k hv => h v H' s (kp.trans k) k hv⟩
/-- an own weight from 1 to most -/
def sp_weight : Sp := fun vs H Q _ => ∃ (st : Addr) (most : Int), vs = [.ref st, .int most] ∧ Sto H st ∧ 1 ≤ most ∧ most < 2 ^ 299 ∧ ∀ (r : Int) (H' : Hp), Sto H' st → Keep st H H' → 1 ≤ r → r ≤ most → Q (.int r) H'
def t_weight (K : PySem.W.Frag) : TS :=
  (tSeq (tIfS (tTest (tOp aEq (tCall sp_take [] E0 (tCons (tVar 0) (tCons (tC (.int 2)) tNil))) (tC (.int 0)))) (tRet (tOp aAdd (tC (.int 1)) (tCall sp_take [] E0 (tCons (tVar 0) (tCons (tCB aMin (tCons (tVar 1) (tCons (tC (.int 4)) tNil))) tNil))))) tNext)
    (tRet (tCall sp_number [] E0 (tCons (tVar 0) (tCons (tC (.int 1)) (tCons (tVar 1) tNil))))))
theorem l_weight : ∀ vs H Q E, sp_weight vs H Q E → vs.length = 2 := fun _ _ _ _ h => by
  obtain ⟨_, _, e, _⟩ := h
  rw [e]; rfl
/-- no integer from low to high -/
def NI (lo hi : Int) (v : V) : Prop := (∃ i, v = .int i ∧ (i < lo ∨ hi < i)) ∨ (∃ b, v = .bl b) ∨ v = .non ∨ ∃ s, v = .str s
def sp_not_integer : Sp := fun vs H Q _ => ∃ (st : Addr) (lo hi : Int), vs = [.ref st, .int lo, .int hi] ∧ Sto H st ∧ ∀ (v : V) (H' : Hp), Sto H' st → Keep st H H' → NI lo hi v → Q v H'
def t_not_integer (K : PySem.W.Frag) : TS :=
  (tSeq (tAsg (tCall sp_take [] E0 (tCons (tVar 0) (tCons (tC (.int 100000000000000000000)) tNil))) (gName 3))
    (tRet (tCall sp_pick [] E0 (tCons (tVar 0) (tCons (tLst (tCons (tOp aSub (tVar 1) (tC (.int 1))) (tCons (tOp aAdd (tVar 2) (tC (.int 1))) (tCons (tOp aSub (tOp aSub (tVar 1) (tC (.int 2))) (tVar 3)) (tCons (tOp aAdd (tOp aAdd (tVar 2) (tC (.int 2))) (tVar 3)) (tCons (tC (.bl true)) (tCons (tC (.bl false)) (tCons (tC .non) (tCons (tC (.str "")) (tCons (tC (.str "1")) (tCons (tC (.str "a")) tNil))))))))))) tNil)))))
theorem l_not_integer : ∀ vs H Q E, sp_not_integer vs H Q E → vs.length = 3 := fun _ _ _ _ h => by
  obtain ⟨_, _, _, e, _⟩ := h
  rw [e]; rfl
/-- an integer, not a bool -/
def isI : V → Bool
  | .int _ => true
  | _ => false
def Scl : V → Prop
  | .int _ => True
  | .bl _ => True
  | .non => True
  | .str _ => True
  | _ => False
def sp_is_integer : Sp := fun vs H Q _ => ∃ v : V, vs = [v] ∧ Scl v ∧ Q (.bl (isI v)) H
def t_is_integer (K : PySem.W.Frag) : TS :=
  (tRet (tAndV (tCB (aIsi K) (tCons (tVar 0) (tCons (tC (.ty "int")) tNil))) (tNotV (tCB (aIsi K) (tCons (tVar 0) (tCons (tC (.ty "bool")) tNil))))))
theorem l_is_integer : ∀ vs H Q E, sp_is_integer vs H Q E → vs.length = 1 := fun _ _ _ _ h => by
  obtain ⟨_, e, _⟩ := h
  rw [e]; rfl
def inR (lo hi : Int) : V → Bool
  | .int i => decide (lo ≤ i ∧ i ≤ hi)
  | _ => false
def sp_is_number : Sp := fun vs H Q _ => ∃ (v : V) (lo hi : Int), vs = [v, .int lo, .int hi] ∧ Scl v ∧ Q (.bl (inR lo hi v)) H
def t_is_number (K : PySem.W.Frag) : TS :=
  (tRet (tAndV (tCB (aIsi K) (tCons (tVar 0) (tCons (tC (.ty "int")) tNil))) (tAndV (tNotV (tCB (aIsi K) (tCons (tVar 0) (tCons (tC (.ty "bool")) tNil)))) (tChain aLe aLe (tVar 1) (tVar 0) (tVar 2)))))
theorem l_is_number : ∀ vs H Q E, sp_is_number vs H Q E → vs.length = 3 := fun _ _ _ _ h => by
  obtain ⟨_, _, _, e, _⟩ := h
  rw [e]; rfl
local macro_rules | `(tactic| walk_at "nw") => `(tactic| first
  | with_reducible refine s_seq ?_
  | with_reducible refine s_asg ?_
  | with_reducible refine s_if ?_
  | with_reducible refine s_ret ?_
  | with_reducible refine s_drop ?_
  | with_reducible refine v_var0 ?_
  | with_reducible refine s_name0 ?_
  | with_reducible refine v_aug0 ?_
  | with_reducible refine v_var1 ?_
  | with_reducible refine s_name1 ?_
  | with_reducible refine v_aug1 ?_
  | with_reducible refine v_var2 ?_
  | with_reducible refine s_name2 ?_
  | with_reducible refine v_aug2 ?_
  | with_reducible refine v_var3 ?_
  | with_reducible refine s_name3 ?_
  | with_reducible refine v_aug3 ?_
  | with_reducible refine v_var4 ?_
  | with_reducible refine s_name4 ?_
  | with_reducible refine v_aug4 ?_
  | with_reducible refine v_var5 ?_
  | with_reducible refine s_name5 ?_
  | with_reducible refine v_aug5 ?_
  | with_reducible refine v_var6 ?_
  | with_reducible refine s_name6 ?_
  | with_reducible refine v_aug6 ?_
  | with_reducible refine v_var7 ?_
  | with_reducible refine s_name7 ?_
  | with_reducible refine v_aug7 ?_
  | with_reducible refine v_var8 ?_
  | with_reducible refine s_name8 ?_
  | with_reducible refine v_aug8 ?_
  | with_reducible refine v_var9 ?_
  | with_reducible refine s_name9 ?_
  | with_reducible refine v_aug9 ?_
  | with_reducible refine v_var10 ?_
  | with_reducible refine s_name10 ?_
  | with_reducible refine v_aug10 ?_
  | with_reducible refine v_var11 ?_
  | with_reducible refine s_name11 ?_
  | with_reducible refine v_aug11 ?_
  | with_reducible refine v_var12 ?_
  | with_reducible refine s_name12 ?_
  | with_reducible refine v_aug12 ?_
  | with_reducible refine v_var13 ?_
  | with_reducible refine s_name13 ?_
  | with_reducible refine v_aug13 ?_
  | with_reducible refine v_var14 ?_
  | with_reducible refine s_name14 ?_
  | with_reducible refine v_aug14 ?_
  | with_reducible refine v_var15 ?_
  | with_reducible refine s_name15 ?_
  | with_reducible refine v_aug15 ?_
  | with_reducible refine v_c ?_
  | with_reducible refine v_op ?_
  | with_reducible refine v_cons ?_
  | with_reducible refine v_nil ?_
  | with_reducible refine v_cb ?_
  | with_reducible refine v_call ?_
  | with_reducible refine c_test ?_
  | with_reducible refine c_bl ?_
  | with_reducible refine c_and ?_
  | with_reducible refine c_or ?_
  | with_reducible refine c_not ?_
  | with_reducible refine v_augS ?_
  | with_reducible refine v_sub ?_
  | with_reducible refine add_ii ?_
  | with_reducible refine sub_ii ?_
  | with_reducible refine iadd_ii ?_
  | with_reducible refine lt_ii ?_
  | with_reducible refine le_ii ?_
  | with_reducible refine gt_ii ?_
  | with_reducible refine ge_ii ?_
  | with_reducible refine eq_ii ?_
  | with_reducible refine ne_ii ?_
  | with_reducible refine int_i ?_
  | with_reducible refine abs_i ?_
  | with_reducible refine max_i ?_
  | with_reducible refine min_i ?_
  | with_reducible refine mul_r (by omega) (by omega) ?_
  | with_reducible refine mul_l (by omega) (by omega) ?_
  | with_reducible refine ix_m0 (by assumption) ?_
  | with_reducible refine get_m0 (by assumption) ?_
  | with_reducible refine ix_m1 (by assumption) ?_
  | with_reducible refine get_m1 (by assumption) ?_
  | with_reducible refine ix_m2 (by assumption) ?_
  | with_reducible refine get_m2 (by assumption) ?_
  | with_reducible refine ix_m3 (by assumption) ?_
  | with_reducible refine get_m3 (by assumption) ?_
  | with_reducible refine ix_m4 (by assumption) ?_
  | with_reducible refine get_m4 (by assumption) ?_
  | with_reducible refine ix_m5 (by assumption) ?_
  | with_reducible refine get_m5 (by assumption) ?_
  | (with_reducible refine st_set1 (by assumption) (by assumption) ?_; intro H1 hs1 kp1)
  | (with_reducible refine st_set2 (by assumption) (by assumption) ?_; intro H1 hs1 kp1)
  | (with_reducible refine st_set3 (by assumption) (by assumption) ?_; intro H1 hs1 kp1)
  | (with_reducible refine st_set4 (by assumption) (by assumption) ?_; intro H1 hs1 kp1)
  | (with_reducible refine st_set5 (by assumption) (by assumption) ?_; intro H1 hs1 kp1)
  | with_reducible refine len_m (by assumption) ?_
  | with_reducible refine s_for1 ?_
  | with_reducible refine s_forL ?_
  | with_reducible refine rng1 (by omega) (by omega) ?_
  | with_reducible refine s_next ?_
  | with_reducible refine s_break ?_
  | with_reducible refine s_cont ?_
  | with_reducible refine isi_non_bool ?_
  | with_reducible refine isi_non_int ?_
  | with_reducible refine isi_non_str ?_
  | with_reducible refine isi_non_list ?_
  | with_reducible refine isi_non_tuple ?_
  | with_reducible refine isi_non_dict ?_
  | with_reducible refine isi_non_seq (by assumption) ?_
  | with_reducible refine isi_bl_bool ?_
  | with_reducible refine isi_bl_int ?_
  | with_reducible refine isi_bl_str ?_
  | with_reducible refine isi_bl_list ?_
  | with_reducible refine isi_bl_tuple ?_
  | with_reducible refine isi_bl_dict ?_
  | with_reducible refine isi_bl_seq (by assumption) ?_
  | with_reducible refine isi_int_bool ?_
  | with_reducible refine isi_int_int ?_
  | with_reducible refine isi_int_str ?_
  | with_reducible refine isi_int_list ?_
  | with_reducible refine isi_int_tuple ?_
  | with_reducible refine isi_int_dict ?_
  | with_reducible refine isi_int_seq (by assumption) ?_
  | with_reducible refine isi_str_bool ?_
  | with_reducible refine isi_str_int ?_
  | with_reducible refine isi_str_str ?_
  | with_reducible refine isi_str_list ?_
  | with_reducible refine isi_str_tuple ?_
  | with_reducible refine isi_str_dict ?_
  | with_reducible refine isi_str_seq (by assumption) ?_
  | with_reducible refine isi_lst_bool (by assumption) (by assumption) ?_
  | with_reducible refine isi_lst_int (by assumption) (by assumption) ?_
  | with_reducible refine isi_lst_str (by assumption) (by assumption) ?_
  | with_reducible refine isi_lst_list (by assumption) (by assumption) ?_
  | with_reducible refine isi_lst_tuple (by assumption) (by assumption) ?_
  | with_reducible refine isi_lst_dict (by assumption) (by assumption) ?_
  | with_reducible refine isi_lst_seq (by assumption) (by assumption) (by assumption) ?_
  | with_reducible refine isi_tup_bool (by assumption) (by assumption) ?_
  | with_reducible refine isi_tup_int (by assumption) (by assumption) ?_
  | with_reducible refine isi_tup_str (by assumption) (by assumption) ?_
  | with_reducible refine isi_tup_list (by assumption) (by assumption) ?_
  | with_reducible refine isi_tup_tuple (by assumption) (by assumption) ?_
  | with_reducible refine isi_tup_dict (by assumption) (by assumption) ?_
  | with_reducible refine isi_tup_seq (by assumption) (by assumption) (by assumption) ?_
  | with_reducible refine isi_dK_bool (by assumption) (by assumption) ?_
  | with_reducible refine isi_dK_int (by assumption) (by assumption) ?_
  | with_reducible refine isi_dK_str (by assumption) (by assumption) ?_
  | with_reducible refine isi_dK_list (by assumption) (by assumption) ?_
  | with_reducible refine isi_dK_tuple (by assumption) (by assumption) ?_
  | with_reducible refine isi_dK_dict (by assumption) (by assumption) ?_
  | with_reducible refine isi_dK_seq (by assumption) (by assumption) (by assumption) ?_
  | with_reducible refine eq_bb ?_
  | with_reducible refine eq_ss ?_
  | with_reducible refine ev_isN ?_
  | with_reducible refine ev_tB ?_
  | with_reducible refine ev_and ?_
  | with_reducible refine ev_or ?_
  | with_reducible refine ev_not ?_
  | with_reducible refine c_tru ?_
  | with_reducible refine tru_bl ?_
  | with_reducible refine if_nt ?_
  | with_reducible refine if_nf ?_
  | with_reducible refine tup_new ?_
  | with_reducible refine lst_new ?_
  | with_reducible refine len_ms (by assumption) (by assumption) ?_
  | with_reducible refine len_ts (by assumption) (by assumption) ?_
  | ((with_reducible refine lit_len ?_ ?_); (focus (first | decide | (simp; done) | (simp; omega))))
  | (with_reducible refine new_st (by assumption) (by assumption) ?_; intro q1 H1 hq1 he1 hn1 kp1 hS1 sm1)
  | (with_reducible refine new_same (by assumption) ?_; intro q1 H1 hq1 he1 sm1 hs1)
  | with_reducible refine if_dT rfl ?_
  | ((with_reducible refine if_dF ?_ ?_); focus (intro z; cases z; done))
  | with_reducible refine if_t ?_
  | with_reducible refine if_f ?_
  | ((with_reducible refine c_take (by assumption) (by assumption) ?_ ?_); (focus omega); intro r1 H1 hS1 kp1 h01 h11)
  | with_reducible refine ev_chain ?_
  | ((with_reducible refine c_number (by assumption) (by assumption) ?_ ?_); (focus omega); intro r1 H1 hS1 kp1 h01 h11)
  | ((with_reducible refine c_pick (by assumption) (by assumption) (by assumption) (by assumption) ?_ ?_); (focus (simp; done)); intro r1 H1 hS1 kp1 kk1 h01))
local macro_rules | `(tactic| walk_at "go") => `(tactic| repeat' (first | walk_at "nw" | ((with_reducible refine if_d ?_ ?_) <;> intro c1) | ((with_reducible refine if_nd ?_ ?_) <;> intro c1)))
theorem p_weight (K : PySem.W.Frag) (vs : List V) (H : Hp) (Q : VK) (E : XK) (h : sp_weight vs H Q E) : t_weight K { nx := fun _ H' => Q .non H', rt := Q } (start ["store", "most"] vs) H := by
  obtain ⟨st, most, ev, hs, h1, h2, q⟩ := h
  subst ev
  show t_weight K _ [some (.ref st), some (.int most)] H
  have kp := Keep.refl st H
  unfold t_weight
  walk_at "go"
  all_goals exact q _ _ (by assumption) (by assumption) (by omega) (by omega)
theorem p_not_integer (K : PySem.W.Frag) (vs : List V) (H : Hp) (Q : VK) (E : XK) (h : sp_not_integer vs H Q E) : t_not_integer K { nx := fun _ H' => Q .non H', rt := Q } (start ["store", "low", "high", "far"] vs) H := by
  obtain ⟨st, lo, hi, ev, hs, q⟩ := h
  subst ev
  show t_not_integer K _ [some (.ref st), some (.int lo), some (.int hi), none] H
  have kp := Keep.refl st H
  unfold t_not_integer
  walk_at "go"
  rename_i hv
  refine q _ _ (by assumption) (by assumption) ?_
  simp only [List.mem_cons, List.not_mem_nil, or_false] at hv
  rcases hv with e | e | e | e | e | e | e | e | e | e <;> subst e
  · exact .inl ⟨_, rfl, .inl (by omega)⟩
  · exact .inl ⟨_, rfl, .inr (by omega)⟩
  · exact .inl ⟨_, rfl, .inl (by omega)⟩
  · exact .inl ⟨_, rfl, .inr (by omega)⟩
  · exact .inr (.inl ⟨_, rfl⟩)
  · exact .inr (.inl ⟨_, rfl⟩)
  · exact .inr (.inr (.inl rfl))
  · exact .inr (.inr (.inr ⟨_, rfl⟩))
  · exact .inr (.inr (.inr ⟨_, rfl⟩))
  · exact .inr (.inr (.inr ⟨_, rfl⟩))
theorem p_is_integer (K : PySem.W.Frag) (vs : List V) (H : Hp) (Q : VK) (E : XK) (h : sp_is_integer vs H Q E) : t_is_integer K { nx := fun _ H' => Q .non H', rt := Q } (start ["value"] vs) H := by
  obtain ⟨v, ev, hv, q⟩ := h
  subst ev
  show t_is_integer K _ [some v] H
  unfold t_is_integer
  cases v with
  | int i =>
    walk_at "go"
    exact q
  | bl i =>
    walk_at "go"
    exact q
  | non =>
    walk_at "go"
    exact q
  | str i =>
    walk_at "go"
    exact q
  | _ => exact hv.elim
theorem p_is_number (K : PySem.W.Frag) (vs : List V) (H : Hp) (Q : VK) (E : XK) (h : sp_is_number vs H Q E) : t_is_number K { nx := fun _ H' => Q .non H', rt := Q } (start ["value", "low", "high"] vs) H := by
  obtain ⟨v, lo, hi, ev, hv, q⟩ := h
  subst ev
  show t_is_number K _ [some v, some (.int lo), some (.int hi)] H
  unfold t_is_number
  cases v with
  | int i =>
    have e : ∀ (b : Bool), b = inR lo hi (.int i) → Q (.bl b) H := fun b z => by rw [z]; exact q
    walk_at "go"
    · exact e _ (by simp [inR, *])
    · exact e _ (by simp [inR, *])
  | bl i =>
    walk_at "go"
    exact q
  | non =>
    walk_at "go"
    exact q
  | str i =>
    walk_at "go"
    exact q
  | _ => exact hv.elim
end NW
namespace NW
open PySem PySem.Spec PyProof.Rows L2
open C8 (tCut pss_cut)
section
variable {X : Cx} {CX : CXT} {x : Str} {C fI : Addr} {k : Nat} {fd : FuncData} {ps : List Str} {sp : Sp} {e : Expr} {es : List Expr} {ta : TA} {p pos : Pos}
theorem pmkN (T : OexC X.K C) (iC : PySem.W.findIn X.K (.ref C) "__init__" = some (some (.ref fI))) (tI : PySem.W.typeIn X.K (.ref fI) = some (.type "function")) (F1 : FnOk X.prog X.w X.K X.mg X.base CX k fI fd ps sp)
    (hr : Room (k + 1) X.A) (hb : Binds X.K fd ps []) (hx : Passes CX X (fun _ _ _ => False)) (hg : Gl X x) (hm : X.mg x = some (.ref C)) (ha : PA X (e :: es) ta) (hdb : (x == ("__debug__" : Str)) = false := by decide)
    (he : starEach (e :: es) X.env = (false, eval e X.env) :: starEach es X.env := by rfl) (hpl : (backTo pos (starEach es X.env)).any (·.1) = false := by rfl) : L2N.PMk X (.Call (.Name x p) (e :: es) [] pos) (tMkO C sp [] ta) := by
  intro pn s0 ρ H0 W I0 h0
  obtain ⟨nm, q, N, bs, bm, sn, sub, ab, col, dd, k0, k1, k2, k3, k5, lC, rb⟩ := T.cls
  refine wpAny_Call_Name_kw (ld_glob I0 hg hm ?_ hdb)
  refine PySem.W.callWith_K (h₀ := X.base) I0.ok.mod.kin T.kC (thn (ha.run pos pn s0 ρ H0 _ I0 h0) fun us s1 hh => ?_) he hpl
  obtain ⟨vs, H1, I1, r1, hz, q1⟩ := hh
  refine ⟨I1.kIn, ?_⟩
  show wpAny _ _ (call (.ref C) us) _ _ _
  obtain ⟨hp, gs, dr, tk, os⟩ := s1
  let a : Addr := hp.objs.size + 1
  have le : hp.objs.size ≤ a := Nat.le_succ _
  have na : H1 a = none := I1.hok.fresh le
  have q2 := q1 a na
  rw [List.append_nil] at q2
  let h2 : Heap := (hp.push (PySem.W.kdv_tup us)).push (PySem.HandSPX.excO C hp.objs.size)
  have up : ∀ b o, hp.get? b = some o → h2.get? b = some o := fun b o z =>
    Heap.get?_push_of_some _ (Heap.get?_push_of_some _ z)
  have ga : h2.get? a = some (PySem.HandSPX.excO C hp.objs.size) := by
    show ((hp.push (PySem.W.kdv_tup us)).push (PySem.HandSPX.excO C hp.objs.size)).get? (hp.objs.size + 1) = _
    heap_get
  have I2 : Inv X pn ρ (upd H1 a (exo a C none)) ⟨h2, gs, dr, tk, os⟩ := I1.laid (t' := tk) up le (exo_ok ga)
  have r2 : Vals (V.ref a :: vs) (Value.ref a :: us) := .cons rfl r1
  have l2 : (Value.ref a :: us).length = ps.length := by
    have z := r2.length
    rw [F1.len _ _ _ _ q2] at z
    exact z.symm
  have lu : us.length ≤ sizeLine := by
    rw [← Paired.length r1, sizeLine_eq]; omega
  have b2 := hb ⟨h2, gs, dr, tk, os⟩ (Value.ref a :: us) I2.kIn (by rw [List.append_nil]; exact l2)
  rw [List.append_nil] at b2
  have run := F1.run _ X.stack _ _ ⟨Value.ref a :: us, []⟩ (Value.ref a :: us) _ _ (fun _ _ _ => False) (hr.make C us []) (I2.env0.make C us []) b2 r2 q2
  refine wpAny_call (PySem.HandSPX.call_own F.excBase_ValueError (fun Y => PySem.HandSPX.refsVE_contains Y bm rb) (I1.kIn _ _ lC) (PySem.W.looks_findIn I1.kIn iC)
    (fun self => PySem.W.bind_fn I1.kIn self tI) lu (codeAny_mono run fun r s3 q3 => ?_))
  cases r with
  | error er => exact hx pn ρ _ _ er s3 I2 q3
  | ok fl =>
    cases fl with
    | ret u =>
      obtain ⟨v, H2, o3, b3, u3, k3', rv, ev, d, fs, ea, ed, nd, q4⟩ := q3
      subst ev
      obtain ⟨h3, g3, d3, t3, os'⟩ := s3
      obtain ⟨t0, G, J, kG, ge, hoe, na2⟩ := mk_end0 (d2 := d3) (t2 := t3) I1 le up u3 k3' o3 b3 ea ed nd
      refine ⟨rv, a, _, _, ⟨G, g3, d3, t3, os'⟩, _, .ref C, some d, rfl, J, kG, ge, hoe, ⟨rfl, rfl, fun vs hv => ?_⟩, rfl, rfl, na2, rfl, b3, raises_own T.exC T.tyC, q4⟩
      cases hv
      rfl
    | next => exact False.elim q3
    | brk => exact False.elim q3
    | cont => exact False.elim q3
end
structure FnHp (P : Program) (w : World) (K : PySem.W.Frag) (mg : Str → Option Value) (base : Heap) (p : Addr × Obj) (k : Nat) (f : Addr) (fd : FuncData) (ps : List Str) (sp : Sp) : Prop where
  len : ∀ vs H Q E, sp vs H Q E → vs.length = ps.length
  run : ∀ (A : Around) (outer : List Env) (s : Shared) (H : Hp) (args : Args) (us : List Value) (vs : List V) (Q : VK), L2H.RoomH k A → L2H.Hot1 A p → L2H.PinOk outer H s p → Env0 P w K mg base A outer s H →
    BindsTo s fd args (ps.zip us) → Vals vs us → sp vs H Q E0 → codeAny (model P w) A (.call (.ref f) args) (CR (L2N.CX P w) outer P w H s Q E0) s
/-- the context of such a body -/
abbrev cxP (P : Program) (w : World) (K : PySem.W.Frag) (mg : Str → Option Value) (base : Heap) (N : List Str) (qual : Str) (scope : Scope) (f : Addr) (cd : Value) (A : Around) (outer : List Env) (s : Shared) (H : Hp) (p : Addr × Obj) : Cx :=
  L2H.cxH (L2N.CX P w) P w K mg base N qual scope f cd A outer s H E0 p
structure HotP (X : Cx) (p : Addr × Obj) : Prop where
  hot : L2H.Hot1 X.A p
  mem : p ∈ X.pn
theorem HotP.c {X : Cx} {p : Addr × Obj} (h : HotP X p) : L2H.HotC X := ⟨p, h.hot, h.mem⟩
structure HasHAt (P : Program) (w : World) (K : PySem.W.Frag) (mg : Str → Option Value) (base : Heap) (p : Addr × Obj) (x : Str) (k : Nat) (ps : List Str) (sp : Sp) (f : Addr) (fd : FuncData) : Prop where
  g : mg x = some (.ref f)
  kp : PySem.W.keepIn K (.ref f) = true
  b : Binds K fd ps []
  ok : FnHp P w K mg base p k f fd ps sp
def HasH (P : Program) (w : World) (K : PySem.W.Frag) (mg : Str → Option Value) (base : Heap) (p : Addr × Obj) (x : Str) (k : Nat) (ps : List Str) (sp : Sp) : Prop := ∃ f fd, HasHAt P w K mg base p x k ps sp f fd
section
variable {P : Program} {w : World} {K : PySem.W.Frag} {mg : Str → Option Value} {base : Heap} {x : Str} {params : Arguments} {body : List Stmt} {scope : Scope} {f : Addr} {N ps : List Str} {k : Nat} {sp : Sp} {p : Addr × Obj}
theorem hasH_of {t : TS} (g : mg x = some (.ref f)) (F : ∃ fd, FunD K x x params body scope [] [] f fd) (S : FnScope N ps scope) (len : ∀ vs H Q E, sp vs H Q E → vs.length = ps.length)
    (bn : ∀ (kV doc pm : Value) (an : Option Addr) (cdv ct : Value) (us : List Value), us.length = ps.length → bindArgs (PySem.W.fnOf x x params body scope .none kV doc pm an cdv ct) ⟨us, []⟩ = pure (ps.zip us))
    (d : ∀ (cdv : Value) (A : Around) (outer : List Env) (s : Shared) (H : Hp), L2H.RoomH k (A.deeper (envOfC x scope s.heap.objs.size f cdv)) → HotP (cxP P w K mg base N x scope f cdv A outer s H p).nox p → PSs (cxP P w K mg base N x scope f cdv A outer s H p).nox body t)
    (pure_ : ∀ vs H Q E, sp vs H Q E → t { nx := fun _ H' => Q .non H', rt := Q } (start N vs) H) : HasH P w K mg base p x (k + 1) ps sp := by
  obtain ⟨fd, F⟩ := F
  have b := F.bindsN bn
  have kp := F.kp
  obtain ⟨oc, od, dV, kV, doc, pm, an, cdv, ct, osl, efd, lk, hcd, dflt, _⟩ := F.ex
  subst efd
  refine ⟨f, _, g, kp, b, len, fun A outer s H args us vs Q room hot pin e0 bt rv hsp => ?_⟩
  have n1 := len _ _ _ _ hsp
  have KX : K.In s.heap := e0.mod.kin.keeps fun b o z => (e0.bs b o z).1
  have nol : s.heap.NoLimit := e0.mod.nolimit.keeps fun b o z => (e0.bs b o z).1
  have kinds : ∀ y ∈ ps.zip us, scope.names.lookup y.1 = some .local ∨
      (scope.names.lookup y.1 = some .cell ∧ ((cellsFrom (s.heap.objs.size + 1) scope.names []).lookup y.1).isSome = true) := fun ⟨n, v⟩ hy => by
    cases S.par n (List.of_mem_zip hy).1 with
    | inl z => exact .inl z
    | inr z => exact .inr ⟨z, PySem.W.cellsFrom_some _ _ _ (.inl z)⟩
  have crec := PySem.W.codeRec_of KX hcd
  refine codeAny_call_function room.depth (KX _ _ lk) rfl S.co S.gen rfl crec (bt _ _ _ _ ?_)
  refine wpAny_newFunctionEnv_cells S.kind kinds fun env henv s1 ic => ?_
  subst henv
  refine ⟨nol.keeps ic.toInCall.keep, codeAny_func ?_⟩
  have I : Inv (cxP P w K mg base N x scope f cdv A outer s H p) [] (start N vs) H s1 := L2H.inv_startH S pin e0 n1 rv ic
  have q := pure_ vs H Q E0 hsp
  have body_ := (d cdv A outer s H (room.deeper _) ⟨hot, List.mem_singleton.mpr rfl⟩).nox
  refine wpAny_mono (body_.run [] s1 (start N vs) H _ I q) (fun fl s' z => ?_) fun _ _ z => z
  cases fl with
  | ret u =>
    obtain ⟨v, σ', H', J, r, q'⟩ := z
    exact ⟨v, H', J.os, J.bare, J.base, J.hok, r, q'⟩
  | next =>
    obtain ⟨σ', H', J, q'⟩ := z
    exact ⟨V.non, H', J.os, J.bare, J.base, J.hok, rfl, q'⟩
  | brk =>
    obtain ⟨_, _, _, z⟩ := z
    exact z.elim
  | cont =>
    obtain ⟨_, _, _, z⟩ := z
    exact z.elim
end
section
variable {X : Cx} {k j : Nat} {ps : List Str} {sp : Sp} {x : Str} {q pos : Pos} {e : Expr} {es : List Expr} {t : TA} {p : Addr × Obj}
theorem pe_hc (h : HasH X.prog X.w X.K X.mg X.base p x k ps sp) (hr : L2H.RoomH j X.A) (hp : HotP X p) (ha : PA X (e :: es) t) (hk : k ≤ j := by decide) (hg : Gl X x := by rfl) (hdb : (x == ("__debug__" : Str)) = false := by decide)
    (he : starEach (e :: es) X.env = (false, eval e X.env) :: starEach es X.env := by rfl) (hpl : (backTo pos (starEach es X.env)).any (·.1) = false := by rfl) : PE X (.Call (.Name x q) (e :: es) [] pos) (tCall sp [] E0 t) := by
  obtain ⟨f, fd, F⟩ := h
  refine ⟨fun pn s0 ρ H0 W I0 h0 => ?_⟩
  refine wpAny_Call_Name_kw (ld_glob I0 hg F.g ?_ hdb)
  refine PySem.W.callWith_K (h₀ := X.base) I0.ok.mod.kin F.kp (thn (ha.run pos pn s0 ρ H0 _ I0 h0) fun us s1 hh => ?_) he hpl
  obtain ⟨vs, H1, I1, r1, q1⟩ := hh
  refine ⟨I1.kIn, ?_⟩
  have q2 : sp vs H1 W E0 := by
    have z : sp (vs ++ []) H1 W E0 := q1
    rwa [List.append_nil] at z
  have n1 : us.length = ps.length := by
    rw [← r1.length]
    exact F.ok.len _ _ _ _ q2
  have b := F.b s1 us I1.kIn (by rw [List.append_nil]; exact n1)
  rw [List.append_nil] at b
  obtain ⟨p1, p2, p3, p4, p5⟩ := I1.pin p (List.mem_append_left _ hp.mem)
  have pin : L2H.PinOk X.stack H1 s1 p := ⟨p1, p2, fun z => by
    cases List.mem_cons.mp (I1.stkSub p.1 z) with
    | inl z => exact p3 z
    | inr z => exact p4 z, p5⟩
  refine wpAny_call (codeAny_mono (F.ok.run X.A X.stack s1 H1 ⟨us, []⟩ us vs W (hr.mono hk) hp.hot pin I1.env0 b r1 q2) fun r s3 q3 => ?_)
  cases r with
  | error er => exact passN pn ρ H1 s1 er s3 I1 q3
  | ok fl =>
    cases fl with
    | ret u => exact I1.after q3
    | next => exact q3.elim
    | brk => exact q3.elim
    | cont => exact q3.elim
end
end NW
namespace NW
open PySem PySem.Spec PyProof.Rows L2
open C8 (tCut pss_cut)
section
variable {prog : Program} {w : World} {A : Around} {E : Value → Shared → Prop} {s : Shared}
theorem end_hot {I l x1 : Addr} {i : Nat} {items : Array Value} {Q : Option Value → Shared → Prop} (hot : HotX.HotAt A x1 s.heap) (hI : s.heap.IsListIter I l i) (hl : s.heap.IsList l items) (he : items[i]? = none) (hne : x1 ≠ I)
    (hQ : ∀ h', (∀ b o, b ≠ I → s.heap.get? b = some o → h'.get? b = some o) → Q none { s with heap := h' }) : wpAny (model prog w) A (pyNext (.ref I)) Q E s := by
  obtain ⟨hh, o1, v1, a1, a2, a3⟩ := hot
  obtain ⟨oi, gi, ci, di⟩ := id hI
  obtain ⟨ol, gl, cl, nl, dl⟩ := hl
  unfold pyNext
  refine wpAny_bind (wpAny_attempt (wpAny_callSpecial?_slot (name := Str.ofString "__next__") hI.typeIs slot_listiter_next (wpAny_call_entry slot_listiter_next hI.typeIs entry_listiter_next ?_ (args_listiter_next _))))
  show wpAny _ _ (field (.ref I) 0 >>= _) _ _ s
  refine wpAny_bind (wpAny_field gi di (x := .ref l) rfl ?_)
  show wpAny _ _ (if (Value.ref l == Value.none) = true then _ else _) _ _ s
  rw [if_neg (by exact Bool.false_ne_true)]
  show wpAny _ _ (field (.ref I) 1 >>= _) _ _ s
  refine wpAny_bind (wpAny_field gi di (x := .int i 0) rfl ?_)
  show wpAny _ _ (seqItems? (.ref l) >>= _) _ _ s
  refine wpAny_bind (wpAny_seqItems gl dl ?_)
  simp only [Int.toNat_natCast, he]
  refine wpAny_bind (wpAny_rule (wpAny_bind (wpAny_setField gi di (by simp) ?_)))
  show wpAny _ _ (newExc (.type "StopIteration") [] >>= _) _ _ _
  refine wpAny_bind ?_
  simp only [newExc, newTuple]
  refine wpAny_bind (wpAny_newObj_type ?_ (by size_fits))
  refine wpAny_bind (m := firstArgMember _ _) (wpAny_of_eq (a := Value.none) (by first | rfl | (simp only [firstArgMember]; rfl)) ?_)
  refine wpAny_newObj_type ?_ (by size_fits)
  have keep : ∀ {b : Addr} {o : Obj}, b ≠ I → s.heap.get? b = some o → (s.heap.update I (Obj.mapFields (·.setIfInBounds 0 .none))).get? b = some o := fun {b o} n z => by
    rw [Heap.get?_update_other _ _ (Ne.symm n)]; exact z
  have lt1 : x1 < (s.heap.update I (Obj.mapFields (·.setIfInBounds 0 .none))).objs.size := Heap.lt_size (keep hne a1)
  refine HotX.raiseNew_hot ⟨hh, o1, v1, Heap.get?_push_of_some _ (Heap.get?_push_of_some _ (keep hne a1)), a2, a3⟩ (Nat.ne_of_lt (Heap.lt_size (Heap.get?_push_of_some _ (keep hne a1)))) (Heap.get?_push_size _ rfl) rfl
    (by first | (simp; done) | (simp; omega)) ?_
  refine wpAny_bind (wpAny_isInstance (T := "StopIteration") (b := true) ⟨_, Heap.get?_update_self _ (Heap.get?_push_size _ rfl) rfl, rfl⟩ isSubtype_stop ?_)
  refine wpAny_pure (hQ _ fun b o n z => ?_)
  have z2 := Heap.get?_push_of_some ({ cls := .type "tuple", data := .seq ([] : List Value).toArray } : Obj) (keep n z)
  rw [Heap.get?_update_other _ _ (Nat.ne_of_gt (Heap.lt_size (Heap.get?_push_of_some _ (keep n z))))]
  exact Heap.get?_push_of_some _ (Heap.get?_push_of_some _ (keep n z))
end
section
variable {prog : Program} {w : World} {A : Around} {target : Expr}
/-- a list's iterator while the error at p is handled -/
theorem goesHot {p : Addr × Obj} (hot : L2H.Hot1 A p) (I l : Addr) (hne : l ≠ I) (hp : p.1 ≠ I) (items : Array Value) :
    Goes prog w A target I [I, l, p.1] [I] items.size (fun i v _ => items[i]? = some v) (fun i h => h.IsListIter I l i ∧ h.IsList l items ∧ h.get? p.1 = some p.2) where
  sub := fun b hb => by
    rw [List.mem_singleton.mp hb]
    exact List.mem_cons_self
  frame := fun i h h' st k => ⟨st.1.at fun o z => k _ (by simp) o z, st.2.1.at fun o z => k _ (by simp) o z, k _ (by simp) _ st.2.2⟩
  goes := fun i s Q E hi st hQ => by
    have hx : items[i]? = some items[i] := Array.getElem?_eq_getElem hi
    refine wpAny_pyNext_list_item st.1 st.2.1 hx fun h' st' sb => ⟨_, rfl, ?_⟩
    obtain ⟨o, ho, hc, hd⟩ := id st'
    refine letGo_of_cls ho hc hd (by decide) ?_
    refine hQ _ h' s.toks hx ⟨st', st.2.1.at fun o z => (sb.2 _ hne).trans z, (sb.2 _ hp).trans st.2.2⟩ (fun b o hb z => (sb.2 b (fun e => hb (by rw [e]; exact List.mem_singleton.mpr rfl))).trans z) (Nat.le_refl _)
  stops := fun s Q E st hQ => by
    obtain ⟨hh, vs, e1, e2⟩ := hot
    refine end_hot ⟨hh, p.2, vs, st.2.2, e1, e2⟩ st.1 st.2.1 (Array.getElem?_eq_none (Nat.le_refl _)) hp fun h' k => ⟨rfl, ?_⟩
    exact hQ h' s.toks (fun b o hb z => k b o (fun e => hb (by rw [e]; exact List.mem_singleton.mpr rfl)) z) (Nat.le_refl _)
  self := fun i s Q E st h => by
    obtain ⟨o, ho, hc, hd⟩ := id st.1
    exact wpAny_pyIter_listiter st.1 h
end
end NW
namespace NW
open PySem PySem.Spec PyProof.Rows L2
open C8 (tCut pss_cut)
/-- rows: pairs of a text and a bool -/
inductive RowsAt (H : Hp) : List V → List (Str × Bool) → Prop where
  | nil : RowsAt H [] []
  | cons {t : Addr} {n : Str} {b : Bool} {vs : List V} {rs : List (Str × Bool)} : H t = some (.tup [.str n, .bl b]) → RowsAt H vs rs → RowsAt H (.ref t :: vs) ((n, b) :: rs)
theorem RowsAt.mono {H H' : Hp} (s : Same H H') : ∀ {vs : List V} {rs : List (Str × Bool)}, RowsAt H vs rs → RowsAt H' vs rs
  | _, _, .nil => .nil
  | _, _, .cons h t => .cons (s _ _ h) (RowsAt.mono s t)
theorem RowsAt.append {H : Hp} : ∀ {vs vs' : List V} {rs rs' : List (Str × Bool)}, RowsAt H vs rs → RowsAt H vs' rs' → RowsAt H (vs ++ vs') (rs ++ rs')
  | _, _, _, _, .nil, b => b
  | _, _, _, _, .cons h t, b => .cons h (RowsAt.append t b)
theorem RowsAt.at {H : Hp} : ∀ {vs : List V} {rs : List (Str × Bool)} {i : Nat} {v : V}, RowsAt H vs rs → vs[i]? = some v → ∃ t n b, v = .ref t ∧ rs[i]? = some (n, b) ∧ H t = some (.tup [.str n, .bl b])
  | _, _, _, _, .nil, h => by simp at h
  | _, _, 0, _, .cons h _, e => by
    have z := Option.some.inj e
    exact ⟨_, _, _, z.symm, rfl, h⟩
  | _, _, i + 1, _, .cons _ t, e => RowsAt.at (i := i) t e
theorem RowsAt.len {H : Hp} : ∀ {vs : List V} {rs : List (Str × Bool)}, RowsAt H vs rs → vs.length = rs.length
  | _, _, .nil => rfl
  | _, _, .cons _ t => congrArg (· + 1) (RowsAt.len t)
/-- the texts whose bool is True -/
def sel (rs : List (Str × Bool)) : List V := (rs.filter (·.2)).map fun r => .str r.1
def tSel (tl : TE) : TE := fun σ H Q => tl σ H fun x H1 => ∃ (l : Addr) (vs : List V) (rs : List (Str × Bool)), x = .ref l ∧ H1 l = some (.lst vs) ∧ RowsAt H1 vs rs ∧ ∀ D, H1 D = none → Q (.ref D) (upd H1 D (.lst (sel rs)))
theorem sel_snoc {rs : List (Str × Bool)} {i : Nat} {n : Str} {b : Bool} (h : rs[i]? = some (n, b)) : sel (rs.take (i + 1)) = if b = true then sel (rs.take i) ++ [.str n] else sel (rs.take i) := by
  have e : rs.take (i + 1) = rs.take i ++ [(n, b)] := by
    rw [List.take_add_one, h]; rfl
  unfold sel
  rw [e, List.filter_append, List.map_append]
  cases b <;> simp
theorem neA {b N C : Nat} (hb : b < N + 1) (hC : N + 1 ≤ C) : b ≠ C := by omega
theorem offA {b N C D : Nat} (hb : b < N ∨ b = C) (hC : N + 1 ≤ C) (hD : N + 1 ≤ D) (h : D ≠ C) : ¬ (b = D ∨ b = N) := by omega
section
variable {X : Cx} {p : Addr × Obj} {iter : Expr} {tl : TE} {scope : Scope} {pos p1 p2 p3 p4 p5 p6 p7 : Pos} {k1 k2 : Nat}
theorem pe_sel (hp : HotP X p) (hi : PE X iter tl) (hclos : ∀ env : Env, closureFor scope env = pure []) (hcell : ∀ y ∈ scope.names, y.2 ≠ .cell) (hkind : scope.kind = .function) (hnames : ∀ y ∈ scope.names, y.2 = .local → scope.names.lookup y.1 = some .local)
    (hx : scope.names.lookup ("row" : Str) = some .local) (hs : ∀ x, foldedSetIterable iter X.env x = pure x := by intro _; rfl) :
    PE X (.ListComp (.Subscript (.Name "row" p1) (.Constant (.int 0) k1 p2) p3) [⟨.Name "row" p4, iter, [.Subscript (.Name "row" p5) (.Constant (.int 1) k2 p6) p7], 0⟩] scope pos) (tSel tl) := by
  refine ⟨fun pn s0 σ H0 Q I0 h0 => ?_⟩
  refine ListComp_goes (cl := []) (hclos X.env) hcell hkind hnames (thn (hi.run pn s0 σ H0 _ I0 h0) fun xv s hh => ?_) hs
  obtain ⟨x, H, I, rx, l, vs, rs, ex, hl, hr, q⟩ := hh
  subst ex
  obtain rfl : xv = Value.ref l := rx
  obtain ⟨its, rv, pl, hz⟩ := I.list (SqL.of hl)
  have lenI := rv.length
  refine wpAny_pyIter_list pl.isList ?_
  have hll : l < s.heap.objs.size := by
    obtain ⟨o, n, ho, _⟩ := pl
    exact Heap.lt_size ho
  obtain ⟨gp, fp, _, _, _⟩ := I.pin p (List.mem_append_left _ hp.mem)
  have hpp : p.1 < s.heap.objs.size := Heap.lt_size gp
  have hsz : its.toArray.size = its.length := List.size_toArray ..
  refine ⟨s.heap.objs.size, _, _, its.toArray.size, _, _, rfl, goesHot hp.hot s.heap.objs.size l (Nat.ne_of_lt hll) (Nat.ne_of_lt hpp) its.toArray, by omega, ⟨⟨_, Heap.get?_push_size _ rfl, rfl, rfl⟩, pl.isList.push _, Heap.get?_push_of_some _ gp⟩, ?_, fun D C s₃ hB => ?_⟩
  · intro b hb
    show b < (s.heap.push _).objs.size
    rw [Heap.size_push]
    rcases List.mem_cons.mp hb with e | hb
    · rw [e]; exact Nat.lt_succ_self _
    rcases List.mem_cons.mp hb with e | hb
    · rw [e]; exact Nat.lt_succ_of_lt hll
    rw [List.mem_singleton.mp hb]; exact Nat.lt_succ_of_lt hpp
  · obtain ⟨⟨h₃, tk₃, rfl⟩, old, nD, nC, hDC, hnm⟩ := hB
    have nC' : (s.heap.objs.size + 1 : Nat) ≤ C := by
      have z : (s.heap.push { cls := .type "list_iterator", data := .fields #[.ref l, .int 0 0] }).objs.size ≤ C := nC
      rwa [Heap.size_push] at z
    have nD' : (s.heap.objs.size + 1 : Nat) ≤ D := by
      have z : (s.heap.push { cls := .type "list_iterator", data := .fields #[.ref l, .int 0 0] }).objs.size ≤ D := nD
      rwa [Heap.size_push] at z
    have kx : (compEnvC scope [] C X.env).kindOf "row" = some .local := lookup_relabel_local hx
    have hpc : ((compEnvC scope [] C X.env).scope.kind == .class || ((compEnvC scope [] C X.env).scope.kind == .module && (compEnvC scope [] C X.env).locals != (compEnvC scope [] C X.env).globals)) = false := by
      show (scope.kind == .class || (scope.kind == .module && _)) = false
      rw [hkind]; rfl
    have offC : ∀ b : Addr, b < s.heap.objs.size + 1 → b ≠ C := fun b hb => neA hb nC'
    refine ⟨fun i ys s₁ => ∃ h' tk m, s₁ = { s with heap := h', toks := tk } ∧ h'.Ns C m ∧ Vals (sel (rs.take i)) ys ∧ ∀ b o, s.heap.get? b = some o → h'.get? b = some o,
      ⟨h₃, tk₃, _, rfl, hnm, by simpa [sel] using Paired.nil, fun b o e => old b o (Heap.get?_push_of_some _ e)⟩, ?_, ?_, ?_⟩
    · rintro i ys s₁ h' tk ⟨h₄, tk₄, m, rfl, n₄, e₄, k₄⟩ hk' _
      have off : ∀ b : Addr, (b < s.heap.objs.size ∨ b = C) → b ∉ D :: [s.heap.objs.size] := fun b hb hm => offA hb nC' nD' hDC (by simpa using hm)
      exact ⟨h', tk, m, rfl, n₄.at' fun o e => hk' _ o (off _ (.inr rfl)) e, e₄, fun b o e => hk' b o (off _ (.inl (Heap.lt_size e))) (k₄ b o e)⟩
    · rintro i v ys s₁ hi' hv st ⟨h₄, tk₄, m, rfl, n₄, e₄, k₄⟩ hpl
      have hv' : its[i]? = some v := by simpa using hv
      have hvx : vs[i]? = some vs[i] := List.getElem?_eq_getElem (by omega)
      obtain ⟨u, hu, ru⟩ := rv.get hvx
      rw [hv'] at hu
      obtain rfl : v = u := Option.some.inj hu
      obtain ⟨t, n, b, et, hrs, ht⟩ := hr.at hvx
      rw [et] at ru
      obtain rfl : v = Value.ref t := ru
      obtain ⟨tz, tits, tv, tt⟩ : [V.str n, V.bl b].length ≤ sizeLine ∧ ∃ its : List Value, Vals [V.str n, V.bl b] its ∧ IsTup s.heap t its.toArray := I.hok t _ ht
      obtain ⟨u0, u1, rfl, ⟨tk0, rfl⟩, rfl⟩ : ∃ u0 u1, tits = [u0, u1] ∧ (∃ k, u0 = Value.str n k) ∧ u1 = Value.bool b := by
        cases tv with
        | cons r1 r2 =>
          cases r2 with
          | cons r2 r3 =>
            cases r3
            exact ⟨_, _, rfl, r1, r2⟩
      have htl : t < s.heap.objs.size := tt.lt
      refine wpAny_assign_Name (wpAny_storeName_local kx n₄ (fun h₅ n₅ s₅ => ?_) hpc)
      have keep5 : ∀ b o, s.heap.get? b = some o → h₅.get? b = some o := fun b o e => s₅.extBut b o (offC b (Nat.lt_succ_of_lt (Heap.lt_size e))) (k₄ b o e)
      have t5 : IsTup h₅ t #[.str n tk0, .bool b] := by
        obtain ⟨o, ho, c1, c2⟩ := tt
        exact ⟨o, keep5 _ _ ho, c1, c2⟩
      have st5 : (h₅.IsListIter s.heap.objs.size l (i + 1) ∧ h₅.IsList l its.toArray ∧ h₅.get? p.1 = some p.2) :=
        ⟨st.1.at fun o e => s₅.extBut _ o (offC _ (Nat.lt_succ_self _)) e, st.2.1.at fun o e => s₅.extBut _ o (offC _ (Nat.lt_succ_of_lt hll)) e, s₅.extBut _ _ (offC _ (Nat.lt_succ_of_lt hpp)) st.2.2⟩
      have pl5 : h₅.PlainList D ys.toArray := hpl.extBut s₅.extBut hDC
      have item : ∀ {E : Value → Shared → Prop} {Q' : Value → Shared → Prop} {q1 q2 q3 : Pos} {kk : Nat} (j : Nat) (r : Value) (tk : Nat), j < 2 → [Value.str n tk0, Value.bool b][j]? = some r → (∀ tk', Q' r { s with heap := h₅, toks := tk' }) →
          wpAny (model X.prog X.w) X.A (eval (.Subscript (.Name "row" q1) (.Constant (.int (j : Int)) kk q2) q3) (compEnvC scope [] C X.env)) Q' E { s with heap := h₅, toks := tk } := by
        intro E Q' q1 q2 q3 kk j r tk hj hr' hq
        refine Subscript_ ?_
        rw [eval_Name _ _ _ (by decide)]
        refine wpAny_bind (wpAny_standAt (wpAny_loadName_local hkind kx n₅ (v := Value.ref t) (if_pos rfl) ?_))
        refine wpAny_Constant_int ?_
        refine item_tuple (j := j) t5 (by omega) (by omega) ?_ (by simpa using hr') (hq _)
        rw [seqIndex_of (by omega) (by simpa using (by omega : (j : Int) < 2))]
        rfl
      refine wpAny_tests_one (isTrue_plain (item 1 _ _ (by decide) rfl fun tk1 => wpAny_truthy_bool ?_))
      have snoc := sel_snoc hrs
      cases b with
      | false =>
        rw [if_neg Bool.false_ne_true] at snoc ⊢
        exact ⟨⟨h₅, _, _, rfl, n₅, by rw [snoc]; exact e₄, keep5⟩, st5, pl5⟩
      | true =>
        rw [if_pos rfl] at snoc ⊢
        refine item 0 _ _ (by decide) rfl fun tk2 => ⟨⟨h₅, _, _, rfl, n₅, ?_, keep5⟩, st5, pl5⟩
        rw [snoc]
        exact e₄.append (.cons ⟨_, rfl⟩ .nil)
    · rintro ys s₁ ⟨h₄, tk₄, m, rfl, n₄, e₄, k₄⟩ hpl
      refine ⟨m, n₄, fun h' hs' => ?_⟩
      have keep6 : ∀ b o, s.heap.get? b = some o → h'.get? b = some o := fun b o e => hs'.extBut b o (offC b (Nat.lt_succ_of_lt (Heap.lt_size e))) (k₄ b o e)
      have pl6 : h'.PlainList D ys.toArray := hpl.extBut hs'.extBut hDC
      have full : rs.take its.toArray.size = rs := List.take_of_length_le (by rw [hsz, ← lenI, hr.len]; exact Nat.le_refl _)
      rw [full] at e₄
      have nd : s.heap.objs.size ≤ D := Nat.le_trans (Nat.le_succ _) nD'
      obtain ⟨nn, gD⟩ := pl6
      refine ⟨.ref D, _, I.laid (t' := tk₄) (a := D) (o := .lst (sel rs)) keep6 nd ⟨?_, ys, nn, e₄, gD⟩, rfl, q D (I.hok.fresh nd)⟩
      have z : (sel rs).length ≤ rs.length := by
        unfold sel
        rw [List.length_map]
        exact List.length_filter_le _ _
      rw [← hr.len] at z
      omega
end
def rIsP (K : PySem.W.Frag) (D a : Addr) (d : Option Addr) : List V → Hp → VK → Prop := fun xs H Q => ∃ (c : V) (cv : Value) (b : Bool), xs = [.ref a, c] ∧ ClsV c cv ∧ (∀ dd, d = some dd → ∃ fs, H dd = some (.xd fs)) ∧ PySem.W.kitOne K (.ref D) cv = some b ∧ Q (.bl b) H
theorem call_isP {X : Cx} {D : Addr} {d : Option Addr} {p : Addr × Obj} (C : ExcC X.K D) (hp : p ∈ X.pn) (hz : Zc (.ref D) d p.2) (hf : ∃ vs, p.2.data = .fields vs) : CallR X (.builtin "isinstance") (rIsP X.K D p.1 d) := by
  intro pn s ρ H xs us Q I r h
  obtain ⟨c, cv, b, ex, hc, hd, e, q⟩ := h
  subst ex
  cases r with
  | cons rx rr =>
    cases rr with
    | cons rt rr =>
      cases rr
      cases rx
      have ec := hc.eq rt
      subst ec
      obtain ⟨g, _⟩ := I.pin p (List.mem_append_left _ hp)
      obtain ⟨vs, hv⟩ := hf
      have od : ∃ od : Option Obj, PySem.W.InstAt s.heap p.1 p.2 D od := by
        cases d with
        | none => exact ⟨none, g, hz.1, by unfold PySem.W.notCls; rw [hv] <;> rfl, by rw [hz.2]; trivial⟩
        | some dd =>
          obtain ⟨fs, hfs⟩ := hd dd rfl
          obtain ⟨mA, hns, _⟩ : ∃ mA, s.heap.Ns1 dd mA ∧ ∀ f, RelO (fs.lookup f) (mA f) := I.hok dd _ hfs
          obtain ⟨o, ho, _⟩ := lookIn_ns hns
          exact ⟨some o, g, hz.1, by unfold PySem.W.notCls; rw [hv] <;> rfl, by rw [hz.2]; exact ho⟩
      obtain ⟨od, J⟩ := od
      obtain ⟨cdD, hcD, _⟩ := PySem.W.any_some C.hd
      exact PySem.W.kia_one (PySem.W.kitx_exc (by rw [hcD]; rfl) C.hg C.hk C.hs C.ha C.hn C.ht C.hm) I.kIn J e (fun z => nomatch z) fun tk => ⟨.bl b, H, I.kept (t' := tk) fun _ _ z => z, rfl, q⟩
end NW
namespace NW
open PySem PySem.Spec PyProof.Rows L2
open C8 (tCut pss_cut)
/-- what isinstance says of an error of the class at E -/
structure KitF (K : PySem.W.Frag) (E : Addr) (b : Str → Bool) : Prop where
  v : PySem.W.kitOne K (.ref E) (.type "ValueError") = some (b "ValueError")
  c : ∀ n ∈ errN1 ++ errN2, PySem.W.kitOne K (.ref E) (.ref (He.ga K n)) = some (b n)
def t_kinds (K : PySem.W.Frag) (E a : Addr) (d : Option Addr) : TS :=
  (tSeq (tAsg (tLst (tCons (tTup (tCons (tC (.str "ValueError")) (tCons (tCB (rIsP K E a d) (tCons (tVar 0) (tCons (tC (.ty "ValueError")) tNil))) tNil))) (tCons (tTup (tCons (tC (.str "NestError")) (tCons (tCB (rIsP K E a d) (tCons (tVar 0) (tCons (tC (.ref (He.ga K "NestError"))) tNil))) tNil))) tNil))) (gName 1))
    (tSeq (tAsg (tOp aAdd (tVar 1) (tLst (tCons (tTup (tCons (tC (.str "Refusal")) (tCons (tCB (rIsP K E a d) (tCons (tVar 0) (tCons (tC (.ref (He.ga K "Refusal"))) tNil))) tNil))) (tCons (tTup (tCons (tC (.str "BadName")) (tCons (tCB (rIsP K E a d) (tCons (tVar 0) (tCons (tC (.ref (He.ga K "BadName"))) tNil))) tNil))) tNil)))) (gName 1))
    (tSeq (tAsg (tOp aAdd (tVar 1) (tLst (tCons (tTup (tCons (tC (.str "BadWeight")) (tCons (tCB (rIsP K E a d) (tCons (tVar 0) (tCons (tC (.ref (He.ga K "BadWeight"))) tNil))) tNil))) (tCons (tTup (tCons (tC (.str "BadNumber")) (tCons (tCB (rIsP K E a d) (tCons (tVar 0) (tCons (tC (.ref (He.ga K "BadNumber"))) tNil))) tNil))) tNil)))) (gName 1))
    (tSeq (tAsg (tOp aAdd (tVar 1) (tLst (tCons (tTup (tCons (tC (.str "BadCount")) (tCons (tCB (rIsP K E a d) (tCons (tVar 0) (tCons (tC (.ref (He.ga K "BadCount"))) tNil))) tNil))) (tCons (tTup (tCons (tC (.str "Twice")) (tCons (tCB (rIsP K E a d) (tCons (tVar 0) (tCons (tC (.ref (He.ga K "Twice"))) tNil))) tNil))) tNil)))) (gName 1))
    (tSeq (tAsg (tOp aAdd (tVar 1) (tLst (tCons (tTup (tCons (tC (.str "Unknown")) (tCons (tCB (rIsP K E a d) (tCons (tVar 0) (tCons (tC (.ref (He.ga K "Unknown"))) tNil))) tNil))) (tCons (tTup (tCons (tC (.str "NoHolder")) (tCons (tCB (rIsP K E a d) (tCons (tVar 0) (tCons (tC (.ref (He.ga K "NoHolder"))) tNil))) tNil))) tNil)))) (gName 1))
    (tSeq (tAsg (tOp aAdd (tVar 1) (tLst (tCons (tTup (tCons (tC (.str "Loop")) (tCons (tCB (rIsP K E a d) (tCons (tVar 0) (tCons (tC (.ref (He.ga K "Loop"))) tNil))) tNil))) (tCons (tTup (tCons (tC (.str "Short")) (tCons (tCB (rIsP K E a d) (tCons (tVar 0) (tCons (tC (.ref (He.ga K "Short"))) tNil))) tNil))) tNil)))) (gName 1))
    (tSeq (tAsg (tOp aAdd (tVar 1) (tLst (tCons (tTup (tCons (tC (.str "BadText")) (tCons (tCB (rIsP K E a d) (tCons (tVar 0) (tCons (tC (.ref (He.ga K "BadText"))) tNil))) tNil))) (tCons (tTup (tCons (tC (.str "OtherYard")) (tCons (tCB (rIsP K E a d) (tCons (tVar 0) (tCons (tC (.ref (He.ga K "OtherYard"))) tNil))) tNil))) tNil)))) (gName 1))
    (tSeq (tAsg (tOp aAdd (tVar 1) (tLst (tCons (tTup (tCons (tC (.str "Same")) (tCons (tCB (rIsP K E a d) (tCons (tVar 0) (tCons (tC (.ref (He.ga K "Same"))) tNil))) tNil))) (tCons (tTup (tCons (tC (.str "Inside")) (tCons (tCB (rIsP K E a d) (tCons (tVar 0) (tCons (tC (.ref (He.ga K "Inside"))) tNil))) tNil))) tNil)))) (gName 1))
    (tSeq (tAsg (tOp aAdd (tVar 1) (tLst (tCons (tTup (tCons (tC (.str "Unlike")) (tCons (tCB (rIsP K E a d) (tCons (tVar 0) (tCons (tC (.ref (He.ga K "Unlike"))) tNil))) tNil))) (tCons (tTup (tCons (tC (.str "Nailed")) (tCons (tCB (rIsP K E a d) (tCons (tVar 0) (tCons (tC (.ref (He.ga K "Nailed"))) tNil))) tNil))) tNil)))) (gName 1))
    (tSeq (tAsg (tOp aAdd (tVar 1) (tLst (tCons (tTup (tCons (tC (.str "Sealed")) (tCons (tCB (rIsP K E a d) (tCons (tVar 0) (tCons (tC (.ref (He.ga K "Sealed"))) tNil))) tNil))) (tCons (tTup (tCons (tC (.str "Idle")) (tCons (tCB (rIsP K E a d) (tCons (tVar 0) (tCons (tC (.ref (He.ga K "Idle"))) tNil))) tNil))) tNil)))) (gName 1))
    (tSeq (tAsg (tOp aAdd (tVar 1) (tLst (tCons (tTup (tCons (tC (.str "Broken")) (tCons (tCB (rIsP K E a d) (tCons (tVar 0) (tCons (tC (.ref (He.ga K "Broken"))) tNil))) tNil))) (tCons (tTup (tCons (tC (.str "NotComing")) (tCons (tCB (rIsP K E a d) (tCons (tVar 0) (tCons (tC (.ref (He.ga K "NotComing"))) tNil))) tNil))) tNil)))) (gName 1))
    (tSeq (tAsg (tOp aAdd (tVar 1) (tLst (tCons (tTup (tCons (tC (.str "Unbalanced")) (tCons (tCB (rIsP K E a d) (tCons (tVar 0) (tCons (tC (.ref (He.ga K "Unbalanced"))) tNil))) tNil))) (tCons (tTup (tCons (tC (.str "TooMany")) (tCons (tCB (rIsP K E a d) (tCons (tVar 0) (tCons (tC (.ref (He.ga K "TooMany"))) tNil))) tNil))) tNil)))) (gName 1))
    (tSeq (tAsg (tOp aAdd (tVar 1) (tLst (tCons (tTup (tCons (tC (.str "BadWish")) (tCons (tCB (rIsP K E a d) (tCons (tVar 0) (tCons (tC (.ref (He.ga K "BadWish"))) tNil))) tNil))) (tCons (tTup (tCons (tC (.str "Clash")) (tCons (tCB (rIsP K E a d) (tCons (tVar 0) (tCons (tC (.ref (He.ga K "Clash"))) tNil))) tNil))) tNil)))) (gName 1))
    (tSeq (tAsg (tOp aAdd (tVar 1) (tLst (tCons (tTup (tCons (tC (.str "OtherDoors")) (tCons (tCB (rIsP K E a d) (tCons (tVar 0) (tCons (tC (.ref (He.ga K "OtherDoors"))) tNil))) tNil))) (tCons (tTup (tCons (tC (.str "NoStory")) (tCons (tCB (rIsP K E a d) (tCons (tVar 0) (tCons (tC (.ref (He.ga K "NoStory"))) tNil))) tNil))) tNil)))) (gName 1))
    (tSeq (tAsg (tOp aAdd (tVar 1) (tLst (tCons (tTup (tCons (tC (.str "BadOrder")) (tCons (tCB (rIsP K E a d) (tCons (tVar 0) (tCons (tC (.ref (He.ga K "BadOrder"))) tNil))) tNil))) (tCons (tTup (tCons (tC (.str "OrderRefused")) (tCons (tCB (rIsP K E a d) (tCons (tVar 0) (tCons (tC (.ref (He.ga K "OrderRefused"))) tNil))) tNil))) tNil)))) (gName 1))
    (tSeq (tAsg (tOp aAdd (tVar 1) (tLst (tCons (tTup (tCons (tC (.str "OutOfSteps")) (tCons (tCB (rIsP K E a d) (tCons (tVar 0) (tCons (tC (.ref (He.ga K "OutOfSteps"))) tNil))) tNil))) (tCons (tTup (tCons (tC (.str "NotEmpty")) (tCons (tCB (rIsP K E a d) (tCons (tVar 0) (tCons (tC (.ref (He.ga K "NotEmpty"))) tNil))) tNil))) tNil)))) (gName 1))
    (tSeq (tAsg (tOp aAdd (tVar 1) (tLst (tCons (tTup (tCons (tC (.str "NoChange")) (tCons (tCB (rIsP K E a d) (tCons (tVar 0) (tCons (tC (.ref (He.ga K "NoChange"))) tNil))) tNil))) (tCons (tTup (tCons (tC (.str "NothingDone")) (tCons (tCB (rIsP K E a d) (tCons (tVar 0) (tCons (tC (.ref (He.ga K "NothingDone"))) tNil))) tNil))) tNil)))) (gName 1))
    (tSeq (tAsg (tOp aAdd (tVar 1) (tLst (tCons (tTup (tCons (tC (.str "BadClaim")) (tCons (tCB (rIsP K E a d) (tCons (tVar 0) (tCons (tC (.ref (He.ga K "BadClaim"))) tNil))) tNil))) tNil))) (gName 1))
    (tRet (tSel (tVar 1)))))))))))))))))))))
section
variable {K : PySem.W.Frag} {E a r : Addr} {d : Option Addr} {H0 H : Hp} {D : Ends} {o : Option V} {vs : List V} {rs : List (Str × Bool)} {n1 n2 : Str} {c1 c2 : V} {v1 v2 : Value} {b1 b2 : Bool} {Q : VK}
theorem isP (hc : ClsV c1 v1) (hk : PySem.W.kitOne K (.ref E) v1 = some b1) (hd : ∀ dd, d = some dd → ∃ fs, H dd = some (.xd fs)) (h : Q (.bl b1) H) : rIsP K E a d [.ref a, c1] H Q := ⟨c1, v1, b1, rfl, hc, hd, hk, h⟩
theorem xd_mono (hd : ∀ dd, d = some dd → ∃ fs, H0 dd = some (.xd fs)) (s : Same H0 H) : ∀ dd, d = some dd → ∃ fs, H dd = some (.xd fs) := fun dd e => by
  obtain ⟨fs, z⟩ := hd dd e
  exact ⟨fs, s _ _ z⟩
local macro_rules | `(tactic| walk_at "nw") => `(tactic| first
  | with_reducible refine s_seq ?_
  | with_reducible refine s_asg ?_
  | with_reducible refine s_if ?_
  | with_reducible refine s_ret ?_
  | with_reducible refine s_drop ?_
  | with_reducible refine v_var0 ?_
  | with_reducible refine s_name0 ?_
  | with_reducible refine v_aug0 ?_
  | with_reducible refine v_var1 ?_
  | with_reducible refine s_name1 ?_
  | with_reducible refine v_aug1 ?_
  | with_reducible refine v_var2 ?_
  | with_reducible refine s_name2 ?_
  | with_reducible refine v_aug2 ?_
  | with_reducible refine v_var3 ?_
  | with_reducible refine s_name3 ?_
  | with_reducible refine v_aug3 ?_
  | with_reducible refine v_var4 ?_
  | with_reducible refine s_name4 ?_
  | with_reducible refine v_aug4 ?_
  | with_reducible refine v_var5 ?_
  | with_reducible refine s_name5 ?_
  | with_reducible refine v_aug5 ?_
  | with_reducible refine v_var6 ?_
  | with_reducible refine s_name6 ?_
  | with_reducible refine v_aug6 ?_
  | with_reducible refine v_var7 ?_
  | with_reducible refine s_name7 ?_
  | with_reducible refine v_aug7 ?_
  | with_reducible refine v_var8 ?_
  | with_reducible refine s_name8 ?_
  | with_reducible refine v_aug8 ?_
  | with_reducible refine v_var9 ?_
  | with_reducible refine s_name9 ?_
  | with_reducible refine v_aug9 ?_
  | with_reducible refine v_var10 ?_
  | with_reducible refine s_name10 ?_
  | with_reducible refine v_aug10 ?_
  | with_reducible refine v_var11 ?_
  | with_reducible refine s_name11 ?_
  | with_reducible refine v_aug11 ?_
  | with_reducible refine v_var12 ?_
  | with_reducible refine s_name12 ?_
  | with_reducible refine v_aug12 ?_
  | with_reducible refine v_var13 ?_
  | with_reducible refine s_name13 ?_
  | with_reducible refine v_aug13 ?_
  | with_reducible refine v_var14 ?_
  | with_reducible refine s_name14 ?_
  | with_reducible refine v_aug14 ?_
  | with_reducible refine v_var15 ?_
  | with_reducible refine s_name15 ?_
  | with_reducible refine v_aug15 ?_
  | with_reducible refine v_c ?_
  | with_reducible refine v_op ?_
  | with_reducible refine v_cons ?_
  | with_reducible refine v_nil ?_
  | with_reducible refine v_cb ?_
  | with_reducible refine v_call ?_
  | with_reducible refine c_test ?_
  | with_reducible refine c_bl ?_
  | with_reducible refine c_and ?_
  | with_reducible refine c_or ?_
  | with_reducible refine c_not ?_
  | with_reducible refine v_augS ?_
  | with_reducible refine v_sub ?_
  | with_reducible refine add_ii ?_
  | with_reducible refine sub_ii ?_
  | with_reducible refine iadd_ii ?_
  | with_reducible refine lt_ii ?_
  | with_reducible refine le_ii ?_
  | with_reducible refine gt_ii ?_
  | with_reducible refine ge_ii ?_
  | with_reducible refine eq_ii ?_
  | with_reducible refine ne_ii ?_
  | with_reducible refine int_i ?_
  | with_reducible refine abs_i ?_
  | with_reducible refine max_i ?_
  | with_reducible refine min_i ?_
  | with_reducible refine mul_r (by omega) (by omega) ?_
  | with_reducible refine mul_l (by omega) (by omega) ?_
  | with_reducible refine ix_m0 (by assumption) ?_
  | with_reducible refine get_m0 (by assumption) ?_
  | with_reducible refine ix_m1 (by assumption) ?_
  | with_reducible refine get_m1 (by assumption) ?_
  | with_reducible refine ix_m2 (by assumption) ?_
  | with_reducible refine get_m2 (by assumption) ?_
  | with_reducible refine ix_m3 (by assumption) ?_
  | with_reducible refine get_m3 (by assumption) ?_
  | with_reducible refine ix_m4 (by assumption) ?_
  | with_reducible refine get_m4 (by assumption) ?_
  | with_reducible refine ix_m5 (by assumption) ?_
  | with_reducible refine get_m5 (by assumption) ?_
  | (with_reducible refine st_set1 (by assumption) (by assumption) ?_; intro H1 hs1 kp1)
  | (with_reducible refine st_set2 (by assumption) (by assumption) ?_; intro H1 hs1 kp1)
  | (with_reducible refine st_set3 (by assumption) (by assumption) ?_; intro H1 hs1 kp1)
  | (with_reducible refine st_set4 (by assumption) (by assumption) ?_; intro H1 hs1 kp1)
  | (with_reducible refine st_set5 (by assumption) (by assumption) ?_; intro H1 hs1 kp1)
  | with_reducible refine len_m (by assumption) ?_
  | with_reducible refine s_for1 ?_
  | with_reducible refine s_forL ?_
  | with_reducible refine rng1 (by omega) (by omega) ?_
  | with_reducible refine s_next ?_
  | with_reducible refine s_break ?_
  | with_reducible refine s_cont ?_
  | with_reducible refine isi_non_bool ?_
  | with_reducible refine isi_non_int ?_
  | with_reducible refine isi_non_str ?_
  | with_reducible refine isi_non_list ?_
  | with_reducible refine isi_non_tuple ?_
  | with_reducible refine isi_non_dict ?_
  | with_reducible refine isi_non_seq (by assumption) ?_
  | with_reducible refine isi_bl_bool ?_
  | with_reducible refine isi_bl_int ?_
  | with_reducible refine isi_bl_str ?_
  | with_reducible refine isi_bl_list ?_
  | with_reducible refine isi_bl_tuple ?_
  | with_reducible refine isi_bl_dict ?_
  | with_reducible refine isi_bl_seq (by assumption) ?_
  | with_reducible refine isi_int_bool ?_
  | with_reducible refine isi_int_int ?_
  | with_reducible refine isi_int_str ?_
  | with_reducible refine isi_int_list ?_
  | with_reducible refine isi_int_tuple ?_
  | with_reducible refine isi_int_dict ?_
  | with_reducible refine isi_int_seq (by assumption) ?_
  | with_reducible refine isi_str_bool ?_
  | with_reducible refine isi_str_int ?_
  | with_reducible refine isi_str_str ?_
  | with_reducible refine isi_str_list ?_
  | with_reducible refine isi_str_tuple ?_
  | with_reducible refine isi_str_dict ?_
  | with_reducible refine isi_str_seq (by assumption) ?_
  | with_reducible refine isi_lst_bool (by assumption) (by assumption) ?_
  | with_reducible refine isi_lst_int (by assumption) (by assumption) ?_
  | with_reducible refine isi_lst_str (by assumption) (by assumption) ?_
  | with_reducible refine isi_lst_list (by assumption) (by assumption) ?_
  | with_reducible refine isi_lst_tuple (by assumption) (by assumption) ?_
  | with_reducible refine isi_lst_dict (by assumption) (by assumption) ?_
  | with_reducible refine isi_lst_seq (by assumption) (by assumption) (by assumption) ?_
  | with_reducible refine isi_tup_bool (by assumption) (by assumption) ?_
  | with_reducible refine isi_tup_int (by assumption) (by assumption) ?_
  | with_reducible refine isi_tup_str (by assumption) (by assumption) ?_
  | with_reducible refine isi_tup_list (by assumption) (by assumption) ?_
  | with_reducible refine isi_tup_tuple (by assumption) (by assumption) ?_
  | with_reducible refine isi_tup_dict (by assumption) (by assumption) ?_
  | with_reducible refine isi_tup_seq (by assumption) (by assumption) (by assumption) ?_
  | with_reducible refine isi_dK_bool (by assumption) (by assumption) ?_
  | with_reducible refine isi_dK_int (by assumption) (by assumption) ?_
  | with_reducible refine isi_dK_str (by assumption) (by assumption) ?_
  | with_reducible refine isi_dK_list (by assumption) (by assumption) ?_
  | with_reducible refine isi_dK_tuple (by assumption) (by assumption) ?_
  | with_reducible refine isi_dK_dict (by assumption) (by assumption) ?_
  | with_reducible refine isi_dK_seq (by assumption) (by assumption) (by assumption) ?_
  | with_reducible refine eq_bb ?_
  | with_reducible refine eq_ss ?_
  | with_reducible refine ev_isN ?_
  | with_reducible refine ev_tB ?_
  | with_reducible refine ev_and ?_
  | with_reducible refine ev_or ?_
  | with_reducible refine ev_not ?_
  | with_reducible refine c_tru ?_
  | with_reducible refine tru_bl ?_
  | with_reducible refine if_nt ?_
  | with_reducible refine if_nf ?_
  | with_reducible refine tup_new ?_
  | with_reducible refine lst_new ?_
  | with_reducible refine len_ms (by assumption) (by assumption) ?_
  | with_reducible refine len_ts (by assumption) (by assumption) ?_
  | ((with_reducible refine lit_len ?_ ?_); (focus (first | decide | (simp; done) | (simp; omega))))
  | (with_reducible refine new_st (by assumption) (by assumption) ?_; intro q1 H1 hq1 he1 hn1 kp1 hS1 sm1)
  | (with_reducible refine new_same (by assumption) ?_; intro q1 H1 hq1 he1 sm1 hs1)
  | with_reducible refine if_dT rfl ?_
  | ((with_reducible refine if_dF ?_ ?_); focus (intro z; cases z; done))
  | with_reducible refine if_t ?_
  | with_reducible refine if_f ?_
  | ((with_reducible refine c_take (by assumption) (by assumption) ?_ ?_); (focus omega); intro r1 H1 hS1 kp1 h01 h11)
  | with_reducible refine ev_chain ?_
  | ((with_reducible refine c_number (by assumption) (by assumption) ?_ ?_); (focus omega); intro r1 H1 hS1 kp1 h01 h11)
  | ((with_reducible refine c_pick (by assumption) (by assumption) (by assumption) (by assumption) ?_ ?_); (focus (simp; done)); intro r1 H1 hS1 kp1 kk1 h01))
local macro_rules | `(tactic| walk_at "go") => `(tactic| repeat' (first | walk_at "nw" | ((with_reducible refine if_d ?_ ?_) <;> intro c1) | ((with_reducible refine if_nd ?_ ?_) <;> intro c1)))
theorem row2 (hc1 : ClsV c1 v1) (hk1 : PySem.W.kitOne K (.ref E) v1 = some b1) (hc2 : ClsV c2 v2) (hk2 : PySem.W.kitOne K (.ref E) v2 = some b2) (hd : ∀ dd, d = some dd → ∃ fs, H0 dd = some (.xd fs)) (hs : Same H0 H)
    (hr : H r = some (.lst vs)) (ha : RowsAt H vs rs) (hl : vs.length ≤ 100)
    (h : ∀ (r' : Addr) (H' : Hp) (vs' : List V), Same H0 H' → H' r' = some (.lst vs') → RowsAt H' vs' (rs ++ [(n1, b1), (n2, b2)]) → vs'.length = vs.length + 2 → D.nx [some (.ref a), some (.ref r'), o] H') :
    tAsg (tOp aAdd (tVar 1) (tLst (tCons (tTup (tCons (tC (.str n1)) (tCons (tCB (rIsP K E a d) (tCons (tVar 0) (tCons (tC c1) tNil))) tNil))) (tCons (tTup (tCons (tC (.str n2)) (tCons (tCB (rIsP K E a d) (tCons (tVar 0) (tCons (tC c2) tNil))) tNil))) tNil)))) (gName 1) D [some (.ref a), some (.ref r), o] H := by
  repeat walk_at "nw"
  refine isP hc1 hk1 (xd_mono hd hs) ?_
  repeat walk_at "nw"
  rename_i t1 H1 g1 e1 k1 s1
  refine isP hc2 hk2 (xd_mono hd s1) ?_
  repeat walk_at "nw"
  rename_i t2 H2 g2 e2 k2 s2 l H3 g3 e3 k3 s3
  have k13 : Same H1 H3 := k2.trans k3
  refine add_ll (k13 _ _ (k1 _ _ hr)) e3 (by simp; omega) fun q hq => ?_
  have z : Same H3 (upd H3 q (.lst (vs ++ [V.ref t1, V.ref t2]))) := same_new hq
  refine h q _ _ (s3.trans z) upd_same ?_ (by simp)
  exact (ha.mono ((k1.trans k13).trans z)).append (.cons (z _ _ (k13 _ _ e1)) (.cons (z _ _ (k3 _ _ e2)) .nil))
theorem row0 (hc1 : ClsV c1 v1) (hk1 : PySem.W.kitOne K (.ref E) v1 = some b1) (hc2 : ClsV c2 v2) (hk2 : PySem.W.kitOne K (.ref E) v2 = some b2) (hd : ∀ dd, d = some dd → ∃ fs, H0 dd = some (.xd fs)) (hs : Same H0 H)
    (h : ∀ (r' : Addr) (H' : Hp) (vs' : List V), Same H0 H' → H' r' = some (.lst vs') → RowsAt H' vs' [(n1, b1), (n2, b2)] → vs'.length = 2 → D.nx [some (.ref a), some (.ref r'), o] H') :
    tAsg (tLst (tCons (tTup (tCons (tC (.str n1)) (tCons (tCB (rIsP K E a d) (tCons (tVar 0) (tCons (tC c1) tNil))) tNil))) (tCons (tTup (tCons (tC (.str n2)) (tCons (tCB (rIsP K E a d) (tCons (tVar 0) (tCons (tC c2) tNil))) tNil))) tNil))) (gName 1) D [some (.ref a), none, o] H := by
  repeat walk_at "nw"
  refine isP hc1 hk1 (xd_mono hd hs) ?_
  repeat walk_at "nw"
  rename_i t1 H1 g1 e1 k1 s1
  refine isP hc2 hk2 (xd_mono hd s1) ?_
  repeat walk_at "nw"
  rename_i t2 H2 g2 e2 k2 s2 l H3 g3 e3 k3 s3
  exact h l _ _ s3 e3 (.cons (k3 _ _ (k2 _ _ e1)) (.cons (k3 _ _ e2) .nil)) rfl
theorem row1 (hc1 : ClsV c1 v1) (hk1 : PySem.W.kitOne K (.ref E) v1 = some b1) (hd : ∀ dd, d = some dd → ∃ fs, H0 dd = some (.xd fs)) (hs : Same H0 H) (hr : H r = some (.lst vs)) (ha : RowsAt H vs rs) (hl : vs.length ≤ 100)
    (h : ∀ (r' : Addr) (H' : Hp) (vs' : List V), Same H0 H' → H' r' = some (.lst vs') → RowsAt H' vs' (rs ++ [(n1, b1)]) → D.nx [some (.ref a), some (.ref r'), o] H') :
    tAsg (tOp aAdd (tVar 1) (tLst (tCons (tTup (tCons (tC (.str n1)) (tCons (tCB (rIsP K E a d) (tCons (tVar 0) (tCons (tC c1) tNil))) tNil))) tNil))) (gName 1) D [some (.ref a), some (.ref r), o] H := by
  repeat walk_at "nw"
  refine isP hc1 hk1 (xd_mono hd hs) ?_
  repeat walk_at "nw"
  rename_i t1 H1 g1 e1 k1 s1 l H3 g3 e3 k3 s3
  refine add_ll (k3 _ _ (k1 _ _ hr)) e3 (by simp; omega) fun q hq => ?_
  have z : Same H3 (upd H3 q (.lst (vs ++ [V.ref t1]))) := same_new hq
  refine h q _ _ (s3.trans z) upd_same ?_
  exact (ha.mono ((k1.trans k3).trans z)).append (.cons (z _ _ (k3 _ _ e1)) .nil)
end
end NW
namespace NW
open PySem PySem.Spec PyProof.Rows L2
open C8 (tCut pss_cut)
def kindPairs : List (Str × Str) := [("Refusal", "BadName"), ("BadWeight", "BadNumber"), ("BadCount", "Twice"), ("Unknown", "NoHolder"), ("Loop", "Short"), ("BadText", "OtherYard"), ("Same", "Inside"), ("Unlike", "Nailed"), ("Sealed", "Idle"), ("Broken", "NotComing"), ("Unbalanced", "TooMany"), ("BadWish", "Clash"), ("OtherDoors", "NoStory"), ("BadOrder", "OrderRefused"), ("OutOfSteps", "NotEmpty"), ("NoChange", "NothingDone")]
def kr (b : Str → Bool) : List (Str × Str) → List (Str × Bool)
  | [] => []
  | (n, m) :: ps => (n, b n) :: (m, b m) :: kr b ps
def kindsAll (b : Str → Bool) : List (Str × Bool) := (([((("ValueError" : Str)), b "ValueError"), (("NestError" : Str), b "NestError")] : List (Str × Bool)) ++ kr b kindPairs) ++ [(("BadClaim" : Str), b "BadClaim")]
def tRow2 (K : PySem.W.Frag) (E a : Addr) (d : Option Addr) (n1 n2 : Str) : TS :=
  tAsg (tOp aAdd (tVar 1) (tLst (tCons (tTup (tCons (tC (.str n1)) (tCons (tCB (rIsP K E a d) (tCons (tVar 0) (tCons (tC (.ref (He.ga K n1))) tNil))) tNil))) (tCons (tTup (tCons (tC (.str n2)) (tCons (tCB (rIsP K E a d) (tCons (tVar 0) (tCons (tC (.ref (He.ga K n2))) tNil))) tNil))) tNil)))) (gName 1)
def tRows (K : PySem.W.Frag) (E a : Addr) (d : Option Addr) : List (Str × Str) → TS → TS
  | [], t => t
  | (n, m) :: ps, t => tSeq (tRow2 K E a d n m) (tRows K E a d ps t)
theorem t_kinds_eq (K : PySem.W.Frag) (E a : Addr) (d : Option Addr) : t_kinds K E a d =
    tSeq (tAsg (tLst (tCons (tTup (tCons (tC (.str "ValueError")) (tCons (tCB (rIsP K E a d) (tCons (tVar 0) (tCons (tC (.ty "ValueError")) tNil))) tNil))) (tCons (tTup (tCons (tC (.str "NestError")) (tCons (tCB (rIsP K E a d) (tCons (tVar 0) (tCons (tC (.ref (He.ga K "NestError"))) tNil))) tNil))) tNil))) (gName 1))
    (tRows K E a d kindPairs (tSeq (tAsg (tOp aAdd (tVar 1) (tLst (tCons (tTup (tCons (tC (.str "BadClaim")) (tCons (tCB (rIsP K E a d) (tCons (tVar 0) (tCons (tC (.ref (He.ga K "BadClaim"))) tNil))) tNil))) tNil))) (gName 1)) (tRet (tSel (tVar 1))))) := rfl
theorem p_rows (K : PySem.W.Frag) (E a : Addr) (d : Option Addr) (b : Str → Bool) (H0 : Hp) (o : Option V) (t : TS) (D : Ends) (hd : ∀ dd, d = some dd → ∃ fs, H0 dd = some (.xd fs)) :
    ∀ (ps : List (Str × Str)) (r : Addr) (H : Hp) (vs : List V) (rs : List (Str × Bool)), (∀ q ∈ ps, PySem.W.kitOne K (.ref E) (.ref (He.ga K q.1)) = some (b q.1) ∧ PySem.W.kitOne K (.ref E) (.ref (He.ga K q.2)) = some (b q.2)) →
      Same H0 H → H r = some (.lst vs) → RowsAt H vs rs → vs.length + 2 * ps.length ≤ 100 →
      (∀ (r' : Addr) (H' : Hp) (vs' : List V), Same H0 H' → H' r' = some (.lst vs') → RowsAt H' vs' (rs ++ kr b ps) → vs'.length ≤ 100 → t D [some (.ref a), some (.ref r'), o] H') →
      tRows K E a d ps t D [some (.ref a), some (.ref r), o] H := by
  intro ps
  induction ps with
  | nil =>
    intro r H vs rs M hs hr ha hl h
    exact h r H vs hs hr (by rw [show kr b [] = [] from rfl, List.append_nil]; exact ha) (by simp at hl; omega)
  | cons q ps ih =>
    intro r H vs rs M hs hr ha hl h
    obtain ⟨n, m⟩ := q
    have m1 := (M (n, m) (by simp)).1
    have m2 := (M (n, m) (by simp)).2
    show tSeq (tRow2 K E a d n m) (tRows K E a d ps t) D _ H
    refine s_seq ?_
    rw [List.length_cons] at hl
    refine row2 (.own _) m1 (.own _) m2 hd hs hr ha (by omega) fun r' H' vs' s' e' a' l' => ?_
    refine ih r' H' vs' _ (fun q hq => M q (List.mem_cons_of_mem _ hq)) s' e' a' (by omega) fun r2 H2 vs2 s2 e2 a2 l2 => ?_
    refine h r2 H2 vs2 s2 e2 ?_ l2
    rw [List.append_assoc] at a2
    exact a2
def sp_kind (E a : Addr) (d : Option Addr) (b : Str → Bool) : Sp := fun vs H Q _ => vs = [.ref a] ∧ (∀ dd, d = some dd → ∃ fs, H dd = some (.xd fs)) ∧ ∀ (l : Addr) (H' : Hp), Same H H' → H' l = some (.lst (sel (kindsAll b))) → Q (.ref l) H'
theorem l_kind (E a : Addr) (d : Option Addr) (b : Str → Bool) : ∀ vs H Q X, sp_kind E a d b vs H Q X → vs.length = 1 := fun _ _ _ _ h => by rw [h.1]; rfl
theorem pairs_in : ∀ q ∈ kindPairs, q.1 ∈ errN1 ++ errN2 ∧ q.2 ∈ errN1 ++ errN2 := by decide +kernel
theorem p_kind (K : PySem.W.Frag) (E a : Addr) (d : Option Addr) (b : Str → Bool) (F : KitF K E b) (vs : List V) (H : Hp) (Q : VK) (X : XK) (h : sp_kind E a d b vs H Q X) : t_kinds K E a d { nx := fun _ H' => Q .non H', rt := Q } (start ["error", "rows", "row"] vs) H := by
  obtain ⟨ev, hd, q⟩ := h
  subst ev
  show t_kinds K E a d _ [some (.ref a), none, none] H
  rw [t_kinds_eq]
  have M : ∀ n, n ∈ errN1 ++ errN2 → PySem.W.kitOne K (.ref E) (.ref (He.ga K n)) = some (b n) := F.c
  refine s_seq ?_
  refine row0 (.ty _) F.v (.own _) (M "NestError" (by decide +kernel)) hd (Same.refl H) fun r H1 w1 s1 e1 a1 n1 => ?_
  refine p_rows K E a d b H _ _ _ hd kindPairs r H1 w1 _ (fun q hq => ⟨M _ (pairs_in q hq).1, M _ (pairs_in q hq).2⟩) s1 e1 a1 (by rw [n1]; decide) fun r2 H2 w2 s2 e2 a2 l2 => ?_
  refine s_seq ?_
  refine row1 (.own _) (M "BadClaim" (by decide +kernel)) hd s2 e2 a2 l2 fun r3 H3 w3 s3 e3 a3 => ?_
  exact ⟨_, rfl, r3, w3, kindsAll b, rfl, e3, a3, fun D hD => q D _ (s3.trans (same_new hD)) upd_same⟩
end NW
namespace NW
open PySem PySem.Spec PyProof.Rows L2
open C8 (tCut pss_cut)
section
variable {P : Program} {w : World} {K : PySem.W.Frag} {mg : Str → Option Value} {base : Heap} {x : Str} {params : Arguments} {body : List Stmt} {scope : Scope} {f : Addr} {ps : List Str} {sp : Sp} {p : Addr × Obj}
theorem has0 (g : mg x = some (.ref f)) (F : ∃ fd, FunD K x x params body scope [] [] f fd)
    (bn : ∀ (kV doc pm : Value) (an : Option Addr) (cdv ct : Value) (us : List Value), us.length = ps.length → bindArgs (PySem.W.fnOf x x params body scope .none kV doc pm an cdv ct) ⟨us, []⟩ = pure (ps.zip us))
    (h : ∀ vs H Q E, sp vs H Q E → False) : Has P w K mg base x 0 ps sp := by
  obtain ⟨fd, F⟩ := F
  exact ⟨f, fd, g, F.kp, F.bindsN bn, ⟨fun vs H Q E z => (h vs H Q E z).elim, fun _ _ _ _ _ _ _ _ _ _ _ _ _ z => (h _ _ _ _ z).elim⟩⟩
theorem hasH0 (g : mg x = some (.ref f)) (F : ∃ fd, FunD K x x params body scope [] [] f fd)
    (bn : ∀ (kV doc pm : Value) (an : Option Addr) (cdv ct : Value) (us : List Value), us.length = ps.length → bindArgs (PySem.W.fnOf x x params body scope .none kV doc pm an cdv ct) ⟨us, []⟩ = pure (ps.zip us))
    (h : ∀ vs H Q E, sp vs H Q E → False) : HasH P w K mg base p x 0 ps sp := by
  obtain ⟨fd, F⟩ := F
  exact ⟨f, fd, g, F.kp, F.bindsN bn, ⟨fun vs H Q E z => (h vs H Q E z).elim, fun _ _ _ _ _ _ _ _ _ _ _ _ _ _ z => (h _ _ _ _ z).elim⟩⟩
end
end NW
namespace NW
/-- the falling product -/
def fp (n : Nat) : Nat → Nat
  | 0 => 1
  | k + 1 => fp n k * (n - k)
end NW
namespace NW
open PySem PySem.Spec PyProof.Rows L2
open C8 (tCut pss_cut)
section
variable {K : PySem.W.Frag} {H H0 : Hp} {Q : VK} {σ : L2.St} {p l : Addr} {xs : List V} {y : V} {te : TE} {ta : TA} {r : V → List V → Hp → VK → Prop} {i : Int} {j : Nat} {lo hi : Option Int}
theorem v_bm {T : String} (h : te σ H fun x H1 => tyV K T x H1 ∧ ta σ H1 fun ys H2 => r x ys H2 Q) : tBM K T r te ta σ H Q := h
theorem ty_l {A : Prop} (hp : H p = some (.lst xs)) (h : A) : tyV K "list" (.ref p) H ∧ A := ⟨.inl ⟨rfl, xs, SqL.of hp⟩, h⟩
theorem v_sl {r : V → Option Int → Option Int → Hp → VK → Prop} {tl th : TO} (h : te σ H fun x H1 => tl σ H1 fun l H2 => th σ H2 fun u H3 => r x l u H3 Q) : tSl r te tl th σ H Q := h
def LcI (J : It) (g : TG) (tt : TT) (te : TE) (vs : List Nat) (σ : L2.St) (D : Addr) (Q : VK) (H : Hp) : Prop := ∃ W : Nat → Nat → Hp → Prop, (∃ m, W 0 m (upd H D (.lst []))) ∧ ∀ i m H, W i m H →
  (J.stop i H ∧ Q (.ref D) H) ∨ (J.go i H ∧ ∃ Nx : Hp → Prop, (∀ H', Nx H' → ∃ m', m' < m ∧ W (i + 1) m' H') ∧ ∀ x H', J.yld i H x H' → g x (wipe σ vs) H' fun σ2 H2 => wipe σ2 vs = wipe σ vs ∧ tt σ2 H2 fun b H3 =>
    if b = true then te σ2 H3 fun y H4 => ∃ acc, H4 D = some (.lst acc) ∧ acc.length < sizeLine ∧ Nx (upd H4 D (.lst (acc ++ [y]))) else Nx H3)
variable {g : TG} {tt : TT} {vs : List Nat}
theorem s_lc1 (h : ta σ H fun xs H1 => ∃ j : Int, xs = [.int j] ∧ -(2 ^ 62) ≤ j ∧ j < 2 ^ 62 ∧ ∀ D, H1 D = none → LcI (Itr 0 j.toNat) g tt te vs σ D Q H1) : tLc (iRng1 ta) g tt te vs σ H Q := h
theorem s_lcL {tl : TE} (h : tl σ H fun x H1 => ∃ a, x = .ref a ∧ (∃ xs, SqL K H1 a xs) ∧ ∀ D, H1 D = none → LcI (Itl K a) g tt te vs σ D Q H1) : tLc (iList K tl) g tt te vs σ H Q := h
theorem lc_kept {σ' : L2.St} {A : Prop} (h : A) (e : wipe σ' vs = wipe σ vs := by rfl) : wipe σ' vs = wipe σ vs ∧ A := ⟨e, h⟩
theorem c_yes {B : Bool → Hp → Prop} (h : B true H) : tYes σ H B := h
theorem v_nopart {R : Option Int → Hp → Prop} (h : R none H) : tNoPart σ H R := h
theorem v_part {R : Option Int → Hp → Prop} (h : te σ H fun x H1 => ∃ i, x = .int i ∧ R (some i) H1) : tPart te σ H R := h
theorem part_i {R : Int → Prop} (h : R i) : ∃ j, V.int i = .int j ∧ R j := ⟨i, rfl, h⟩
end
end NW
namespace NW
open PySem PySem.Spec PyProof.Rows L2
open C8 (tCut pss_cut)
local macro_rules | `(tactic| walk_at "nw") => `(tactic| first
  | with_reducible refine s_seq ?_
  | with_reducible refine s_asg ?_
  | with_reducible refine s_if ?_
  | with_reducible refine s_ret ?_
  | with_reducible refine s_drop ?_
  | with_reducible refine v_var0 ?_
  | with_reducible refine s_name0 ?_
  | with_reducible refine v_aug0 ?_
  | with_reducible refine v_var1 ?_
  | with_reducible refine s_name1 ?_
  | with_reducible refine v_aug1 ?_
  | with_reducible refine v_var2 ?_
  | with_reducible refine s_name2 ?_
  | with_reducible refine v_aug2 ?_
  | with_reducible refine v_var3 ?_
  | with_reducible refine s_name3 ?_
  | with_reducible refine v_aug3 ?_
  | with_reducible refine v_var4 ?_
  | with_reducible refine s_name4 ?_
  | with_reducible refine v_aug4 ?_
  | with_reducible refine v_var5 ?_
  | with_reducible refine s_name5 ?_
  | with_reducible refine v_aug5 ?_
  | with_reducible refine v_var6 ?_
  | with_reducible refine s_name6 ?_
  | with_reducible refine v_aug6 ?_
  | with_reducible refine v_var7 ?_
  | with_reducible refine s_name7 ?_
  | with_reducible refine v_aug7 ?_
  | with_reducible refine v_var8 ?_
  | with_reducible refine s_name8 ?_
  | with_reducible refine v_aug8 ?_
  | with_reducible refine v_var9 ?_
  | with_reducible refine s_name9 ?_
  | with_reducible refine v_aug9 ?_
  | with_reducible refine v_var10 ?_
  | with_reducible refine s_name10 ?_
  | with_reducible refine v_aug10 ?_
  | with_reducible refine v_var11 ?_
  | with_reducible refine s_name11 ?_
  | with_reducible refine v_aug11 ?_
  | with_reducible refine v_var12 ?_
  | with_reducible refine s_name12 ?_
  | with_reducible refine v_aug12 ?_
  | with_reducible refine v_var13 ?_
  | with_reducible refine s_name13 ?_
  | with_reducible refine v_aug13 ?_
  | with_reducible refine v_var14 ?_
  | with_reducible refine s_name14 ?_
  | with_reducible refine v_aug14 ?_
  | with_reducible refine v_var15 ?_
  | with_reducible refine s_name15 ?_
  | with_reducible refine v_aug15 ?_
  | with_reducible refine v_c ?_
  | with_reducible refine v_op ?_
  | with_reducible refine v_cons ?_
  | with_reducible refine v_nil ?_
  | with_reducible refine v_cb ?_
  | with_reducible refine v_call ?_
  | with_reducible refine c_test ?_
  | with_reducible refine c_bl ?_
  | with_reducible refine c_and ?_
  | with_reducible refine c_or ?_
  | with_reducible refine c_not ?_
  | with_reducible refine v_augS ?_
  | with_reducible refine v_sub ?_
  | with_reducible refine add_ii ?_
  | with_reducible refine sub_ii ?_
  | with_reducible refine iadd_ii ?_
  | with_reducible refine lt_ii ?_
  | with_reducible refine le_ii ?_
  | with_reducible refine gt_ii ?_
  | with_reducible refine ge_ii ?_
  | with_reducible refine eq_ii ?_
  | with_reducible refine ne_ii ?_
  | with_reducible refine int_i ?_
  | with_reducible refine abs_i ?_
  | with_reducible refine max_i ?_
  | with_reducible refine min_i ?_
  | with_reducible refine mul_r (by omega) (by omega) ?_
  | with_reducible refine mul_l (by omega) (by omega) ?_
  | with_reducible refine ix_m0 (by assumption) ?_
  | with_reducible refine get_m0 (by assumption) ?_
  | with_reducible refine ix_m1 (by assumption) ?_
  | with_reducible refine get_m1 (by assumption) ?_
  | with_reducible refine ix_m2 (by assumption) ?_
  | with_reducible refine get_m2 (by assumption) ?_
  | with_reducible refine ix_m3 (by assumption) ?_
  | with_reducible refine get_m3 (by assumption) ?_
  | with_reducible refine ix_m4 (by assumption) ?_
  | with_reducible refine get_m4 (by assumption) ?_
  | with_reducible refine ix_m5 (by assumption) ?_
  | with_reducible refine get_m5 (by assumption) ?_
  | (with_reducible refine st_set1 (by assumption) (by assumption) ?_; intro H1 hs1 kp1)
  | (with_reducible refine st_set2 (by assumption) (by assumption) ?_; intro H1 hs1 kp1)
  | (with_reducible refine st_set3 (by assumption) (by assumption) ?_; intro H1 hs1 kp1)
  | (with_reducible refine st_set4 (by assumption) (by assumption) ?_; intro H1 hs1 kp1)
  | (with_reducible refine st_set5 (by assumption) (by assumption) ?_; intro H1 hs1 kp1)
  | with_reducible refine len_m (by assumption) ?_
  | with_reducible refine s_for1 ?_
  | with_reducible refine s_forL ?_
  | with_reducible refine rng1 (by omega) (by omega) ?_
  | with_reducible refine s_next ?_
  | with_reducible refine s_break ?_
  | with_reducible refine s_cont ?_
  | with_reducible refine isi_non_bool ?_
  | with_reducible refine isi_non_int ?_
  | with_reducible refine isi_non_str ?_
  | with_reducible refine isi_non_list ?_
  | with_reducible refine isi_non_tuple ?_
  | with_reducible refine isi_non_dict ?_
  | with_reducible refine isi_non_seq (by assumption) ?_
  | with_reducible refine isi_bl_bool ?_
  | with_reducible refine isi_bl_int ?_
  | with_reducible refine isi_bl_str ?_
  | with_reducible refine isi_bl_list ?_
  | with_reducible refine isi_bl_tuple ?_
  | with_reducible refine isi_bl_dict ?_
  | with_reducible refine isi_bl_seq (by assumption) ?_
  | with_reducible refine isi_int_bool ?_
  | with_reducible refine isi_int_int ?_
  | with_reducible refine isi_int_str ?_
  | with_reducible refine isi_int_list ?_
  | with_reducible refine isi_int_tuple ?_
  | with_reducible refine isi_int_dict ?_
  | with_reducible refine isi_int_seq (by assumption) ?_
  | with_reducible refine isi_str_bool ?_
  | with_reducible refine isi_str_int ?_
  | with_reducible refine isi_str_str ?_
  | with_reducible refine isi_str_list ?_
  | with_reducible refine isi_str_tuple ?_
  | with_reducible refine isi_str_dict ?_
  | with_reducible refine isi_str_seq (by assumption) ?_
  | with_reducible refine isi_lst_bool (by assumption) (by assumption) ?_
  | with_reducible refine isi_lst_int (by assumption) (by assumption) ?_
  | with_reducible refine isi_lst_str (by assumption) (by assumption) ?_
  | with_reducible refine isi_lst_list (by assumption) (by assumption) ?_
  | with_reducible refine isi_lst_tuple (by assumption) (by assumption) ?_
  | with_reducible refine isi_lst_dict (by assumption) (by assumption) ?_
  | with_reducible refine isi_lst_seq (by assumption) (by assumption) (by assumption) ?_
  | with_reducible refine isi_tup_bool (by assumption) (by assumption) ?_
  | with_reducible refine isi_tup_int (by assumption) (by assumption) ?_
  | with_reducible refine isi_tup_str (by assumption) (by assumption) ?_
  | with_reducible refine isi_tup_list (by assumption) (by assumption) ?_
  | with_reducible refine isi_tup_tuple (by assumption) (by assumption) ?_
  | with_reducible refine isi_tup_dict (by assumption) (by assumption) ?_
  | with_reducible refine isi_tup_seq (by assumption) (by assumption) (by assumption) ?_
  | with_reducible refine isi_dK_bool (by assumption) (by assumption) ?_
  | with_reducible refine isi_dK_int (by assumption) (by assumption) ?_
  | with_reducible refine isi_dK_str (by assumption) (by assumption) ?_
  | with_reducible refine isi_dK_list (by assumption) (by assumption) ?_
  | with_reducible refine isi_dK_tuple (by assumption) (by assumption) ?_
  | with_reducible refine isi_dK_dict (by assumption) (by assumption) ?_
  | with_reducible refine isi_dK_seq (by assumption) (by assumption) (by assumption) ?_
  | with_reducible refine eq_bb ?_
  | with_reducible refine eq_ss ?_
  | with_reducible refine ev_isN ?_
  | with_reducible refine ev_tB ?_
  | with_reducible refine ev_and ?_
  | with_reducible refine ev_or ?_
  | with_reducible refine ev_not ?_
  | with_reducible refine c_tru ?_
  | with_reducible refine tru_bl ?_
  | with_reducible refine if_nt ?_
  | with_reducible refine if_nf ?_
  | with_reducible refine tup_new ?_
  | with_reducible refine lst_new ?_
  | with_reducible refine len_ms (by assumption) (by assumption) ?_
  | with_reducible refine len_ts (by assumption) (by assumption) ?_
  | ((with_reducible refine lit_len ?_ ?_); (focus (first | decide | (simp; done) | (simp; omega))))
  | (with_reducible refine new_st (by assumption) (by assumption) ?_; intro q1 H1 hq1 he1 hn1 kp1 hS1 sm1)
  | (with_reducible refine new_same (by assumption) ?_; intro q1 H1 hq1 he1 sm1 hs1)
  | with_reducible refine if_dT rfl ?_
  | ((with_reducible refine if_dF ?_ ?_); focus (intro z; cases z; done))
  | with_reducible refine if_t ?_
  | with_reducible refine if_f ?_
  | ((with_reducible refine c_take (by assumption) (by assumption) ?_ ?_); (focus omega); intro r1 H1 hS1 kp1 h01 h11)
  | with_reducible refine ev_chain ?_
  | ((with_reducible refine c_number (by assumption) (by assumption) ?_ ?_); (focus omega); intro r1 H1 hS1 kp1 h01 h11)
  | ((with_reducible refine c_pick (by assumption) (by assumption) (by assumption) (by assumption) ?_ ?_); (focus (simp; done)); intro r1 H1 hS1 kp1 kk1 h01))
local macro_rules | `(tactic| walk_at "go") => `(tactic| repeat' (first | walk_at "nw" | ((with_reducible refine if_d ?_ ?_) <;> intro c1) | ((with_reducible refine if_nd ?_ ?_) <;> intro c1)))
end NW
namespace NW
open PySem PySem.Spec PyProof.Rows L2
open C8 (tCut pss_cut)
local macro_rules | `(tactic| walk_at "nw") => `(tactic| first
  | with_reducible refine s_seq ?_
  | with_reducible refine s_asg ?_
  | with_reducible refine s_if ?_
  | with_reducible refine s_ret ?_
  | with_reducible refine s_drop ?_
  | with_reducible refine v_var0 ?_
  | with_reducible refine s_name0 ?_
  | with_reducible refine v_aug0 ?_
  | with_reducible refine v_var1 ?_
  | with_reducible refine s_name1 ?_
  | with_reducible refine v_aug1 ?_
  | with_reducible refine v_var2 ?_
  | with_reducible refine s_name2 ?_
  | with_reducible refine v_aug2 ?_
  | with_reducible refine v_var3 ?_
  | with_reducible refine s_name3 ?_
  | with_reducible refine v_aug3 ?_
  | with_reducible refine v_var4 ?_
  | with_reducible refine s_name4 ?_
  | with_reducible refine v_aug4 ?_
  | with_reducible refine v_var5 ?_
  | with_reducible refine s_name5 ?_
  | with_reducible refine v_aug5 ?_
  | with_reducible refine v_var6 ?_
  | with_reducible refine s_name6 ?_
  | with_reducible refine v_aug6 ?_
  | with_reducible refine v_var7 ?_
  | with_reducible refine s_name7 ?_
  | with_reducible refine v_aug7 ?_
  | with_reducible refine v_var8 ?_
  | with_reducible refine s_name8 ?_
  | with_reducible refine v_aug8 ?_
  | with_reducible refine v_var9 ?_
  | with_reducible refine s_name9 ?_
  | with_reducible refine v_aug9 ?_
  | with_reducible refine v_var10 ?_
  | with_reducible refine s_name10 ?_
  | with_reducible refine v_aug10 ?_
  | with_reducible refine v_var11 ?_
  | with_reducible refine s_name11 ?_
  | with_reducible refine v_aug11 ?_
  | with_reducible refine v_var12 ?_
  | with_reducible refine s_name12 ?_
  | with_reducible refine v_aug12 ?_
  | with_reducible refine v_var13 ?_
  | with_reducible refine s_name13 ?_
  | with_reducible refine v_aug13 ?_
  | with_reducible refine v_var14 ?_
  | with_reducible refine s_name14 ?_
  | with_reducible refine v_aug14 ?_
  | with_reducible refine v_var15 ?_
  | with_reducible refine s_name15 ?_
  | with_reducible refine v_aug15 ?_
  | with_reducible refine v_c ?_
  | with_reducible refine v_op ?_
  | with_reducible refine v_cons ?_
  | with_reducible refine v_nil ?_
  | with_reducible refine v_cb ?_
  | with_reducible refine v_call ?_
  | with_reducible refine c_test ?_
  | with_reducible refine c_bl ?_
  | with_reducible refine c_and ?_
  | with_reducible refine c_or ?_
  | with_reducible refine c_not ?_
  | with_reducible refine v_augS ?_
  | with_reducible refine v_sub ?_
  | with_reducible refine add_ii ?_
  | with_reducible refine sub_ii ?_
  | with_reducible refine iadd_ii ?_
  | with_reducible refine lt_ii ?_
  | with_reducible refine le_ii ?_
  | with_reducible refine gt_ii ?_
  | with_reducible refine ge_ii ?_
  | with_reducible refine eq_ii ?_
  | with_reducible refine ne_ii ?_
  | with_reducible refine int_i ?_
  | with_reducible refine abs_i ?_
  | with_reducible refine max_i ?_
  | with_reducible refine min_i ?_
  | with_reducible refine mul_r (by omega) (by omega) ?_
  | with_reducible refine mul_l (by omega) (by omega) ?_
  | with_reducible refine ix_m0 (by assumption) ?_
  | with_reducible refine get_m0 (by assumption) ?_
  | with_reducible refine ix_m1 (by assumption) ?_
  | with_reducible refine get_m1 (by assumption) ?_
  | with_reducible refine ix_m2 (by assumption) ?_
  | with_reducible refine get_m2 (by assumption) ?_
  | with_reducible refine ix_m3 (by assumption) ?_
  | with_reducible refine get_m3 (by assumption) ?_
  | with_reducible refine ix_m4 (by assumption) ?_
  | with_reducible refine get_m4 (by assumption) ?_
  | with_reducible refine ix_m5 (by assumption) ?_
  | with_reducible refine get_m5 (by assumption) ?_
  | (with_reducible refine st_set1 (by assumption) (by assumption) ?_; intro H1 hs1 kp1)
  | (with_reducible refine st_set2 (by assumption) (by assumption) ?_; intro H1 hs1 kp1)
  | (with_reducible refine st_set3 (by assumption) (by assumption) ?_; intro H1 hs1 kp1)
  | (with_reducible refine st_set4 (by assumption) (by assumption) ?_; intro H1 hs1 kp1)
  | (with_reducible refine st_set5 (by assumption) (by assumption) ?_; intro H1 hs1 kp1)
  | with_reducible refine len_m (by assumption) ?_
  | with_reducible refine s_for1 ?_
  | with_reducible refine s_forL ?_
  | with_reducible refine rng1 (by omega) (by omega) ?_
  | with_reducible refine s_next ?_
  | with_reducible refine s_break ?_
  | with_reducible refine s_cont ?_
  | with_reducible refine isi_non_bool ?_
  | with_reducible refine isi_non_int ?_
  | with_reducible refine isi_non_str ?_
  | with_reducible refine isi_non_list ?_
  | with_reducible refine isi_non_tuple ?_
  | with_reducible refine isi_non_dict ?_
  | with_reducible refine isi_non_seq (by assumption) ?_
  | with_reducible refine isi_bl_bool ?_
  | with_reducible refine isi_bl_int ?_
  | with_reducible refine isi_bl_str ?_
  | with_reducible refine isi_bl_list ?_
  | with_reducible refine isi_bl_tuple ?_
  | with_reducible refine isi_bl_dict ?_
  | with_reducible refine isi_bl_seq (by assumption) ?_
  | with_reducible refine isi_int_bool ?_
  | with_reducible refine isi_int_int ?_
  | with_reducible refine isi_int_str ?_
  | with_reducible refine isi_int_list ?_
  | with_reducible refine isi_int_tuple ?_
  | with_reducible refine isi_int_dict ?_
  | with_reducible refine isi_int_seq (by assumption) ?_
  | with_reducible refine isi_str_bool ?_
  | with_reducible refine isi_str_int ?_
  | with_reducible refine isi_str_str ?_
  | with_reducible refine isi_str_list ?_
  | with_reducible refine isi_str_tuple ?_
  | with_reducible refine isi_str_dict ?_
  | with_reducible refine isi_str_seq (by assumption) ?_
  | with_reducible refine isi_lst_bool (by assumption) (by assumption) ?_
  | with_reducible refine isi_lst_int (by assumption) (by assumption) ?_
  | with_reducible refine isi_lst_str (by assumption) (by assumption) ?_
  | with_reducible refine isi_lst_list (by assumption) (by assumption) ?_
  | with_reducible refine isi_lst_tuple (by assumption) (by assumption) ?_
  | with_reducible refine isi_lst_dict (by assumption) (by assumption) ?_
  | with_reducible refine isi_lst_seq (by assumption) (by assumption) (by assumption) ?_
  | with_reducible refine isi_tup_bool (by assumption) (by assumption) ?_
  | with_reducible refine isi_tup_int (by assumption) (by assumption) ?_
  | with_reducible refine isi_tup_str (by assumption) (by assumption) ?_
  | with_reducible refine isi_tup_list (by assumption) (by assumption) ?_
  | with_reducible refine isi_tup_tuple (by assumption) (by assumption) ?_
  | with_reducible refine isi_tup_dict (by assumption) (by assumption) ?_
  | with_reducible refine isi_tup_seq (by assumption) (by assumption) (by assumption) ?_
  | with_reducible refine isi_dK_bool (by assumption) (by assumption) ?_
  | with_reducible refine isi_dK_int (by assumption) (by assumption) ?_
  | with_reducible refine isi_dK_str (by assumption) (by assumption) ?_
  | with_reducible refine isi_dK_list (by assumption) (by assumption) ?_
  | with_reducible refine isi_dK_tuple (by assumption) (by assumption) ?_
  | with_reducible refine isi_dK_dict (by assumption) (by assumption) ?_
  | with_reducible refine isi_dK_seq (by assumption) (by assumption) (by assumption) ?_
  | with_reducible refine eq_bb ?_
  | with_reducible refine eq_ss ?_
  | with_reducible refine ev_isN ?_
  | with_reducible refine ev_tB ?_
  | with_reducible refine ev_and ?_
  | with_reducible refine ev_or ?_
  | with_reducible refine ev_not ?_
  | with_reducible refine c_tru ?_
  | with_reducible refine tru_bl ?_
  | with_reducible refine if_nt ?_
  | with_reducible refine if_nf ?_
  | with_reducible refine tup_new ?_
  | with_reducible refine lst_new ?_
  | with_reducible refine len_ms (by assumption) (by assumption) ?_
  | with_reducible refine len_ts (by assumption) (by assumption) ?_
  | ((with_reducible refine lit_len ?_ ?_); (focus (first | decide | (simp; done) | (simp; omega))))
  | (with_reducible refine new_st (by assumption) (by assumption) ?_; intro q1 H1 hq1 he1 hn1 kp1 hS1 sm1)
  | (with_reducible refine new_same (by assumption) ?_; intro q1 H1 hq1 he1 sm1 hs1)
  | with_reducible refine if_dT rfl ?_
  | ((with_reducible refine if_dF ?_ ?_); focus (intro z; cases z; done))
  | with_reducible refine if_t ?_
  | with_reducible refine if_f ?_
  | ((with_reducible refine c_take (by assumption) (by assumption) ?_ ?_); (focus omega); intro r1 H1 hS1 kp1 h01 h11)
  | with_reducible refine ev_chain ?_
  | ((with_reducible refine c_number (by assumption) (by assumption) ?_ ?_); (focus omega); intro r1 H1 hS1 kp1 h01 h11)
  | ((with_reducible refine c_pick (by assumption) (by assumption) (by assumption) (by assumption) ?_ ?_); (focus (simp; done)); intro r1 H1 hS1 kp1 kk1 h01)
  | with_reducible refine v_bm ?_
  | with_reducible refine v_sl ?_
  | with_reducible refine s_lc1 ?_
  | with_reducible refine s_lcL ?_
  | (with_reducible refine lc_kept ?_ rfl)
  | with_reducible refine c_yes ?_
  | with_reducible refine v_nopart ?_
  | with_reducible refine v_part ?_
  | with_reducible refine part_i ?_
  | with_reducible refine ty_l (by assumption) ?_)
local macro_rules | `(tactic| walk_at "go") => `(tactic| repeat' (first | walk_at "nw" | ((with_reducible refine if_d ?_ ?_) <;> intro c1) | ((with_reducible refine if_nd ?_ ?_) <;> intro c1)))
def sp_store (K : PySem.W.Frag) : Sp := fun vs H Q _ => ∃ (p : Addr) (ns : List Int), vs = [.ref p] ∧ SqL K H p (ns.map V.int) ∧ ∀ (st : Addr) (H' : Hp), Sto H' st → Same H H' → H st = none → Q (.ref st) H'
def t_store (K : PySem.W.Frag) : TS :=
  (tRet (tLst (tCons (tCB (aList K) (tCons (tVar 0) tNil)) (tCons (tC (.int 0)) (tCons (tC (.int 0)) (tCons (tC (.int 0)) (tCons (tC (.int 1)) (tCons (tC (.int 0)) tNil))))))))
theorem l_store (K : PySem.W.Frag) : ∀ vs H Q E, sp_store K vs H Q E → vs.length = 1 := fun _ _ _ _ ⟨_, _, e, _⟩ => by rw [e]; rfl
theorem p_store (K : PySem.W.Frag) (vs : List V) (H : Hp) (Q : VK) (E : XK) (h : sp_store K vs H Q E) : t_store K { nx := fun _ H' => Q .non H', rt := Q } (start ["script"] vs) H := by
  obtain ⟨p, ns, ev, hp, q⟩ := h
  subst ev
  show t_store K _ [some (.ref p)] H
  have hs := Same.refl H
  unfold t_store
  repeat walk_at "nw"
  refine list_l hp ?_
  repeat walk_at "nw"
  rename_i c H1 g1 e1 s1 s01 st H2 g2 e2 s2 s02
  refine q st H2 ⟨c, ns, 0, 0, 0, 1, 0, e2, s2 _ _ e1, by decide⟩ s02 ?_
  cases hst : H st with
  | none => rfl
  | some o => rw [s01 _ _ hst] at g2; cases g2
end NW
namespace NW
open PySem PySem.Spec PyProof.Rows L2
open C8 (tCut pss_cut)
local macro_rules | `(tactic| walk_at "nw") => `(tactic| first
  | with_reducible refine s_seq ?_
  | with_reducible refine s_asg ?_
  | with_reducible refine s_if ?_
  | with_reducible refine s_ret ?_
  | with_reducible refine s_drop ?_
  | with_reducible refine v_var0 ?_
  | with_reducible refine s_name0 ?_
  | with_reducible refine v_aug0 ?_
  | with_reducible refine v_var1 ?_
  | with_reducible refine s_name1 ?_
  | with_reducible refine v_aug1 ?_
  | with_reducible refine v_var2 ?_
  | with_reducible refine s_name2 ?_
  | with_reducible refine v_aug2 ?_
  | with_reducible refine v_var3 ?_
  | with_reducible refine s_name3 ?_
  | with_reducible refine v_aug3 ?_
  | with_reducible refine v_var4 ?_
  | with_reducible refine s_name4 ?_
  | with_reducible refine v_aug4 ?_
  | with_reducible refine v_var5 ?_
  | with_reducible refine s_name5 ?_
  | with_reducible refine v_aug5 ?_
  | with_reducible refine v_var6 ?_
  | with_reducible refine s_name6 ?_
  | with_reducible refine v_aug6 ?_
  | with_reducible refine v_var7 ?_
  | with_reducible refine s_name7 ?_
  | with_reducible refine v_aug7 ?_
  | with_reducible refine v_var8 ?_
  | with_reducible refine s_name8 ?_
  | with_reducible refine v_aug8 ?_
  | with_reducible refine v_var9 ?_
  | with_reducible refine s_name9 ?_
  | with_reducible refine v_aug9 ?_
  | with_reducible refine v_var10 ?_
  | with_reducible refine s_name10 ?_
  | with_reducible refine v_aug10 ?_
  | with_reducible refine v_var11 ?_
  | with_reducible refine s_name11 ?_
  | with_reducible refine v_aug11 ?_
  | with_reducible refine v_var12 ?_
  | with_reducible refine s_name12 ?_
  | with_reducible refine v_aug12 ?_
  | with_reducible refine v_var13 ?_
  | with_reducible refine s_name13 ?_
  | with_reducible refine v_aug13 ?_
  | with_reducible refine v_var14 ?_
  | with_reducible refine s_name14 ?_
  | with_reducible refine v_aug14 ?_
  | with_reducible refine v_var15 ?_
  | with_reducible refine s_name15 ?_
  | with_reducible refine v_aug15 ?_
  | with_reducible refine v_c ?_
  | with_reducible refine v_op ?_
  | with_reducible refine v_cons ?_
  | with_reducible refine v_nil ?_
  | with_reducible refine v_cb ?_
  | with_reducible refine v_call ?_
  | with_reducible refine c_test ?_
  | with_reducible refine c_bl ?_
  | with_reducible refine c_and ?_
  | with_reducible refine c_or ?_
  | with_reducible refine c_not ?_
  | with_reducible refine v_augS ?_
  | with_reducible refine v_sub ?_
  | with_reducible refine add_ii ?_
  | with_reducible refine sub_ii ?_
  | with_reducible refine iadd_ii ?_
  | with_reducible refine lt_ii ?_
  | with_reducible refine le_ii ?_
  | with_reducible refine gt_ii ?_
  | with_reducible refine ge_ii ?_
  | with_reducible refine eq_ii ?_
  | with_reducible refine ne_ii ?_
  | with_reducible refine int_i ?_
  | with_reducible refine abs_i ?_
  | with_reducible refine max_i ?_
  | with_reducible refine min_i ?_
  | with_reducible refine mul_r (by omega) (by omega) ?_
  | with_reducible refine mul_l (by omega) (by omega) ?_
  | with_reducible refine ix_m0 (by assumption) ?_
  | with_reducible refine get_m0 (by assumption) ?_
  | with_reducible refine ix_m1 (by assumption) ?_
  | with_reducible refine get_m1 (by assumption) ?_
  | with_reducible refine ix_m2 (by assumption) ?_
  | with_reducible refine get_m2 (by assumption) ?_
  | with_reducible refine ix_m3 (by assumption) ?_
  | with_reducible refine get_m3 (by assumption) ?_
  | with_reducible refine ix_m4 (by assumption) ?_
  | with_reducible refine get_m4 (by assumption) ?_
  | with_reducible refine ix_m5 (by assumption) ?_
  | with_reducible refine get_m5 (by assumption) ?_
  | (with_reducible refine st_set1 (by assumption) (by assumption) ?_; intro H1 hs1 kp1)
  | (with_reducible refine st_set2 (by assumption) (by assumption) ?_; intro H1 hs1 kp1)
  | (with_reducible refine st_set3 (by assumption) (by assumption) ?_; intro H1 hs1 kp1)
  | (with_reducible refine st_set4 (by assumption) (by assumption) ?_; intro H1 hs1 kp1)
  | (with_reducible refine st_set5 (by assumption) (by assumption) ?_; intro H1 hs1 kp1)
  | with_reducible refine len_m (by assumption) ?_
  | with_reducible refine s_for1 ?_
  | with_reducible refine s_forL ?_
  | with_reducible refine rng1 (by omega) (by omega) ?_
  | with_reducible refine s_next ?_
  | with_reducible refine s_break ?_
  | with_reducible refine s_cont ?_
  | with_reducible refine isi_non_bool ?_
  | with_reducible refine isi_non_int ?_
  | with_reducible refine isi_non_str ?_
  | with_reducible refine isi_non_list ?_
  | with_reducible refine isi_non_tuple ?_
  | with_reducible refine isi_non_dict ?_
  | with_reducible refine isi_non_seq (by assumption) ?_
  | with_reducible refine isi_bl_bool ?_
  | with_reducible refine isi_bl_int ?_
  | with_reducible refine isi_bl_str ?_
  | with_reducible refine isi_bl_list ?_
  | with_reducible refine isi_bl_tuple ?_
  | with_reducible refine isi_bl_dict ?_
  | with_reducible refine isi_bl_seq (by assumption) ?_
  | with_reducible refine isi_int_bool ?_
  | with_reducible refine isi_int_int ?_
  | with_reducible refine isi_int_str ?_
  | with_reducible refine isi_int_list ?_
  | with_reducible refine isi_int_tuple ?_
  | with_reducible refine isi_int_dict ?_
  | with_reducible refine isi_int_seq (by assumption) ?_
  | with_reducible refine isi_str_bool ?_
  | with_reducible refine isi_str_int ?_
  | with_reducible refine isi_str_str ?_
  | with_reducible refine isi_str_list ?_
  | with_reducible refine isi_str_tuple ?_
  | with_reducible refine isi_str_dict ?_
  | with_reducible refine isi_str_seq (by assumption) ?_
  | with_reducible refine isi_lst_bool (by assumption) (by assumption) ?_
  | with_reducible refine isi_lst_int (by assumption) (by assumption) ?_
  | with_reducible refine isi_lst_str (by assumption) (by assumption) ?_
  | with_reducible refine isi_lst_list (by assumption) (by assumption) ?_
  | with_reducible refine isi_lst_tuple (by assumption) (by assumption) ?_
  | with_reducible refine isi_lst_dict (by assumption) (by assumption) ?_
  | with_reducible refine isi_lst_seq (by assumption) (by assumption) (by assumption) ?_
  | with_reducible refine isi_tup_bool (by assumption) (by assumption) ?_
  | with_reducible refine isi_tup_int (by assumption) (by assumption) ?_
  | with_reducible refine isi_tup_str (by assumption) (by assumption) ?_
  | with_reducible refine isi_tup_list (by assumption) (by assumption) ?_
  | with_reducible refine isi_tup_tuple (by assumption) (by assumption) ?_
  | with_reducible refine isi_tup_dict (by assumption) (by assumption) ?_
  | with_reducible refine isi_tup_seq (by assumption) (by assumption) (by assumption) ?_
  | with_reducible refine isi_dK_bool (by assumption) (by assumption) ?_
  | with_reducible refine isi_dK_int (by assumption) (by assumption) ?_
  | with_reducible refine isi_dK_str (by assumption) (by assumption) ?_
  | with_reducible refine isi_dK_list (by assumption) (by assumption) ?_
  | with_reducible refine isi_dK_tuple (by assumption) (by assumption) ?_
  | with_reducible refine isi_dK_dict (by assumption) (by assumption) ?_
  | with_reducible refine isi_dK_seq (by assumption) (by assumption) (by assumption) ?_
  | with_reducible refine eq_bb ?_
  | with_reducible refine eq_ss ?_
  | with_reducible refine ev_isN ?_
  | with_reducible refine ev_tB ?_
  | with_reducible refine ev_and ?_
  | with_reducible refine ev_or ?_
  | with_reducible refine ev_not ?_
  | with_reducible refine c_tru ?_
  | with_reducible refine tru_bl ?_
  | with_reducible refine if_nt ?_
  | with_reducible refine if_nf ?_
  | with_reducible refine tup_new ?_
  | with_reducible refine lst_new ?_
  | with_reducible refine len_ms (by assumption) (by assumption) ?_
  | with_reducible refine len_ts (by assumption) (by assumption) ?_
  | ((with_reducible refine lit_len ?_ ?_); (focus (first | decide | (simp; done) | (simp; omega))))
  | (with_reducible refine new_st (by assumption) (by assumption) ?_; intro q1 H1 hq1 he1 hn1 kp1 hS1 sm1)
  | (with_reducible refine new_same (by assumption) ?_; intro q1 H1 hq1 he1 sm1 hs1)
  | with_reducible refine if_dT rfl ?_
  | ((with_reducible refine if_dF ?_ ?_); focus (intro z; cases z; done))
  | with_reducible refine if_t ?_
  | with_reducible refine if_f ?_
  | ((with_reducible refine c_take (by assumption) (by assumption) ?_ ?_); (focus omega); intro r1 H1 hS1 kp1 h01 h11)
  | with_reducible refine ev_chain ?_
  | ((with_reducible refine c_number (by assumption) (by assumption) ?_ ?_); (focus omega); intro r1 H1 hS1 kp1 h01 h11)
  | ((with_reducible refine c_pick (by assumption) (by assumption) (by assumption) (by assumption) ?_ ?_); (focus (simp; done)); intro r1 H1 hS1 kp1 kk1 h01)
  | with_reducible refine v_bm ?_
  | with_reducible refine v_sl ?_
  | with_reducible refine s_lc1 ?_
  | with_reducible refine s_lcL ?_
  | (with_reducible refine lc_kept ?_ rfl)
  | with_reducible refine c_yes ?_
  | with_reducible refine v_nopart ?_
  | with_reducible refine v_part ?_
  | with_reducible refine part_i ?_
  | with_reducible refine ty_l (by assumption) ?_)
local macro_rules | `(tactic| walk_at "go") => `(tactic| repeat' (first | walk_at "nw" | ((with_reducible refine if_d ?_ ?_) <;> intro c1) | ((with_reducible refine if_nd ?_ ?_) <;> intro c1)))
end NW
namespace NW
open PySem PySem.Spec PyProof.Rows L2
open C8 (tCut pss_cut)
def LT (H : Hp) (p : Addr) (xs : List V) : Prop := H p = some (.lst xs) ∨ H p = some (.tup xs)
theorem LT.mono {H H' : Hp} {p : Addr} {xs : List V} (s : Same H H') (h : LT H p xs) : LT H' p xs := h.elim (fun z => .inl (s _ _ z)) fun z => .inr (s _ _ z)
section
variable {P : Program} {w : World} {K : PySem.W.Frag} {mg : Str → Option Value} {base : Heap} {x qual : Str} {params : Arguments} {body : List Stmt} {scope : Scope} {f : Addr} {N ps : List Str} {k : Nat} {sp : Sp}
theorem has_ofX {t : XK → TS} (g : mg x = some (.ref f)) (F : ∃ fd, FunD K x x params body scope [] [] f fd) (S : FnScope N ps scope) (len : ∀ vs H Q E, sp vs H Q E → vs.length = ps.length)
    (bn : ∀ (kV doc pm : Value) (an : Option Addr) (cdv ct : Value) (us : List Value), us.length = ps.length → bindArgs (PySem.W.fnOf x x params body scope .none kV doc pm an cdv ct) ⟨us, []⟩ = pure (ps.zip us))
    (d : ∀ (cdv : Value) (A : Around) (outer : List Env) (s : Shared) (H : Hp) (E : XK), Room k (A.deeper (envOfC x scope s.heap.objs.size f cdv)) →
      L2N.Takes (cxOf (L2N.CX P w) P w K mg base N x scope f cdv A outer s H E) (fun cls d _ H => E cls d H) → PSs (cxOf (L2N.CX P w) P w K mg base N x scope f cdv A outer s H E) body (t E))
    (pure_ : ∀ vs H Q E, sp vs H Q E → t E { nx := fun _ H' => Q .non H', rt := Q } (start N vs) H) : Has P w K mg base x (k + 1) ps sp := by
  obtain ⟨fd, F⟩ := F
  exact ⟨f, fd, g, F.kp, F.bindsN bn, F.ok S len fun cdv A outer s H vs Q E hr h => ⟨t E, d cdv A outer s H E hr (L2N.takes_of rfl rfl rfl rfl), pure_ vs H Q E h⟩⟩
/-- C's own __init__ keeps sp -/
structure InitOk (P : Program) (w : World) (K : PySem.W.Frag) (mg : Str → Option Value) (base : Heap) (C : Addr) (k : Nat) (ps : List Str) (sp : Sp) : Prop where
  o : OexC K C
  ex : ∃ fI fd, PySem.W.findIn K (.ref C) "__init__" = some (some (.ref fI)) ∧ PySem.W.typeIn K (.ref fI) = some (.type "function") ∧ Binds K fd ps [] ∧ FnOk P w K mg base (L2N.CX P w) k fI fd ps sp
/-- what the written part says of such a class: one field -/
structure Err1 (K : PySem.W.Frag) (C : Addr) (q : Str) (fl : Str) (params : Arguments) (body : List Stmt) (scope : Scope) : Prop where
  o : OexC K C
  n : PySem.W.findIn K (.ref C) fl = some none
  ex : ∃ fI fd, PySem.W.findIn K (.ref C) "__init__" = some (some (.ref fI)) ∧ PySem.W.typeIn K (.ref fI) = some (.type "function") ∧ FunD K "__init__" q params body scope [] [] fI fd
def sp_init1 (K : PySem.W.Frag) (C : Addr) (fl : Str) : Sp := fun vs H Q _ => ∃ (a : Addr) (y : V), vs = [.ref a, y] ∧ H a = some (exo a C none) ∧ ∀ dx, H dx = none → dx ≠ a → Q .non (upd (upd H dx (exd dx [(fl, y)])) a (exo a C (some dx)))
theorem init1 {C : Addr} {q fl : Str} (h : Err1 K C q fl params body scope) (S : FnScope (["self", fl] : List Str) (["self", fl] : List Str) scope)
    (bn : ∀ (kV doc pm : Value) (an : Option Addr) (cdv ct : Value) (us : List Value), us.length = 2 → bindArgs (PySem.W.fnOf "__init__" q params body scope .none kV doc pm an cdv ct) ⟨us, []⟩ = pure ((["self", fl] : List Str).zip us))
    (dv : ∀ (fI : Addr) (cdv : Value) (A : Around) (outer : List Env) (s : Shared) (H : Hp) (E : XK), PSs (cxOf (L2N.CX P w) P w K mg base (["self", fl] : List Str) q scope fI cdv A outer s H E) body (tOst K fl (tVar 0) (tVar 1))) : InitOk P w K mg base C 1 (["self", fl] : List Str) (sp_init1 K C fl) := by
  obtain ⟨fI, fd, h1, h2, F⟩ := h.ex
  refine ⟨h.o, fI, fd, h1, h2, F.bindsN bn, F.ok S (fun vs H Q E z => by obtain ⟨_, _, e, _⟩ := z; rw [e]; rfl) fun cdv A outer s H vs Q E hr z => ⟨_, dv fI cdv A outer s H E, ?_⟩⟩
  obtain ⟨a, y, ev, ha, q⟩ := z
  subst ev
  exact ⟨y, rfl, .ref a, rfl, a, C, rfl, h.o, h.n, .inl ⟨ha, fun dx h3 h4 => q dx h3 h4⟩⟩
end
/-- made by its class's name -/
theorem pmk_in {X : Cx} {x : Str} {C : Addr} {k j : Nat} {ps : List Str} {sp : Sp} {e : Expr} {es : List Expr} {ta : TA} {p pos : Pos} (h : InitOk X.prog X.w X.K X.mg X.base C k ps sp) (hm : X.mg x = some (.ref C)) (hr : Room j X.A) (ha : PA X (e :: es) ta) (hk : k + 1 ≤ j := by decide) (hg : Gl X x := by rfl) (hdb : (x == ("__debug__" : Str)) = false := by decide)
    (he : starEach (e :: es) X.env = (false, eval e X.env) :: starEach es X.env := by rfl) (hpl : (backTo pos (starEach es X.env)).any (·.1) = false := by rfl) : L2N.PMk X (.Call (.Name x p) (e :: es) [] pos) (tMkO C sp [] ta) := by
  obtain ⟨fI, fd, h1, h2, hb, F⟩ := h.ex
  exact pmkN h.o h1 h2 F (hr.mono hk) hb passN hg hm ha hdb he hpl
/-- raise C(e): its reading -/
def tRaise (E : XK) (t : L2.St → Hp → XK → Prop) : TS := fun _ σ H => t σ H fun cls d H' => E cls d H'
theorem ps_rs {X : Cx} {E : XK} {e : Expr} {t : L2.St → Hp → XK → Prop} {pos : Pos} (hc : X.calm = true) (tk : L2N.Takes X (fun cls d _ H => E cls d H)) (he : L2N.PMk X e t) : PS X (.Raise (some e) none pos) (tRaise E t) := L2N.ps_raise hc tk he
def MkR (E : XK) (K : PySem.W.Frag) (C : Addr) (fl : Str) (y : V) (H1 : Hp) : Prop := ([y] : List V).length ≤ 1000 ∧ ∀ a, H1 a = none → sp_init1 K C fl (.ref a :: ([y] ++ [])) (upd H1 a (exo a C none))
  (fun v H2 => v = .non ∧ ∃ (d : Addr) (fs : List (Str × V)), H2 a = some (exo a C (some d)) ∧ H2 d = some (exd d fs) ∧ H1 d = none ∧ E (.ref C) (some d) (upd (del H2 a) d (.xd fs))) (fun _ _ _ => False)
theorem s_raise1 {E : XK} {K : PySem.W.Frag} {C : Addr} {fl : Str} {te : TE} {D : Ends} {σ : L2.St} {H : Hp} (h : te σ H fun y H1 => MkR E K C fl y H1) : tRaise E (tMkO C (sp_init1 K C fl) [] (tCons te tNil)) D σ H := h
theorem mk_r {E : XK} {K : PySem.W.Frag} {C : Addr} {fl : Str} {y : V} {H1 : Hp} (hq : ∀ d, H1 d = none → E (.ref C) (some d) (upd H1 d (.xd [(fl, y)]))) : MkR E K C fl y H1 := by
  refine ⟨by show 1 ≤ 1000; decide, fun a ha => ⟨a, y, rfl, upd_same, fun dx hdx hne => ⟨rfl, dx, [(fl, y)], upd_same, ?_, ?_, ?_⟩⟩⟩
  · rw [upd_ne hne]; exact upd_same
  · rw [upd_ne hne] at hdx; exact hdx
  · rw [upd_ne hne] at hdx
    have z : upd (del (upd (upd (upd H1 a (exo a C none)) dx (exd dx [(fl, y)])) a (exo a C (some dx))) a) dx (.xd [(fl, y)]) = upd H1 dx (.xd [(fl, y)]) := by
      funext b
      by_cases b1 : b = dx
      · subst b1; rw [upd_same, upd_same]
      · rw [upd_ne b1, upd_ne b1]
        by_cases b2 : b = a
        · subst b2; rw [del_same, ha]
        · rw [del_ne b2, upd_ne b2, upd_ne b1, upd_ne b2]
    rw [z]
    exact hq dx hdx
end NW
namespace NW
open PySem PySem.Spec PyProof.Rows L2
open C8 (tCut pss_cut)
local macro_rules | `(tactic| walk_at "nw") => `(tactic| first
  | with_reducible refine s_seq ?_
  | with_reducible refine s_asg ?_
  | with_reducible refine s_if ?_
  | with_reducible refine s_ret ?_
  | with_reducible refine s_drop ?_
  | with_reducible refine v_var0 ?_
  | with_reducible refine s_name0 ?_
  | with_reducible refine v_aug0 ?_
  | with_reducible refine v_var1 ?_
  | with_reducible refine s_name1 ?_
  | with_reducible refine v_aug1 ?_
  | with_reducible refine v_var2 ?_
  | with_reducible refine s_name2 ?_
  | with_reducible refine v_aug2 ?_
  | with_reducible refine v_var3 ?_
  | with_reducible refine s_name3 ?_
  | with_reducible refine v_aug3 ?_
  | with_reducible refine v_var4 ?_
  | with_reducible refine s_name4 ?_
  | with_reducible refine v_aug4 ?_
  | with_reducible refine v_var5 ?_
  | with_reducible refine s_name5 ?_
  | with_reducible refine v_aug5 ?_
  | with_reducible refine v_var6 ?_
  | with_reducible refine s_name6 ?_
  | with_reducible refine v_aug6 ?_
  | with_reducible refine v_var7 ?_
  | with_reducible refine s_name7 ?_
  | with_reducible refine v_aug7 ?_
  | with_reducible refine v_var8 ?_
  | with_reducible refine s_name8 ?_
  | with_reducible refine v_aug8 ?_
  | with_reducible refine v_var9 ?_
  | with_reducible refine s_name9 ?_
  | with_reducible refine v_aug9 ?_
  | with_reducible refine v_var10 ?_
  | with_reducible refine s_name10 ?_
  | with_reducible refine v_aug10 ?_
  | with_reducible refine v_var11 ?_
  | with_reducible refine s_name11 ?_
  | with_reducible refine v_aug11 ?_
  | with_reducible refine v_var12 ?_
  | with_reducible refine s_name12 ?_
  | with_reducible refine v_aug12 ?_
  | with_reducible refine v_var13 ?_
  | with_reducible refine s_name13 ?_
  | with_reducible refine v_aug13 ?_
  | with_reducible refine v_var14 ?_
  | with_reducible refine s_name14 ?_
  | with_reducible refine v_aug14 ?_
  | with_reducible refine v_var15 ?_
  | with_reducible refine s_name15 ?_
  | with_reducible refine v_aug15 ?_
  | with_reducible refine v_c ?_
  | with_reducible refine v_op ?_
  | with_reducible refine v_cons ?_
  | with_reducible refine v_nil ?_
  | with_reducible refine v_cb ?_
  | with_reducible refine v_call ?_
  | with_reducible refine c_test ?_
  | with_reducible refine c_bl ?_
  | with_reducible refine c_and ?_
  | with_reducible refine c_or ?_
  | with_reducible refine c_not ?_
  | with_reducible refine v_augS ?_
  | with_reducible refine v_sub ?_
  | with_reducible refine add_ii ?_
  | with_reducible refine sub_ii ?_
  | with_reducible refine iadd_ii ?_
  | with_reducible refine lt_ii ?_
  | with_reducible refine le_ii ?_
  | with_reducible refine gt_ii ?_
  | with_reducible refine ge_ii ?_
  | with_reducible refine eq_ii ?_
  | with_reducible refine ne_ii ?_
  | with_reducible refine int_i ?_
  | with_reducible refine abs_i ?_
  | with_reducible refine max_i ?_
  | with_reducible refine min_i ?_
  | with_reducible refine mul_r (by omega) (by omega) ?_
  | with_reducible refine mul_l (by omega) (by omega) ?_
  | with_reducible refine ix_m0 (by assumption) ?_
  | with_reducible refine get_m0 (by assumption) ?_
  | with_reducible refine ix_m1 (by assumption) ?_
  | with_reducible refine get_m1 (by assumption) ?_
  | with_reducible refine ix_m2 (by assumption) ?_
  | with_reducible refine get_m2 (by assumption) ?_
  | with_reducible refine ix_m3 (by assumption) ?_
  | with_reducible refine get_m3 (by assumption) ?_
  | with_reducible refine ix_m4 (by assumption) ?_
  | with_reducible refine get_m4 (by assumption) ?_
  | with_reducible refine ix_m5 (by assumption) ?_
  | with_reducible refine get_m5 (by assumption) ?_
  | (with_reducible refine st_set1 (by assumption) (by assumption) ?_; intro H1 hs1 kp1)
  | (with_reducible refine st_set2 (by assumption) (by assumption) ?_; intro H1 hs1 kp1)
  | (with_reducible refine st_set3 (by assumption) (by assumption) ?_; intro H1 hs1 kp1)
  | (with_reducible refine st_set4 (by assumption) (by assumption) ?_; intro H1 hs1 kp1)
  | (with_reducible refine st_set5 (by assumption) (by assumption) ?_; intro H1 hs1 kp1)
  | with_reducible refine len_m (by assumption) ?_
  | with_reducible refine s_for1 ?_
  | with_reducible refine s_forL ?_
  | with_reducible refine rng1 (by omega) (by omega) ?_
  | with_reducible refine s_next ?_
  | with_reducible refine s_break ?_
  | with_reducible refine s_cont ?_
  | with_reducible refine isi_non_bool ?_
  | with_reducible refine isi_non_int ?_
  | with_reducible refine isi_non_str ?_
  | with_reducible refine isi_non_list ?_
  | with_reducible refine isi_non_tuple ?_
  | with_reducible refine isi_non_dict ?_
  | with_reducible refine isi_non_seq (by assumption) ?_
  | with_reducible refine isi_bl_bool ?_
  | with_reducible refine isi_bl_int ?_
  | with_reducible refine isi_bl_str ?_
  | with_reducible refine isi_bl_list ?_
  | with_reducible refine isi_bl_tuple ?_
  | with_reducible refine isi_bl_dict ?_
  | with_reducible refine isi_bl_seq (by assumption) ?_
  | with_reducible refine isi_int_bool ?_
  | with_reducible refine isi_int_int ?_
  | with_reducible refine isi_int_str ?_
  | with_reducible refine isi_int_list ?_
  | with_reducible refine isi_int_tuple ?_
  | with_reducible refine isi_int_dict ?_
  | with_reducible refine isi_int_seq (by assumption) ?_
  | with_reducible refine isi_str_bool ?_
  | with_reducible refine isi_str_int ?_
  | with_reducible refine isi_str_str ?_
  | with_reducible refine isi_str_list ?_
  | with_reducible refine isi_str_tuple ?_
  | with_reducible refine isi_str_dict ?_
  | with_reducible refine isi_str_seq (by assumption) ?_
  | with_reducible refine isi_lst_bool (by assumption) (by assumption) ?_
  | with_reducible refine isi_lst_int (by assumption) (by assumption) ?_
  | with_reducible refine isi_lst_str (by assumption) (by assumption) ?_
  | with_reducible refine isi_lst_list (by assumption) (by assumption) ?_
  | with_reducible refine isi_lst_tuple (by assumption) (by assumption) ?_
  | with_reducible refine isi_lst_dict (by assumption) (by assumption) ?_
  | with_reducible refine isi_lst_seq (by assumption) (by assumption) (by assumption) ?_
  | with_reducible refine isi_tup_bool (by assumption) (by assumption) ?_
  | with_reducible refine isi_tup_int (by assumption) (by assumption) ?_
  | with_reducible refine isi_tup_str (by assumption) (by assumption) ?_
  | with_reducible refine isi_tup_list (by assumption) (by assumption) ?_
  | with_reducible refine isi_tup_tuple (by assumption) (by assumption) ?_
  | with_reducible refine isi_tup_dict (by assumption) (by assumption) ?_
  | with_reducible refine isi_tup_seq (by assumption) (by assumption) (by assumption) ?_
  | with_reducible refine isi_dK_bool (by assumption) (by assumption) ?_
  | with_reducible refine isi_dK_int (by assumption) (by assumption) ?_
  | with_reducible refine isi_dK_str (by assumption) (by assumption) ?_
  | with_reducible refine isi_dK_list (by assumption) (by assumption) ?_
  | with_reducible refine isi_dK_tuple (by assumption) (by assumption) ?_
  | with_reducible refine isi_dK_dict (by assumption) (by assumption) ?_
  | with_reducible refine isi_dK_seq (by assumption) (by assumption) (by assumption) ?_
  | with_reducible refine eq_bb ?_
  | with_reducible refine eq_ss ?_
  | with_reducible refine ev_isN ?_
  | with_reducible refine ev_tB ?_
  | with_reducible refine ev_and ?_
  | with_reducible refine ev_or ?_
  | with_reducible refine ev_not ?_
  | with_reducible refine c_tru ?_
  | with_reducible refine tru_bl ?_
  | with_reducible refine if_nt ?_
  | with_reducible refine if_nf ?_
  | with_reducible refine tup_new ?_
  | with_reducible refine lst_new ?_
  | with_reducible refine len_ms (by assumption) (by assumption) ?_
  | with_reducible refine len_ts (by assumption) (by assumption) ?_
  | ((with_reducible refine lit_len ?_ ?_); (focus (first | decide | (simp; done) | (simp; omega))))
  | (with_reducible refine new_st (by assumption) (by assumption) ?_; intro q1 H1 hq1 he1 hn1 kp1 hS1 sm1)
  | (with_reducible refine new_same (by assumption) ?_; intro q1 H1 hq1 he1 sm1 hs1)
  | with_reducible refine if_dT rfl ?_
  | ((with_reducible refine if_dF ?_ ?_); focus (intro z; cases z; done))
  | with_reducible refine if_t ?_
  | with_reducible refine if_f ?_
  | ((with_reducible refine c_take (by assumption) (by assumption) ?_ ?_); (focus omega); intro r1 H1 hS1 kp1 h01 h11)
  | with_reducible refine ev_chain ?_
  | ((with_reducible refine c_number (by assumption) (by assumption) ?_ ?_); (focus omega); intro r1 H1 hS1 kp1 h01 h11)
  | ((with_reducible refine c_pick (by assumption) (by assumption) (by assumption) (by assumption) ?_ ?_); (focus (simp; done)); intro r1 H1 hS1 kp1 kk1 h01)
  | with_reducible refine v_bm ?_
  | with_reducible refine v_sl ?_
  | with_reducible refine s_lc1 ?_
  | with_reducible refine s_lcL ?_
  | (with_reducible refine lc_kept ?_ rfl)
  | with_reducible refine c_yes ?_
  | with_reducible refine v_nopart ?_
  | with_reducible refine v_part ?_
  | with_reducible refine part_i ?_
  | with_reducible refine ty_l (by assumption) ?_)
local macro_rules | `(tactic| walk_at "go") => `(tactic| repeat' (first | walk_at "nw" | ((with_reducible refine if_d ?_ ?_) <;> intro c1) | ((with_reducible refine if_nd ?_ ?_) <;> intro c1)))
end NW
namespace NW
open PySem PySem.Spec PyProof.Rows L2
open C8 (tCut pss_cut)
/-- same, of the very data -/
theorem c_same {n : Nat} {x y : V} {d : DT} {H : Hp} {Q : VK} {E : XK} (hx : Is H x d) (hy : Is H y d) (hd : d.dep ≤ n) (h : ∀ H', Same H H' → Q (.bl true) H') : sp_same (n + 1) [x, y] H Q E :=
  ⟨x, y, d, d, rfl, hx, hy, hd, fun b H' s e => by
    have : b = true := e.mpr rfl
    subst this
    exact h H' s⟩
local macro_rules | `(tactic| walk_at "nw") => `(tactic| first
  | with_reducible refine s_seq ?_
  | with_reducible refine s_asg ?_
  | with_reducible refine s_if ?_
  | with_reducible refine s_ret ?_
  | with_reducible refine s_drop ?_
  | with_reducible refine v_var0 ?_
  | with_reducible refine s_name0 ?_
  | with_reducible refine v_aug0 ?_
  | with_reducible refine v_var1 ?_
  | with_reducible refine s_name1 ?_
  | with_reducible refine v_aug1 ?_
  | with_reducible refine v_var2 ?_
  | with_reducible refine s_name2 ?_
  | with_reducible refine v_aug2 ?_
  | with_reducible refine v_var3 ?_
  | with_reducible refine s_name3 ?_
  | with_reducible refine v_aug3 ?_
  | with_reducible refine v_var4 ?_
  | with_reducible refine s_name4 ?_
  | with_reducible refine v_aug4 ?_
  | with_reducible refine v_var5 ?_
  | with_reducible refine s_name5 ?_
  | with_reducible refine v_aug5 ?_
  | with_reducible refine v_var6 ?_
  | with_reducible refine s_name6 ?_
  | with_reducible refine v_aug6 ?_
  | with_reducible refine v_var7 ?_
  | with_reducible refine s_name7 ?_
  | with_reducible refine v_aug7 ?_
  | with_reducible refine v_var8 ?_
  | with_reducible refine s_name8 ?_
  | with_reducible refine v_aug8 ?_
  | with_reducible refine v_var9 ?_
  | with_reducible refine s_name9 ?_
  | with_reducible refine v_aug9 ?_
  | with_reducible refine v_var10 ?_
  | with_reducible refine s_name10 ?_
  | with_reducible refine v_aug10 ?_
  | with_reducible refine v_var11 ?_
  | with_reducible refine s_name11 ?_
  | with_reducible refine v_aug11 ?_
  | with_reducible refine v_var12 ?_
  | with_reducible refine s_name12 ?_
  | with_reducible refine v_aug12 ?_
  | with_reducible refine v_var13 ?_
  | with_reducible refine s_name13 ?_
  | with_reducible refine v_aug13 ?_
  | with_reducible refine v_var14 ?_
  | with_reducible refine s_name14 ?_
  | with_reducible refine v_aug14 ?_
  | with_reducible refine v_var15 ?_
  | with_reducible refine s_name15 ?_
  | with_reducible refine v_aug15 ?_
  | with_reducible refine v_c ?_
  | with_reducible refine v_op ?_
  | with_reducible refine v_cons ?_
  | with_reducible refine v_nil ?_
  | with_reducible refine v_cb ?_
  | with_reducible refine v_call ?_
  | with_reducible refine c_test ?_
  | with_reducible refine c_bl ?_
  | with_reducible refine c_and ?_
  | with_reducible refine c_or ?_
  | with_reducible refine c_not ?_
  | with_reducible refine v_augS ?_
  | with_reducible refine v_sub ?_
  | with_reducible refine add_ii ?_
  | with_reducible refine sub_ii ?_
  | with_reducible refine iadd_ii ?_
  | with_reducible refine lt_ii ?_
  | with_reducible refine le_ii ?_
  | with_reducible refine gt_ii ?_
  | with_reducible refine ge_ii ?_
  | with_reducible refine eq_ii ?_
  | with_reducible refine ne_ii ?_
  | with_reducible refine int_i ?_
  | with_reducible refine abs_i ?_
  | with_reducible refine max_i ?_
  | with_reducible refine min_i ?_
  | with_reducible refine mul_r (by omega) (by omega) ?_
  | with_reducible refine mul_l (by omega) (by omega) ?_
  | with_reducible refine ix_m0 (by assumption) ?_
  | with_reducible refine get_m0 (by assumption) ?_
  | with_reducible refine ix_m1 (by assumption) ?_
  | with_reducible refine get_m1 (by assumption) ?_
  | with_reducible refine ix_m2 (by assumption) ?_
  | with_reducible refine get_m2 (by assumption) ?_
  | with_reducible refine ix_m3 (by assumption) ?_
  | with_reducible refine get_m3 (by assumption) ?_
  | with_reducible refine ix_m4 (by assumption) ?_
  | with_reducible refine get_m4 (by assumption) ?_
  | with_reducible refine ix_m5 (by assumption) ?_
  | with_reducible refine get_m5 (by assumption) ?_
  | (with_reducible refine st_set1 (by assumption) (by assumption) ?_; intro H1 hs1 kp1)
  | (with_reducible refine st_set2 (by assumption) (by assumption) ?_; intro H1 hs1 kp1)
  | (with_reducible refine st_set3 (by assumption) (by assumption) ?_; intro H1 hs1 kp1)
  | (with_reducible refine st_set4 (by assumption) (by assumption) ?_; intro H1 hs1 kp1)
  | (with_reducible refine st_set5 (by assumption) (by assumption) ?_; intro H1 hs1 kp1)
  | with_reducible refine len_m (by assumption) ?_
  | with_reducible refine s_for1 ?_
  | with_reducible refine s_forL ?_
  | with_reducible refine rng1 (by omega) (by omega) ?_
  | with_reducible refine s_next ?_
  | with_reducible refine s_break ?_
  | with_reducible refine s_cont ?_
  | with_reducible refine isi_non_bool ?_
  | with_reducible refine isi_non_int ?_
  | with_reducible refine isi_non_str ?_
  | with_reducible refine isi_non_list ?_
  | with_reducible refine isi_non_tuple ?_
  | with_reducible refine isi_non_dict ?_
  | with_reducible refine isi_non_seq (by assumption) ?_
  | with_reducible refine isi_bl_bool ?_
  | with_reducible refine isi_bl_int ?_
  | with_reducible refine isi_bl_str ?_
  | with_reducible refine isi_bl_list ?_
  | with_reducible refine isi_bl_tuple ?_
  | with_reducible refine isi_bl_dict ?_
  | with_reducible refine isi_bl_seq (by assumption) ?_
  | with_reducible refine isi_int_bool ?_
  | with_reducible refine isi_int_int ?_
  | with_reducible refine isi_int_str ?_
  | with_reducible refine isi_int_list ?_
  | with_reducible refine isi_int_tuple ?_
  | with_reducible refine isi_int_dict ?_
  | with_reducible refine isi_int_seq (by assumption) ?_
  | with_reducible refine isi_str_bool ?_
  | with_reducible refine isi_str_int ?_
  | with_reducible refine isi_str_str ?_
  | with_reducible refine isi_str_list ?_
  | with_reducible refine isi_str_tuple ?_
  | with_reducible refine isi_str_dict ?_
  | with_reducible refine isi_str_seq (by assumption) ?_
  | with_reducible refine isi_lst_bool (by assumption) (by assumption) ?_
  | with_reducible refine isi_lst_int (by assumption) (by assumption) ?_
  | with_reducible refine isi_lst_str (by assumption) (by assumption) ?_
  | with_reducible refine isi_lst_list (by assumption) (by assumption) ?_
  | with_reducible refine isi_lst_tuple (by assumption) (by assumption) ?_
  | with_reducible refine isi_lst_dict (by assumption) (by assumption) ?_
  | with_reducible refine isi_lst_seq (by assumption) (by assumption) (by assumption) ?_
  | with_reducible refine isi_tup_bool (by assumption) (by assumption) ?_
  | with_reducible refine isi_tup_int (by assumption) (by assumption) ?_
  | with_reducible refine isi_tup_str (by assumption) (by assumption) ?_
  | with_reducible refine isi_tup_list (by assumption) (by assumption) ?_
  | with_reducible refine isi_tup_tuple (by assumption) (by assumption) ?_
  | with_reducible refine isi_tup_dict (by assumption) (by assumption) ?_
  | with_reducible refine isi_tup_seq (by assumption) (by assumption) (by assumption) ?_
  | with_reducible refine isi_dK_bool (by assumption) (by assumption) ?_
  | with_reducible refine isi_dK_int (by assumption) (by assumption) ?_
  | with_reducible refine isi_dK_str (by assumption) (by assumption) ?_
  | with_reducible refine isi_dK_list (by assumption) (by assumption) ?_
  | with_reducible refine isi_dK_tuple (by assumption) (by assumption) ?_
  | with_reducible refine isi_dK_dict (by assumption) (by assumption) ?_
  | with_reducible refine isi_dK_seq (by assumption) (by assumption) (by assumption) ?_
  | with_reducible refine eq_bb ?_
  | with_reducible refine eq_ss ?_
  | with_reducible refine ev_isN ?_
  | with_reducible refine ev_tB ?_
  | with_reducible refine ev_and ?_
  | with_reducible refine ev_or ?_
  | with_reducible refine ev_not ?_
  | with_reducible refine c_tru ?_
  | with_reducible refine tru_bl ?_
  | with_reducible refine if_nt ?_
  | with_reducible refine if_nf ?_
  | with_reducible refine tup_new ?_
  | with_reducible refine lst_new ?_
  | with_reducible refine len_ms (by assumption) (by assumption) ?_
  | with_reducible refine len_ts (by assumption) (by assumption) ?_
  | ((with_reducible refine lit_len ?_ ?_); (focus (first | decide | (simp; done) | (simp; omega))))
  | (with_reducible refine new_st (by assumption) (by assumption) ?_; intro q1 H1 hq1 he1 hn1 kp1 hS1 sm1)
  | (with_reducible refine new_same (by assumption) ?_; intro q1 H1 hq1 he1 sm1 hs1)
  | with_reducible refine if_dT rfl ?_
  | ((with_reducible refine if_dF ?_ ?_); focus (intro z; cases z; done))
  | with_reducible refine if_t ?_
  | with_reducible refine if_f ?_
  | ((with_reducible refine c_take (by assumption) (by assumption) ?_ ?_); (focus omega); intro r1 H1 hS1 kp1 h01 h11)
  | with_reducible refine ev_chain ?_
  | ((with_reducible refine c_number (by assumption) (by assumption) ?_ ?_); (focus omega); intro r1 H1 hS1 kp1 h01 h11)
  | ((with_reducible refine c_pick (by assumption) (by assumption) (by assumption) (by assumption) ?_ ?_); (focus (simp; done)); intro r1 H1 hS1 kp1 kk1 h01)
  | with_reducible refine v_bm ?_
  | with_reducible refine v_sl ?_
  | with_reducible refine s_lc1 ?_
  | with_reducible refine s_lcL ?_
  | (with_reducible refine lc_kept ?_ rfl)
  | with_reducible refine c_yes ?_
  | with_reducible refine v_nopart ?_
  | with_reducible refine v_part ?_
  | with_reducible refine part_i ?_
  | with_reducible refine ty_l (by assumption) ?_)
local macro_rules | `(tactic| walk_at "go") => `(tactic| repeat' (first | walk_at "nw" | ((with_reducible refine if_d ?_ ?_) <;> intro c1) | ((with_reducible refine if_nd ?_ ?_) <;> intro c1)))
end NW
namespace NW
open PySem PySem.Spec PyProof.Rows L2
open C8 (tCut pss_cut)
local macro_rules | `(tactic| walk_at "nw") => `(tactic| first
  | with_reducible refine s_seq ?_
  | with_reducible refine s_asg ?_
  | with_reducible refine s_if ?_
  | with_reducible refine s_ret ?_
  | with_reducible refine s_drop ?_
  | with_reducible refine v_var0 ?_
  | with_reducible refine s_name0 ?_
  | with_reducible refine v_aug0 ?_
  | with_reducible refine v_var1 ?_
  | with_reducible refine s_name1 ?_
  | with_reducible refine v_aug1 ?_
  | with_reducible refine v_var2 ?_
  | with_reducible refine s_name2 ?_
  | with_reducible refine v_aug2 ?_
  | with_reducible refine v_var3 ?_
  | with_reducible refine s_name3 ?_
  | with_reducible refine v_aug3 ?_
  | with_reducible refine v_var4 ?_
  | with_reducible refine s_name4 ?_
  | with_reducible refine v_aug4 ?_
  | with_reducible refine v_var5 ?_
  | with_reducible refine s_name5 ?_
  | with_reducible refine v_aug5 ?_
  | with_reducible refine v_var6 ?_
  | with_reducible refine s_name6 ?_
  | with_reducible refine v_aug6 ?_
  | with_reducible refine v_var7 ?_
  | with_reducible refine s_name7 ?_
  | with_reducible refine v_aug7 ?_
  | with_reducible refine v_var8 ?_
  | with_reducible refine s_name8 ?_
  | with_reducible refine v_aug8 ?_
  | with_reducible refine v_var9 ?_
  | with_reducible refine s_name9 ?_
  | with_reducible refine v_aug9 ?_
  | with_reducible refine v_var10 ?_
  | with_reducible refine s_name10 ?_
  | with_reducible refine v_aug10 ?_
  | with_reducible refine v_var11 ?_
  | with_reducible refine s_name11 ?_
  | with_reducible refine v_aug11 ?_
  | with_reducible refine v_var12 ?_
  | with_reducible refine s_name12 ?_
  | with_reducible refine v_aug12 ?_
  | with_reducible refine v_var13 ?_
  | with_reducible refine s_name13 ?_
  | with_reducible refine v_aug13 ?_
  | with_reducible refine v_var14 ?_
  | with_reducible refine s_name14 ?_
  | with_reducible refine v_aug14 ?_
  | with_reducible refine v_var15 ?_
  | with_reducible refine s_name15 ?_
  | with_reducible refine v_aug15 ?_
  | with_reducible refine v_c ?_
  | with_reducible refine v_op ?_
  | with_reducible refine v_cons ?_
  | with_reducible refine v_nil ?_
  | with_reducible refine v_cb ?_
  | with_reducible refine v_call ?_
  | with_reducible refine c_test ?_
  | with_reducible refine c_bl ?_
  | with_reducible refine c_and ?_
  | with_reducible refine c_or ?_
  | with_reducible refine c_not ?_
  | with_reducible refine v_augS ?_
  | with_reducible refine v_sub ?_
  | with_reducible refine add_ii ?_
  | with_reducible refine sub_ii ?_
  | with_reducible refine iadd_ii ?_
  | with_reducible refine lt_ii ?_
  | with_reducible refine le_ii ?_
  | with_reducible refine gt_ii ?_
  | with_reducible refine ge_ii ?_
  | with_reducible refine eq_ii ?_
  | with_reducible refine ne_ii ?_
  | with_reducible refine int_i ?_
  | with_reducible refine abs_i ?_
  | with_reducible refine max_i ?_
  | with_reducible refine min_i ?_
  | with_reducible refine mul_r (by omega) (by omega) ?_
  | with_reducible refine mul_l (by omega) (by omega) ?_
  | with_reducible refine ix_m0 (by assumption) ?_
  | with_reducible refine get_m0 (by assumption) ?_
  | with_reducible refine ix_m1 (by assumption) ?_
  | with_reducible refine get_m1 (by assumption) ?_
  | with_reducible refine ix_m2 (by assumption) ?_
  | with_reducible refine get_m2 (by assumption) ?_
  | with_reducible refine ix_m3 (by assumption) ?_
  | with_reducible refine get_m3 (by assumption) ?_
  | with_reducible refine ix_m4 (by assumption) ?_
  | with_reducible refine get_m4 (by assumption) ?_
  | with_reducible refine ix_m5 (by assumption) ?_
  | with_reducible refine get_m5 (by assumption) ?_
  | (with_reducible refine st_set1 (by assumption) (by assumption) ?_; intro H1 hs1 kp1)
  | (with_reducible refine st_set2 (by assumption) (by assumption) ?_; intro H1 hs1 kp1)
  | (with_reducible refine st_set3 (by assumption) (by assumption) ?_; intro H1 hs1 kp1)
  | (with_reducible refine st_set4 (by assumption) (by assumption) ?_; intro H1 hs1 kp1)
  | (with_reducible refine st_set5 (by assumption) (by assumption) ?_; intro H1 hs1 kp1)
  | with_reducible refine len_m (by assumption) ?_
  | with_reducible refine s_for1 ?_
  | with_reducible refine s_forL ?_
  | with_reducible refine rng1 (by omega) (by omega) ?_
  | with_reducible refine s_next ?_
  | with_reducible refine s_break ?_
  | with_reducible refine s_cont ?_
  | with_reducible refine isi_non_bool ?_
  | with_reducible refine isi_non_int ?_
  | with_reducible refine isi_non_str ?_
  | with_reducible refine isi_non_list ?_
  | with_reducible refine isi_non_tuple ?_
  | with_reducible refine isi_non_dict ?_
  | with_reducible refine isi_non_seq (by assumption) ?_
  | with_reducible refine isi_bl_bool ?_
  | with_reducible refine isi_bl_int ?_
  | with_reducible refine isi_bl_str ?_
  | with_reducible refine isi_bl_list ?_
  | with_reducible refine isi_bl_tuple ?_
  | with_reducible refine isi_bl_dict ?_
  | with_reducible refine isi_bl_seq (by assumption) ?_
  | with_reducible refine isi_int_bool ?_
  | with_reducible refine isi_int_int ?_
  | with_reducible refine isi_int_str ?_
  | with_reducible refine isi_int_list ?_
  | with_reducible refine isi_int_tuple ?_
  | with_reducible refine isi_int_dict ?_
  | with_reducible refine isi_int_seq (by assumption) ?_
  | with_reducible refine isi_str_bool ?_
  | with_reducible refine isi_str_int ?_
  | with_reducible refine isi_str_str ?_
  | with_reducible refine isi_str_list ?_
  | with_reducible refine isi_str_tuple ?_
  | with_reducible refine isi_str_dict ?_
  | with_reducible refine isi_str_seq (by assumption) ?_
  | with_reducible refine isi_lst_bool (by assumption) (by assumption) ?_
  | with_reducible refine isi_lst_int (by assumption) (by assumption) ?_
  | with_reducible refine isi_lst_str (by assumption) (by assumption) ?_
  | with_reducible refine isi_lst_list (by assumption) (by assumption) ?_
  | with_reducible refine isi_lst_tuple (by assumption) (by assumption) ?_
  | with_reducible refine isi_lst_dict (by assumption) (by assumption) ?_
  | with_reducible refine isi_lst_seq (by assumption) (by assumption) (by assumption) ?_
  | with_reducible refine isi_tup_bool (by assumption) (by assumption) ?_
  | with_reducible refine isi_tup_int (by assumption) (by assumption) ?_
  | with_reducible refine isi_tup_str (by assumption) (by assumption) ?_
  | with_reducible refine isi_tup_list (by assumption) (by assumption) ?_
  | with_reducible refine isi_tup_tuple (by assumption) (by assumption) ?_
  | with_reducible refine isi_tup_dict (by assumption) (by assumption) ?_
  | with_reducible refine isi_tup_seq (by assumption) (by assumption) (by assumption) ?_
  | with_reducible refine isi_dK_bool (by assumption) (by assumption) ?_
  | with_reducible refine isi_dK_int (by assumption) (by assumption) ?_
  | with_reducible refine isi_dK_str (by assumption) (by assumption) ?_
  | with_reducible refine isi_dK_list (by assumption) (by assumption) ?_
  | with_reducible refine isi_dK_tuple (by assumption) (by assumption) ?_
  | with_reducible refine isi_dK_dict (by assumption) (by assumption) ?_
  | with_reducible refine isi_dK_seq (by assumption) (by assumption) (by assumption) ?_
  | with_reducible refine eq_bb ?_
  | with_reducible refine eq_ss ?_
  | with_reducible refine ev_isN ?_
  | with_reducible refine ev_tB ?_
  | with_reducible refine ev_and ?_
  | with_reducible refine ev_or ?_
  | with_reducible refine ev_not ?_
  | with_reducible refine c_tru ?_
  | with_reducible refine tru_bl ?_
  | with_reducible refine if_nt ?_
  | with_reducible refine if_nf ?_
  | with_reducible refine tup_new ?_
  | with_reducible refine lst_new ?_
  | with_reducible refine len_ms (by assumption) (by assumption) ?_
  | with_reducible refine len_ts (by assumption) (by assumption) ?_
  | ((with_reducible refine lit_len ?_ ?_); (focus (first | decide | (simp; done) | (simp; omega))))
  | (with_reducible refine new_st (by assumption) (by assumption) ?_; intro q1 H1 hq1 he1 hn1 kp1 hS1 sm1)
  | (with_reducible refine new_same (by assumption) ?_; intro q1 H1 hq1 he1 sm1 hs1)
  | with_reducible refine if_dT rfl ?_
  | ((with_reducible refine if_dF ?_ ?_); focus (intro z; cases z; done))
  | with_reducible refine if_t ?_
  | with_reducible refine if_f ?_
  | ((with_reducible refine c_take (by assumption) (by assumption) ?_ ?_); (focus omega); intro r1 H1 hS1 kp1 h01 h11)
  | with_reducible refine ev_chain ?_
  | ((with_reducible refine c_number (by assumption) (by assumption) ?_ ?_); (focus omega); intro r1 H1 hS1 kp1 h01 h11)
  | ((with_reducible refine c_pick (by assumption) (by assumption) (by assumption) (by assumption) ?_ ?_); (focus (simp; done)); intro r1 H1 hS1 kp1 kk1 h01)
  | with_reducible refine v_bm ?_
  | with_reducible refine v_sl ?_
  | with_reducible refine s_lc1 ?_
  | with_reducible refine s_lcL ?_
  | (with_reducible refine lc_kept ?_ rfl)
  | with_reducible refine c_yes ?_
  | with_reducible refine v_nopart ?_
  | with_reducible refine v_part ?_
  | with_reducible refine part_i ?_
  | with_reducible refine ty_l (by assumption) ?_)
local macro_rules | `(tactic| walk_at "go") => `(tactic| repeat' (first | walk_at "nw" | ((with_reducible refine if_d ?_ ?_) <;> intro c1) | ((with_reducible refine if_nd ?_ ?_) <;> intro c1)))
end NW
namespace NW
open PySem PySem.Spec PyProof.Rows L2
open C8 (tCut pss_cut)
theorem tkNone {X : Cx} : L2N.Takes X (fun _ _ _ _ => False) := fun _ _ x => by
  obtain ⟨_, _, _, _, _, _, _, _, _, _, _, _, _, _, _, _, z⟩ := x
  exact z.elim
def tTryA (K : PySem.W.Frag) (c : Value) (i : Nat) (tb : WX → TS) (ts : Addr → Value → Option Addr → TS) (Wout : WX) : TS := fun D σ H => tb (wAs K c i ts Wout D) D σ H
theorem ps_tryA {X : Cx} {x n : Str} {c : Value} {i : Nat} {body suite : List Stmt} {b₀ : Stmt} {np pos pos' : Pos} {tb : WX → TS} {ts : Addr → Value → Option Addr → TS} {Wout : WX}
    (hs : X.stack = X.env :: X.outer) (hf : X.env.frame = some X.env.locals) (hN : X.N.Nodup) (hi : X.N[i]? = some n) (hln : X.env.kindOf n = some .local) (hc : Names X x c) (tk : L2N.Takes X Wout)
    (hb : ∀ (W : WX) (pn : List (Addr × Obj)) (xe : Value → Shared → Prop), L2N.Takes (X.tr pn xe) W → PassesOwn (model X.prog X.w) X.A X.env xe → PSs (X.tr pn xe) body (tb W))
    (hsu : ∀ (a : Addr) (oe : Obj) (cls : Value) (d : Option Addr) (pn : List (Addr × Obj)), L2N.Zn cls d oe → (∃ vs, oe.data = .fields vs) → PSs (X.suite a ((a, oe) :: pn)) (b₀ :: suite) (ts a cls d)) :
    PS X (.Try body [.ExceptHandler (some (.Name x np)) (some n) (b₀ :: suite) pos'] [] [] pos) (tTryA X.K c i tb ts Wout) :=
  L2N.ps_try_as hs hf hN hi hln hc tk hb hsu
theorem hotS {X : Cx} {a : Addr} {oe : Obj} {cls : Value} {d : Option Addr} {pn : List (Addr × Obj)} (hz : L2N.Zn cls d oe) (hf : ∃ vs, oe.data = .fields vs) : HotP (X.suite a ((a, oe) :: pn)) (a, oe) := by
  obtain ⟨vs, e⟩ := hf
  exact ⟨⟨rfl, vs, e, hz.2.2 vs e⟩, List.mem_cons_self⟩
theorem roomS {X : Cx} {a : Addr} {k : Nat} {pn : List (Addr × Obj)} (hr : Room k X.A) : L2H.RoomH k (X.suite a pn).A := ⟨hr.dp, hr.un⟩
def tKd (K : PySem.W.Frag) (cls : Value) (a : Addr) (d : Option Addr) (te : TE) : TE := fun σ H Q => ∃ (C : Addr) (b : Str → Bool), cls = .ref C ∧ KitF K C b ∧ ExcC K C ∧ tCall (sp_kind C a d b) [] E0 (tCons te tNil) σ H Q
theorem pe_kd {X : Cx} {a : Addr} {oe : Obj} {cls : Value} {d : Option Addr} {pn : List (Addr × Obj)} {k j : Nat} {ps : List Str} {x : Str} {q pos : Pos} {e : Expr} {te : TE}
    (h : ∀ C b, KitF X.K C b → ExcC X.K C → Zc (.ref C) d oe → HasH X.prog X.w X.K X.mg X.base (a, oe) x k ps (sp_kind C a d b)) (hr : L2H.RoomH j (X.suite a ((a, oe) :: pn)).A) (hz : L2N.Zn cls d oe) (hf : ∃ vs, oe.data = .fields vs)
    (he : PE (X.suite a ((a, oe) :: pn)) e te) (hk : k ≤ j := by decide) (hg : Gl (X.suite a ((a, oe) :: pn)) x := by rfl) (hdb : (x == ("__debug__" : Str)) = false := by decide)
    (hs : starEach [e] (X.suite a ((a, oe) :: pn)).env = (false, eval e (X.suite a ((a, oe) :: pn)).env) :: starEach [] (X.suite a ((a, oe) :: pn)).env := by rfl) (hpl : (backTo pos (starEach [] (X.suite a ((a, oe) :: pn)).env)).any (·.1) = false := by rfl) : PE (X.suite a ((a, oe) :: pn)) (.Call (.Name x q) [e] [] pos) (tKd X.K cls a d te) := by
  refine ⟨fun pins s σ H Q I hh => ?_⟩
  obtain ⟨C, b, ec, F, G, hq⟩ := hh
  subst ec
  exact (pe_hc (X := X.suite a ((a, oe) :: pn)) (h C b F G hz.zc) hr (hotS hz hf) (pa_cons he pa_nil (hs := hs)) hk hg hdb hs hpl).run pins s σ H Q I hq
def tXfE (K : PySem.W.Frag) (a : Addr) (cls : Value) (d : Option Addr) (f : Str) (te : TE) : TE := fun σ H Q => ∃ C : Addr, cls = .ref C ∧ XfC K C ∧ PySem.W.findIn K (.ref C) f = some none ∧ tXf a cls d C f te σ H Q
theorem pe_xfE {X : Cx} {a : Addr} {oe : Obj} {cls : Value} {d : Option Addr} {pn : List (Addr × Obj)} {e : Expr} {te : TE} {pos : Pos} {n : Str} (hz : L2N.Zn cls d oe) (hf : ∃ vs, oe.data = .fields vs)
    (he : PE (X.suite a ((a, oe) :: pn)) e te) (hb : attributeBase e n X.env (eval e X.env) = eval e X.env := by rfl) : PE (X.suite a ((a, oe) :: pn)) (.Attribute e n pos) (tXfE X.K a cls d n te) := by
  refine ⟨fun pins s σ H Q I hh => ?_⟩
  obtain ⟨C, ec, T, hno, hq⟩ := hh
  exact (pe_xf T hno hz.zc hf he hb).run pins s σ H Q I hq
/-- a call that may raise, in a try's body -/
theorem v_callS {σ : L2.St} {H : Hp} {Q : VK} {sp : Sp} {E : L2.St → XK} {t : TA} (h : t σ H fun vs H1 => sp vs H1 Q (E σ)) : tCallS sp E t σ H Q := h
theorem s_tryA {K : PySem.W.Frag} {c : Value} {i : Nat} {tb : WX → TS} {ts : Addr → Value → Option Addr → TS} {Wout : WX} {D : Ends} {σ : L2.St} {H : Hp} (h : tb (wAs K c i ts Wout D) D σ H) : tTryA K c i tb ts Wout D σ H := h
theorem was_y {K : PySem.W.Frag} {c cls : Value} {d : Option Addr} {i : Nat} {ts : Addr → Value → Option Addr → TS} {Wout : WX} {D : Ends} {σ : L2.St} {H : Hp} (he : PySem.W.exmOne K cls c = some true)
    (h : ∀ a, H a = none → ts a cls d { nx := fun σ' H' => D.nx (σ'.set i none) H', rt := D.rt, bk := fun σ' H' => D.bk (σ'.set i none) H', ct := fun σ' H' => D.ct (σ'.set i none) H' } (σ.set i (some (.ref a))) H) : wAs K c i ts Wout D cls d σ H :=
  ⟨true, he, fun _ => h, fun z => Bool.noConfusion z⟩
/-- what is asked of an error class of which an error is handled -/
structure ErrF (K : PySem.W.Frag) (C : Addr) (b : Str → Bool) : Prop where
  kit : KitF K C b
  exc : ExcC K C
  xf : XfC K C
  nest : PySem.W.exmOne K (.ref C) (.ref (He.ga K "NestError")) = some true
section
variable {K : PySem.W.Frag} {a C : Addr} {d : Option Addr} {te : TE} {σ : L2.St} {H : Hp} {Q : VK} {b : Str → Bool} {n : Str} {cls : Value}
theorem c_kd (F : KitF K C b) (G : ExcC K C) (h : te σ H fun x H1 => x = .ref a ∧ (∀ dd, d = some dd → ∃ fs, H1 dd = some (.xd fs)) ∧ ∀ (l : Addr) (H' : Hp), Same H1 H' → H' l = some (.lst (sel (kindsAll b))) → Q (.ref l) H') (hv : ∃ i, te = tVar i) : tKd K (.ref C) a d te σ H Q := by
  refine ⟨C, b, rfl, F, G, v_call (v_cons ?_)⟩
  obtain ⟨i, rfl⟩ := hv
  obtain ⟨v, e, e1, h1, h2⟩ := h
  subst e1
  exact ⟨_, e, rfl, h1, h2⟩
theorem c_xf (T : XfC K C) (hno : PySem.W.findIn K (.ref C) n = some none) (h : te σ H fun x H1 => x = .ref a ∧ ∃ (dd : Addr) (fs : List (Str × V)) (v : V), d = some dd ∧ H1 dd = some (.xd fs) ∧ fs.lookup n = some v ∧ Q v H1) (hv : ∃ i, te = tVar i) : tXfE K a (.ref C) d n te σ H Q := by
  refine ⟨C, rfl, T, hno, ?_⟩
  obtain ⟨i, rfl⟩ := hv
  obtain ⟨v, e, e1, h1⟩ := h
  subst e1
  exact ⟨_, e, rfl, rfl, h1⟩
end
def dV : V → DT
  | .int i => .int i
  | .bl b => .bl b
  | .str s => .str s
  | _ => .non
theorem is_scl {H : Hp} {v : V} (h : Scl v) : Is H v (dV v) := by
  cases v with
  | int i => exact .int i
  | bl i => exact .bl i
  | str i => exact .str i
  | non => exact .non
  | _ => exact h.elim
theorem dep_dV (v : V) : (dV v).dep = 0 := by cases v <;> rfl
theorem ni_bad {lo hi : Int} {v : V} (h : NI lo hi v) : inR lo hi v = false ∧ Scl v := by
  rcases h with ⟨i, rfl, h⟩ | ⟨b, rfl⟩ | rfl | ⟨s, rfl⟩
  · refine ⟨?_, trivial⟩
    unfold inR
    exact decide_eq_false (by omega)
  · exact ⟨rfl, trivial⟩
  · exact ⟨rfl, trivial⟩
  · exact ⟨rfl, trivial⟩
end NW
namespace NW
open PySem PySem.Spec PyProof.Rows L2
open C8 (tCut pss_cut)
def dS3 (a b c : Str) : DT := .lst [.str a, .str b, .str c]
theorem is_s3 {H : Hp} {p : Addr} {a b c : Str} (h : H p = some (.lst [.str a, .str b, .str c])) : Is H (.ref p) (dS3 a b c) := .lst h (.cons (.str _) (.cons (.str _) (.cons (.str _) .nil))) (show 3 ≤ 1000000 by decide)
local macro_rules | `(tactic| walk_at "nw") => `(tactic| first
  | with_reducible refine s_seq ?_
  | with_reducible refine s_asg ?_
  | with_reducible refine s_if ?_
  | with_reducible refine s_ret ?_
  | with_reducible refine s_drop ?_
  | with_reducible refine v_var0 ?_
  | with_reducible refine s_name0 ?_
  | with_reducible refine v_aug0 ?_
  | with_reducible refine v_var1 ?_
  | with_reducible refine s_name1 ?_
  | with_reducible refine v_aug1 ?_
  | with_reducible refine v_var2 ?_
  | with_reducible refine s_name2 ?_
  | with_reducible refine v_aug2 ?_
  | with_reducible refine v_var3 ?_
  | with_reducible refine s_name3 ?_
  | with_reducible refine v_aug3 ?_
  | with_reducible refine v_var4 ?_
  | with_reducible refine s_name4 ?_
  | with_reducible refine v_aug4 ?_
  | with_reducible refine v_var5 ?_
  | with_reducible refine s_name5 ?_
  | with_reducible refine v_aug5 ?_
  | with_reducible refine v_var6 ?_
  | with_reducible refine s_name6 ?_
  | with_reducible refine v_aug6 ?_
  | with_reducible refine v_var7 ?_
  | with_reducible refine s_name7 ?_
  | with_reducible refine v_aug7 ?_
  | with_reducible refine v_var8 ?_
  | with_reducible refine s_name8 ?_
  | with_reducible refine v_aug8 ?_
  | with_reducible refine v_var9 ?_
  | with_reducible refine s_name9 ?_
  | with_reducible refine v_aug9 ?_
  | with_reducible refine v_var10 ?_
  | with_reducible refine s_name10 ?_
  | with_reducible refine v_aug10 ?_
  | with_reducible refine v_var11 ?_
  | with_reducible refine s_name11 ?_
  | with_reducible refine v_aug11 ?_
  | with_reducible refine v_var12 ?_
  | with_reducible refine s_name12 ?_
  | with_reducible refine v_aug12 ?_
  | with_reducible refine v_var13 ?_
  | with_reducible refine s_name13 ?_
  | with_reducible refine v_aug13 ?_
  | with_reducible refine v_var14 ?_
  | with_reducible refine s_name14 ?_
  | with_reducible refine v_aug14 ?_
  | with_reducible refine v_var15 ?_
  | with_reducible refine s_name15 ?_
  | with_reducible refine v_aug15 ?_
  | with_reducible refine v_c ?_
  | with_reducible refine v_op ?_
  | with_reducible refine v_cons ?_
  | with_reducible refine v_nil ?_
  | with_reducible refine v_cb ?_
  | with_reducible refine v_call ?_
  | with_reducible refine c_test ?_
  | with_reducible refine c_bl ?_
  | with_reducible refine c_and ?_
  | with_reducible refine c_or ?_
  | with_reducible refine c_not ?_
  | with_reducible refine v_augS ?_
  | with_reducible refine v_sub ?_
  | with_reducible refine add_ii ?_
  | with_reducible refine sub_ii ?_
  | with_reducible refine iadd_ii ?_
  | with_reducible refine lt_ii ?_
  | with_reducible refine le_ii ?_
  | with_reducible refine gt_ii ?_
  | with_reducible refine ge_ii ?_
  | with_reducible refine eq_ii ?_
  | with_reducible refine ne_ii ?_
  | with_reducible refine int_i ?_
  | with_reducible refine abs_i ?_
  | with_reducible refine max_i ?_
  | with_reducible refine min_i ?_
  | with_reducible refine mul_r (by omega) (by omega) ?_
  | with_reducible refine mul_l (by omega) (by omega) ?_
  | with_reducible refine ix_m0 (by assumption) ?_
  | with_reducible refine get_m0 (by assumption) ?_
  | with_reducible refine ix_m1 (by assumption) ?_
  | with_reducible refine get_m1 (by assumption) ?_
  | with_reducible refine ix_m2 (by assumption) ?_
  | with_reducible refine get_m2 (by assumption) ?_
  | with_reducible refine ix_m3 (by assumption) ?_
  | with_reducible refine get_m3 (by assumption) ?_
  | with_reducible refine ix_m4 (by assumption) ?_
  | with_reducible refine get_m4 (by assumption) ?_
  | with_reducible refine ix_m5 (by assumption) ?_
  | with_reducible refine get_m5 (by assumption) ?_
  | (with_reducible refine st_set1 (by assumption) (by assumption) ?_; intro H1 hs1 kp1)
  | (with_reducible refine st_set2 (by assumption) (by assumption) ?_; intro H1 hs1 kp1)
  | (with_reducible refine st_set3 (by assumption) (by assumption) ?_; intro H1 hs1 kp1)
  | (with_reducible refine st_set4 (by assumption) (by assumption) ?_; intro H1 hs1 kp1)
  | (with_reducible refine st_set5 (by assumption) (by assumption) ?_; intro H1 hs1 kp1)
  | with_reducible refine len_m (by assumption) ?_
  | with_reducible refine s_for1 ?_
  | with_reducible refine s_forL ?_
  | with_reducible refine rng1 (by omega) (by omega) ?_
  | with_reducible refine s_next ?_
  | with_reducible refine s_break ?_
  | with_reducible refine s_cont ?_
  | with_reducible refine isi_non_bool ?_
  | with_reducible refine isi_non_int ?_
  | with_reducible refine isi_non_str ?_
  | with_reducible refine isi_non_list ?_
  | with_reducible refine isi_non_tuple ?_
  | with_reducible refine isi_non_dict ?_
  | with_reducible refine isi_non_seq (by assumption) ?_
  | with_reducible refine isi_bl_bool ?_
  | with_reducible refine isi_bl_int ?_
  | with_reducible refine isi_bl_str ?_
  | with_reducible refine isi_bl_list ?_
  | with_reducible refine isi_bl_tuple ?_
  | with_reducible refine isi_bl_dict ?_
  | with_reducible refine isi_bl_seq (by assumption) ?_
  | with_reducible refine isi_int_bool ?_
  | with_reducible refine isi_int_int ?_
  | with_reducible refine isi_int_str ?_
  | with_reducible refine isi_int_list ?_
  | with_reducible refine isi_int_tuple ?_
  | with_reducible refine isi_int_dict ?_
  | with_reducible refine isi_int_seq (by assumption) ?_
  | with_reducible refine isi_str_bool ?_
  | with_reducible refine isi_str_int ?_
  | with_reducible refine isi_str_str ?_
  | with_reducible refine isi_str_list ?_
  | with_reducible refine isi_str_tuple ?_
  | with_reducible refine isi_str_dict ?_
  | with_reducible refine isi_str_seq (by assumption) ?_
  | with_reducible refine isi_lst_bool (by assumption) (by assumption) ?_
  | with_reducible refine isi_lst_int (by assumption) (by assumption) ?_
  | with_reducible refine isi_lst_str (by assumption) (by assumption) ?_
  | with_reducible refine isi_lst_list (by assumption) (by assumption) ?_
  | with_reducible refine isi_lst_tuple (by assumption) (by assumption) ?_
  | with_reducible refine isi_lst_dict (by assumption) (by assumption) ?_
  | with_reducible refine isi_lst_seq (by assumption) (by assumption) (by assumption) ?_
  | with_reducible refine isi_tup_bool (by assumption) (by assumption) ?_
  | with_reducible refine isi_tup_int (by assumption) (by assumption) ?_
  | with_reducible refine isi_tup_str (by assumption) (by assumption) ?_
  | with_reducible refine isi_tup_list (by assumption) (by assumption) ?_
  | with_reducible refine isi_tup_tuple (by assumption) (by assumption) ?_
  | with_reducible refine isi_tup_dict (by assumption) (by assumption) ?_
  | with_reducible refine isi_tup_seq (by assumption) (by assumption) (by assumption) ?_
  | with_reducible refine isi_dK_bool (by assumption) (by assumption) ?_
  | with_reducible refine isi_dK_int (by assumption) (by assumption) ?_
  | with_reducible refine isi_dK_str (by assumption) (by assumption) ?_
  | with_reducible refine isi_dK_list (by assumption) (by assumption) ?_
  | with_reducible refine isi_dK_tuple (by assumption) (by assumption) ?_
  | with_reducible refine isi_dK_dict (by assumption) (by assumption) ?_
  | with_reducible refine isi_dK_seq (by assumption) (by assumption) (by assumption) ?_
  | with_reducible refine eq_bb ?_
  | with_reducible refine eq_ss ?_
  | with_reducible refine ev_isN ?_
  | with_reducible refine ev_tB ?_
  | with_reducible refine ev_and ?_
  | with_reducible refine ev_or ?_
  | with_reducible refine ev_not ?_
  | with_reducible refine c_tru ?_
  | with_reducible refine tru_bl ?_
  | with_reducible refine if_nt ?_
  | with_reducible refine if_nf ?_
  | with_reducible refine tup_new ?_
  | with_reducible refine lst_new ?_
  | with_reducible refine len_ms (by assumption) (by assumption) ?_
  | with_reducible refine len_ts (by assumption) (by assumption) ?_
  | ((with_reducible refine lit_len ?_ ?_); (focus (first | decide | (simp; done) | (simp; omega))))
  | (with_reducible refine new_st (by assumption) (by assumption) ?_; intro q1 H1 hq1 he1 hn1 kp1 hS1 sm1)
  | (with_reducible refine new_same (by assumption) ?_; intro q1 H1 hq1 he1 sm1 hs1)
  | with_reducible refine if_dT rfl ?_
  | ((with_reducible refine if_dF ?_ ?_); focus (intro z; cases z; done))
  | with_reducible refine if_t ?_
  | with_reducible refine if_f ?_
  | ((with_reducible refine c_take (by assumption) (by assumption) ?_ ?_); (focus omega); intro r1 H1 hS1 kp1 h01 h11)
  | with_reducible refine ev_chain ?_
  | ((with_reducible refine c_number (by assumption) (by assumption) ?_ ?_); (focus omega); intro r1 H1 hS1 kp1 h01 h11)
  | ((with_reducible refine c_pick (by assumption) (by assumption) (by assumption) (by assumption) ?_ ?_); (focus (simp; done)); intro r1 H1 hS1 kp1 kk1 h01)
  | with_reducible refine v_bm ?_
  | with_reducible refine v_sl ?_
  | with_reducible refine s_lc1 ?_
  | with_reducible refine s_lcL ?_
  | (with_reducible refine lc_kept ?_ rfl)
  | with_reducible refine c_yes ?_
  | with_reducible refine v_nopart ?_
  | with_reducible refine v_part ?_
  | with_reducible refine part_i ?_
  | with_reducible refine ty_l (by assumption) ?_)
local macro_rules | `(tactic| walk_at "go") => `(tactic| repeat' (first | walk_at "nw" | ((with_reducible refine if_d ?_ ?_) <;> intro c1) | ((with_reducible refine if_nd ?_ ?_) <;> intro c1)))
end NW
namespace NW
open PySem PySem.Spec PyProof.Rows L2
open C8 (tCut pss_cut)
local macro_rules | `(tactic| walk_at "nw") => `(tactic| first
  | with_reducible refine s_seq ?_
  | with_reducible refine s_asg ?_
  | with_reducible refine s_if ?_
  | with_reducible refine s_ret ?_
  | with_reducible refine s_drop ?_
  | with_reducible refine v_var0 ?_
  | with_reducible refine s_name0 ?_
  | with_reducible refine v_aug0 ?_
  | with_reducible refine v_var1 ?_
  | with_reducible refine s_name1 ?_
  | with_reducible refine v_aug1 ?_
  | with_reducible refine v_var2 ?_
  | with_reducible refine s_name2 ?_
  | with_reducible refine v_aug2 ?_
  | with_reducible refine v_var3 ?_
  | with_reducible refine s_name3 ?_
  | with_reducible refine v_aug3 ?_
  | with_reducible refine v_var4 ?_
  | with_reducible refine s_name4 ?_
  | with_reducible refine v_aug4 ?_
  | with_reducible refine v_var5 ?_
  | with_reducible refine s_name5 ?_
  | with_reducible refine v_aug5 ?_
  | with_reducible refine v_var6 ?_
  | with_reducible refine s_name6 ?_
  | with_reducible refine v_aug6 ?_
  | with_reducible refine v_var7 ?_
  | with_reducible refine s_name7 ?_
  | with_reducible refine v_aug7 ?_
  | with_reducible refine v_var8 ?_
  | with_reducible refine s_name8 ?_
  | with_reducible refine v_aug8 ?_
  | with_reducible refine v_var9 ?_
  | with_reducible refine s_name9 ?_
  | with_reducible refine v_aug9 ?_
  | with_reducible refine v_var10 ?_
  | with_reducible refine s_name10 ?_
  | with_reducible refine v_aug10 ?_
  | with_reducible refine v_var11 ?_
  | with_reducible refine s_name11 ?_
  | with_reducible refine v_aug11 ?_
  | with_reducible refine v_var12 ?_
  | with_reducible refine s_name12 ?_
  | with_reducible refine v_aug12 ?_
  | with_reducible refine v_var13 ?_
  | with_reducible refine s_name13 ?_
  | with_reducible refine v_aug13 ?_
  | with_reducible refine v_var14 ?_
  | with_reducible refine s_name14 ?_
  | with_reducible refine v_aug14 ?_
  | with_reducible refine v_var15 ?_
  | with_reducible refine s_name15 ?_
  | with_reducible refine v_aug15 ?_
  | with_reducible refine v_c ?_
  | with_reducible refine v_op ?_
  | with_reducible refine v_cons ?_
  | with_reducible refine v_nil ?_
  | with_reducible refine v_cb ?_
  | with_reducible refine v_call ?_
  | with_reducible refine c_test ?_
  | with_reducible refine c_bl ?_
  | with_reducible refine c_and ?_
  | with_reducible refine c_or ?_
  | with_reducible refine c_not ?_
  | with_reducible refine v_augS ?_
  | with_reducible refine v_sub ?_
  | with_reducible refine add_ii ?_
  | with_reducible refine sub_ii ?_
  | with_reducible refine iadd_ii ?_
  | with_reducible refine lt_ii ?_
  | with_reducible refine le_ii ?_
  | with_reducible refine gt_ii ?_
  | with_reducible refine ge_ii ?_
  | with_reducible refine eq_ii ?_
  | with_reducible refine ne_ii ?_
  | with_reducible refine int_i ?_
  | with_reducible refine abs_i ?_
  | with_reducible refine max_i ?_
  | with_reducible refine min_i ?_
  | with_reducible refine mul_r (by omega) (by omega) ?_
  | with_reducible refine mul_l (by omega) (by omega) ?_
  | with_reducible refine ix_m0 (by assumption) ?_
  | with_reducible refine get_m0 (by assumption) ?_
  | with_reducible refine ix_m1 (by assumption) ?_
  | with_reducible refine get_m1 (by assumption) ?_
  | with_reducible refine ix_m2 (by assumption) ?_
  | with_reducible refine get_m2 (by assumption) ?_
  | with_reducible refine ix_m3 (by assumption) ?_
  | with_reducible refine get_m3 (by assumption) ?_
  | with_reducible refine ix_m4 (by assumption) ?_
  | with_reducible refine get_m4 (by assumption) ?_
  | with_reducible refine ix_m5 (by assumption) ?_
  | with_reducible refine get_m5 (by assumption) ?_
  | (with_reducible refine st_set1 (by assumption) (by assumption) ?_; intro H1 hs1 kp1)
  | (with_reducible refine st_set2 (by assumption) (by assumption) ?_; intro H1 hs1 kp1)
  | (with_reducible refine st_set3 (by assumption) (by assumption) ?_; intro H1 hs1 kp1)
  | (with_reducible refine st_set4 (by assumption) (by assumption) ?_; intro H1 hs1 kp1)
  | (with_reducible refine st_set5 (by assumption) (by assumption) ?_; intro H1 hs1 kp1)
  | with_reducible refine len_m (by assumption) ?_
  | with_reducible refine s_for1 ?_
  | with_reducible refine s_forL ?_
  | with_reducible refine rng1 (by omega) (by omega) ?_
  | with_reducible refine s_next ?_
  | with_reducible refine s_break ?_
  | with_reducible refine s_cont ?_
  | with_reducible refine isi_non_bool ?_
  | with_reducible refine isi_non_int ?_
  | with_reducible refine isi_non_str ?_
  | with_reducible refine isi_non_list ?_
  | with_reducible refine isi_non_tuple ?_
  | with_reducible refine isi_non_dict ?_
  | with_reducible refine isi_non_seq (by assumption) ?_
  | with_reducible refine isi_bl_bool ?_
  | with_reducible refine isi_bl_int ?_
  | with_reducible refine isi_bl_str ?_
  | with_reducible refine isi_bl_list ?_
  | with_reducible refine isi_bl_tuple ?_
  | with_reducible refine isi_bl_dict ?_
  | with_reducible refine isi_bl_seq (by assumption) ?_
  | with_reducible refine isi_int_bool ?_
  | with_reducible refine isi_int_int ?_
  | with_reducible refine isi_int_str ?_
  | with_reducible refine isi_int_list ?_
  | with_reducible refine isi_int_tuple ?_
  | with_reducible refine isi_int_dict ?_
  | with_reducible refine isi_int_seq (by assumption) ?_
  | with_reducible refine isi_str_bool ?_
  | with_reducible refine isi_str_int ?_
  | with_reducible refine isi_str_str ?_
  | with_reducible refine isi_str_list ?_
  | with_reducible refine isi_str_tuple ?_
  | with_reducible refine isi_str_dict ?_
  | with_reducible refine isi_str_seq (by assumption) ?_
  | with_reducible refine isi_lst_bool (by assumption) (by assumption) ?_
  | with_reducible refine isi_lst_int (by assumption) (by assumption) ?_
  | with_reducible refine isi_lst_str (by assumption) (by assumption) ?_
  | with_reducible refine isi_lst_list (by assumption) (by assumption) ?_
  | with_reducible refine isi_lst_tuple (by assumption) (by assumption) ?_
  | with_reducible refine isi_lst_dict (by assumption) (by assumption) ?_
  | with_reducible refine isi_lst_seq (by assumption) (by assumption) (by assumption) ?_
  | with_reducible refine isi_tup_bool (by assumption) (by assumption) ?_
  | with_reducible refine isi_tup_int (by assumption) (by assumption) ?_
  | with_reducible refine isi_tup_str (by assumption) (by assumption) ?_
  | with_reducible refine isi_tup_list (by assumption) (by assumption) ?_
  | with_reducible refine isi_tup_tuple (by assumption) (by assumption) ?_
  | with_reducible refine isi_tup_dict (by assumption) (by assumption) ?_
  | with_reducible refine isi_tup_seq (by assumption) (by assumption) (by assumption) ?_
  | with_reducible refine isi_dK_bool (by assumption) (by assumption) ?_
  | with_reducible refine isi_dK_int (by assumption) (by assumption) ?_
  | with_reducible refine isi_dK_str (by assumption) (by assumption) ?_
  | with_reducible refine isi_dK_list (by assumption) (by assumption) ?_
  | with_reducible refine isi_dK_tuple (by assumption) (by assumption) ?_
  | with_reducible refine isi_dK_dict (by assumption) (by assumption) ?_
  | with_reducible refine isi_dK_seq (by assumption) (by assumption) (by assumption) ?_
  | with_reducible refine eq_bb ?_
  | with_reducible refine eq_ss ?_
  | with_reducible refine ev_isN ?_
  | with_reducible refine ev_tB ?_
  | with_reducible refine ev_and ?_
  | with_reducible refine ev_or ?_
  | with_reducible refine ev_not ?_
  | with_reducible refine c_tru ?_
  | with_reducible refine tru_bl ?_
  | with_reducible refine if_nt ?_
  | with_reducible refine if_nf ?_
  | with_reducible refine tup_new ?_
  | with_reducible refine lst_new ?_
  | with_reducible refine len_ms (by assumption) (by assumption) ?_
  | with_reducible refine len_ts (by assumption) (by assumption) ?_
  | ((with_reducible refine lit_len ?_ ?_); (focus (first | decide | (simp; done) | (simp; omega))))
  | (with_reducible refine new_st (by assumption) (by assumption) ?_; intro q1 H1 hq1 he1 hn1 kp1 hS1 sm1)
  | (with_reducible refine new_same (by assumption) ?_; intro q1 H1 hq1 he1 sm1 hs1)
  | with_reducible refine if_dT rfl ?_
  | ((with_reducible refine if_dF ?_ ?_); focus (intro z; cases z; done))
  | with_reducible refine if_t ?_
  | with_reducible refine if_f ?_
  | ((with_reducible refine c_take (by assumption) (by assumption) ?_ ?_); (focus omega); intro r1 H1 hS1 kp1 h01 h11)
  | with_reducible refine ev_chain ?_
  | ((with_reducible refine c_number (by assumption) (by assumption) ?_ ?_); (focus omega); intro r1 H1 hS1 kp1 h01 h11)
  | ((with_reducible refine c_pick (by assumption) (by assumption) (by assumption) (by assumption) ?_ ?_); (focus (simp; done)); intro r1 H1 hS1 kp1 kk1 h01)
  | with_reducible refine v_bm ?_
  | with_reducible refine v_sl ?_
  | with_reducible refine s_lc1 ?_
  | with_reducible refine s_lcL ?_
  | (with_reducible refine lc_kept ?_ rfl)
  | with_reducible refine c_yes ?_
  | with_reducible refine v_nopart ?_
  | with_reducible refine v_part ?_
  | with_reducible refine part_i ?_
  | with_reducible refine ty_l (by assumption) ?_)
local macro_rules | `(tactic| walk_at "go") => `(tactic| repeat' (first | walk_at "nw" | ((with_reducible refine if_d ?_ ?_) <;> intro c1) | ((with_reducible refine if_nd ?_ ?_) <;> intro c1)))
end NW
namespace NW
open PySem PySem.Spec PyProof.Rows L2
section
variable {K : PySem.W.Frag} {C : Addr} {b : Str → Bool}
theorem oexK_ok (q : oexK K C = true) : ∃ nm q N bs bm sn sub ab col dd k0 k1 k2 k3 k5, K.lookup C = some (excClassObj nm q C N bs bm true sn sub ab col dd k0 k1 k2 k3 k5 "ValueError.__new__") ∧ PySem.HandSPX.refsVE bm = true := by
  unfold oexK at q
  split at q
  · rename_i dd cd sl ho
    split at q
    · rename_i C' bm k0 k1 k2 k3 n k5 hm hs
      simp only [Bool.and_eq_true, beq_iff_eq, Bool.not_eq_true'] at q
      obtain ⟨⟨⟨⟨rfl, rfl⟩, hdel⟩, hdi⟩, ht⟩ := q
      obtain ⟨nm, bs, mro, ns, qn, hd, sn, sub, ab, col, del⟩ := cd
      dsimp only at hm hdel hdi
      subst hm hdel hdi
      have hsl : sl = #[k0, k1, k2, k3, some (.builtin "ValueError.__new__"), k5] := by
        obtain ⟨l⟩ := sl
        simp only at hs
        rw [hs]
      subst hsl
      exact ⟨nm, qn, ns, bs, bm, sn, sub, ab, col, dd, k0, k1, k2, k3, k5, ho, ht⟩
    · cases q
  · cases q
theorem oexB_ok (h : oexB K C = true) : OexC K C := by
  obtain ⟨h1, h⟩ := He.ba h
  obtain ⟨h2, h⟩ := He.ba h
  obtain ⟨h3, h⟩ := He.ba h
  obtain ⟨h4, h5⟩ := He.ba h
  exact ⟨oexK_ok h1, He.eqO_ok h2, of_decide_eq_true h3, of_decide_eq_true h4, h5⟩
theorem kitFB_ok (h : kitFB K C b = true) : KitF K C b := by
  obtain ⟨h1, h2⟩ := He.ba h
  exact ⟨of_decide_eq_true h1, fun n hn => of_decide_eq_true (List.all_eq_true.mp h2 n hn)⟩
theorem excCB_ok (h : excCB K C = true) : ExcC K C := by
  obtain ⟨h1, h⟩ := He.ba h
  obtain ⟨h2, h⟩ := He.ba h
  obtain ⟨h3, h⟩ := He.ba h
  obtain ⟨h4, h⟩ := He.ba h
  obtain ⟨h5, h⟩ := He.ba h
  obtain ⟨h6, h⟩ := He.ba h
  obtain ⟨h7, h8⟩ := He.ba h
  exact ⟨He.eqO_ok h1, He.eqO_ok h2, of_decide_eq_true h3, h4, He.eqO_ok h5, He.eqO_ok h6, of_decide_eq_true h7, of_decide_eq_true h8⟩
theorem errFB_ok (h : errFB K C b = true) : ErrF K C b := by
  obtain ⟨h1, h⟩ := He.ba h
  obtain ⟨h2, h⟩ := He.ba h
  obtain ⟨h3, h4⟩ := He.ba h
  exact ⟨kitFB_ok h1, excCB_ok h2, xfB_ok h3, of_decide_eq_true h4⟩
theorem err1_ok {x fl q : Str} {params : Arguments} {body : List Stmt} {scope : Scope} (h : oexB K (He.ga K x) = true) (hi : iniB K (He.ga K x) = true) (hn : He.eqO (PySem.W.findIn K (.ref (He.ga K x)) fl) (some none) = true)
    (hd : ∃ fd, FunD K "__init__" q params body scope [] [] (He.ma K (He.ga K x) "__init__") fd) : Err1 K (He.ga K x) q fl params body scope := by
  obtain ⟨h1, h2⟩ := He.ba hi
  obtain ⟨fd, F⟩ := hd
  exact ⟨oexB_ok h, He.eqO_ok hn, He.ma K (He.ga K x) "__init__", fd, He.eqO_ok h1, of_decide_eq_true h2, F⟩
end
/-- the law: nothing is let out -/
theorem law_of {P : Program} {w : World} {K : PySem.W.Frag} {mg : Str → Option Value} {base : Heap} {x : Str} {params : Arguments} {body : List Stmt} {scope : Scope} {f : Addr} {fd : FuncData} {N ps : List Str} {k : Nat} {sp : Sp} {t : TS} (F : FunD K x x params body scope [] [] f fd) (S : FnScope N ps scope) (len : ∀ vs H Q E, sp vs H Q E → vs.length = ps.length)
    (d : ∀ (cdv : Value) (A : Around) (outer : List Env) (s : Shared) (H : Hp) (E : XK), Room k (A.deeper (envOfC x scope s.heap.objs.size f cdv)) → PSs (cxOf CX0 P w K mg base N x scope f cdv A outer s H E).nox body t)
    (pure_ : ∀ vs H Q E, sp vs H Q E → t { nx := fun _ H' => Q .non H', rt := Q } (start N vs) H) : FnOk P w K mg base CX0 (k + 1) f fd ps sp :=
  F.ok S len fun cdv A outer s H vs Q E hr h => ⟨t, PSs.nox (d cdv A outer s H E hr), pure_ vs H Q E h⟩
theorem ref_inj {a b : Addr} (h : some (Value.ref a) = some (Value.ref b)) : a = b := by
  cases h
  rfl
theorem okAt {l : List Bool} (h : l.all id = true) (i : Nat) {b : Bool} (e : l[i]? = some b := by rfl) : b = true := List.all_eq_true.mp h b (List.mem_of_getElem? e)
end NW
namespace NW
open PySem PySem.Spec PyProof.Rows L2 PySem.W PySem.W.KIN
theorem wp_textL {M : Model} {A : Around} {E : Value → Shared → Prop} {s : Shared} {Q : Value → Shared → Prop} {v : Value} {text : List Nat} {n : Int} (hd : s.heap.NoDigits)
    (hr : (int_private% "readNumeral") (if (text.takeWhile (· != 0)).length ≤ 640 then 0 else 4300) 10 (text.takeWhile (· != 0)) = (int_private% "Numeral.value") n)
    (ha : ((text.takeWhile (· != 0)).length == text.length) = true) (h : Q (.int n s.toks) { s with toks := s.toks + 1 }) :
    wpAny M A ((int_private% "intFromText") v text 10) Q E s := by
  by_cases hl : (text.takeWhile (· != 0)).length ≤ 640
  · rw [if_pos hl] at hr
    exact wp_text hl hr ha h
  · rw [if_neg hl] at hr
    obtain ⟨mc, hns, hnone⟩ := hd
    have lim : ∀ {R : Nat → Shared → Prop}, R 4300 s → wpAny M A Builtin.intMaxStrDigits R E s := fun {R} q => by
      unfold Builtin.intMaxStrDigits
      refine wpAny_bind (wpAny_nsGet hns ?_)
      rw [hnone]
      exact wpAny_pure q
    obtain ⟨hp, g, d, tk, os⟩ := s
    wp_step
    rw [if_neg hl]
    refine wpAny_bind (lim ?_)
    dsimp only
    rw [hr]
    dsimp only
    repeat (any_goals (first
      | assumption
      | (with_reducible refine wpAny_ite_true (decide_eq_true ha) ?_)
      | wp_step))
set_option maxHeartbeats 4000000 in
theorem call_textL {prog : Program} {w : World} {A : Around} {E : Value → Shared → Prop} {s : Shared} {Q : Value → Shared → Prop} {x : Str} {u : Tok} {n : Int} (hd : s.heap.NoDigits) (hl : x.length ≤ sizeLine) (hn : PySem.intText? x = some n)
    (h : Q (.int n s.toks) { s with toks := s.toks + 1 }) : wpAny (model prog w) A (call (.type "int") [.str x u]) Q E s := by
  have g : Meets (Builtin.«int.__new__» ⟨[.type "int", .str x u], []⟩) (fun A R s => s.heap.NoDigits ∧ R (.ok (.ret (.int n s.toks))) { s with toks := s.toks + 1 }) := .of_wp fun prog w A R s hz => by
    obtain ⟨hd, hq⟩ := hz
    obtain ⟨hp, g, d, tk, os⟩ := s
    have hd' : hp.NoDigits := hd
    have f1 := F.conv_sub_int
    have f2 := F.madeHere_int
    have f3 := str_int
    have f4 := str_idx
    have f5 := str_trunc
    have f6 : typeOf (.str x u) = pure (.type "str") := rfl
    have hr : (int_private% "readNumeral") (if (numSeenOf x).length ≤ 640 then 0 else 4300) 10 (numSeenOf x) = (int_private% "Numeral.value") n ∧ ((numSeenOf x).length == (numTextOf x).length) = true := by
      rcases readAny x hl with ⟨m, h1, h2, h3⟩ | ⟨h1, _⟩
      · rw [hn] at h1
        injection h1 with h1
        subst h1
        exact ⟨h3, h2⟩
      · rw [hn] at h1
        cases h1
    have hk := Hid.mk hr
    have hq' := Hid.mk hq
    clear hr hl hn hq hd h
    repeat (any_goals (first
      | assumption
      | ((with_reducible show wpAny _ _ ((int_private% "intFromText") _ _ _) _ _ _); refine wp_textL hd' hk.out.1 hk.out.2 ?_)
      | wp_step))
    all_goals first | exact ⟨_, rfl, hq'.out⟩ | skip
  exact call_int_1 g ⟨hd, rfl, h⟩
/-- the interpreter's own limit on digits stands as laid -/
theorem digK_ok {K : PySem.W.Frag} {h : Heap} (X : K.In h) (c : digK K = true) : h.NoDigits := by
  obtain ⟨c1, c2⟩ := He.ba c
  exact ⟨_, .of_isNs (PySem.W.isNs_of_in X c1), PySem.W.nsMap_none_of_in X c1 (He.eqO_ok c2)⟩
def rIntL : List V → Hp → VK → Prop := fun xs H Q => ∃ a n, xs = [.str a] ∧ PySem.intText? a = some n ∧ a.length ≤ sizeLine ∧ Q (.int n) H
theorem cIntL {X : Cx} (c : digK X.K = true) : CallR X (.type "int") rIntL := by
  intro pins s σ H xs us Q I rs h
  obtain ⟨a, n, rfl, hn, hl, h⟩ := h
  cases rs with
  | cons r1 rs =>
    cases rs
    obtain ⟨t, rfl⟩ := r1
    exact call_textL (digK_ok I.kIn c) hl hn ⟨.int n, H, I.tok _, ⟨_, rfl⟩, h⟩
end NW
namespace NW
open PySem PySem.Spec PyProof.Rows L2 RT
section
variable {prog : Program} {w : World} {A : Around} {E : Value → Shared → Prop} {s : Shared}
theorem ext_rev {R : Result → Shared → Prop} {it l : Addr} {items : Array Value} (hh : A.handled = none) (hit : s.heap.IsRevIter it l ((items.size : Int) - 1)) (hl : s.heap.IsList l items) (hne : l ≠ it) (hn : items.size ≤ sizeLine)
    (S : Addr) (res : Value) (c₀ : Nat) (hS : s.heap.get? S = some { cls := .type "list", data := .seq #[] c₀ }) (hSi : S ≠ it) (hSl : S ≠ l)
    (hR : ∀ h' tk acc c', (∀ b o, b ≠ S → b ≠ it → s.heap.get? b = some o → h'.get? b = some o) → h'.get? S = some { cls := .type "list", dict := none, data := .seq acc c', slots := #[] } → ItemsOf (fun i v => items[items.size - 1 - i]? = some v) acc items.size → R (.ok (.ret res)) { s with heap := h', toks := tk }) :
    wpAny (model prog w) A.in1 (Builtin.List.listExtendWith (.ref S) (.ref it) res) (fun fin s' => match fin with | .done f => R (.ok f) s' | .again c' => c'.quiet = true ∧ codeAny (model prog w) A c' R s') (fun e s' => R (.error e) s') s := by
  have Wk := (Walks.listRev (prog := prog) (w := w) (A := A.in1) hh it l hne items).toS
  have off : S ∉ [it, l] := by simp [hSi, hSl]
  have ty : s.TypeIs (.ref it) "list_reverseiterator" := hit.typeIs
  have ns : Builtin.List.listSameRef (.ref S) (.ref it) = false := by simp [Builtin.List.listSameRef, hSi]
  unfold Builtin.List.listExtendWith
  refine wpAny_bind (wpAny_typeOf ty ?_)
  rw [if_neg (by rw [ns]; decide)]
  refine wpAny_bind (wpAny_pyIter_revIter hit ?_)
  refine wpAny_bind (wpAny_holding ?_)
  unfold Builtin.List.listLengthHint
  refine wpAny_bind (wpAny_specialOf ty nolen_lri ?_)
  show wpAny _ A.in1 (specialOf (Value.ref it) (Str.ofString "__length_hint__") >>= _) _ _ _
  refine wpAny_bind (wpAny_specialOf ty hint_lri ?_)
  generalize hid : ("list_reverseiterator.__length_hint__" : String) = id0
  wp_delta
  rw [show splitId id0 = some ("list_reverseiterator", "__length_hint__") from by subst hid; decide +kernel]
  subst hid
  refine wpAny_bind (wpAny_isInstance (b := true) ty (by rw [isSubtype_type]; kernel_rfl) ?_)
  refine wpAny_pure ?_
  rw [if_neg (by decide)]
  have e0 : ((items.size : Nat) : Int) - 1 - ((0 : Nat) : Int) = (items.size : Int) - 1 := by omega
  refine wpAny_pure ⟨plainId_quiet F.plain_extend_loop _, codeAny_extend_loopS Wk hn S off res items.size 0 _ #[] c₀ rfl (Nat.zero_le _) ⟨Nat.zero_le _, by rw [e0]; exact hit, hl⟩ hS (ItemsOf.nil _) fun s' acc c' hm hS' hacc => ?_⟩
  rw [Moved.eq_with hm]
  refine hR s'.heap s'.toks acc c' (fun b o h1 h2 e => hm.heap b o (fun hmem => ?_) e) hS' hacc
  rcases List.mem_cons.mp hmem with z | z
  · exact h1 z
  · exact h2 (List.mem_singleton.mp z)
theorem call_list_rev {it l : Addr} {items : Array Value} {Q : Value → Shared → Prop} (hh : A.handled = none) (hit : s.heap.IsRevIter it l ((items.size : Int) - 1)) (hl : s.heap.IsList l items) (hne : l ≠ it) (hn : items.size ≤ sizeLine)
    (hQ : ∀ h' tk acc c', (∀ b o, b ≠ it → s.heap.get? b = some o → h'.get? b = some o) → h'.get? s.heap.objs.size = some { cls := .type "list", dict := none, data := .seq acc c', slots := #[] } → ItemsOf (fun i v => items[items.size - 1 - i]? = some v) acc items.size → Q (.ref s.heap.objs.size) { s with heap := h', toks := tk }) :
    wpAny (model prog w) A (call (.type "list") [.ref it]) Q E s := by
  have li : it < s.heap.objs.size := by
    obtain ⟨o, ho, _⟩ := hit
    exact Heap.lt_size ho
  have ll : l < s.heap.objs.size := by
    obtain ⟨o, ho, _⟩ := hl
    exact Heap.lt_size ho
  refine callType_codes (Q₁ := fun obj s₁ => obj = .ref s.heap.objs.size ∧ s₁ = { s with heap := s.heap.push { cls := .type "list", data := .seq #[] } }) F.called_list (F.typeCall_list_1 _) F.entry_list_init (code_list_new _ ⟨rfl, rfl⟩) fun obj s₁ hz => ?_
  obtain ⟨rfl, rfl⟩ := hz
  have h0 : (s.heap.push { cls := .type "list", data := .seq #[] }).get? s.heap.objs.size = some { cls := .type "list", data := .seq #[] } := Heap.get?_push_size _ rfl
  refine ⟨⟨_, h0, rfl⟩, F.args_list_init_2 _ _, ?_⟩
  show wpAny _ _ (do let old ← Builtin.List.listItems (.ref s.heap.objs.size); Builtin.List.listUpdate (.ref s.heap.objs.size) (fun _ => #[]); letGo old.toList.reverse; Builtin.List.listExtendWith (.ref s.heap.objs.size) (.ref it) .none) _ _ _
  refine wpAny_bind ?_
  unfold Builtin.List.listItems
  refine wpAny_bind (wpAny_seqItems h0 rfl (wpAny_pure ?_))
  show wpAny _ _ (updateSeq s.heap.objs.size (fun _ => #[]) >>= fun _ => letGo (#[] : Array Value).toList.reverse >>= fun _ => Builtin.List.listExtendWith (.ref s.heap.objs.size) (.ref it) .none) _ _ _
  refine wpAny_bind (wpAny_updateSeq h0 rfl ?_)
  obtain ⟨c0, h1⟩ : ∃ c0, ((s.heap.push { cls := .type "list", data := .seq #[] }).update s.heap.objs.size (Obj.mapSeq (fun _ => (#[] : Array Value)))).get? s.heap.objs.size = some { cls := .type "list", data := .seq #[] c0 } := ⟨_, Heap.get?_update_self (Obj.mapSeq (fun _ => (#[] : Array Value))) h0 rfl⟩
  have oth : ∀ b o, b ≠ s.heap.objs.size → (s.heap.push { cls := .type "list", data := .seq #[] }).get? b = some o → ((s.heap.push { cls := .type "list", data := .seq #[] }).update s.heap.objs.size (Obj.mapSeq (fun _ => (#[] : Array Value)))).get? b = some o := fun b o hb e => (Heap.get?_update_other _ _ (Ne.symm hb)).trans e
  have up : ∀ b o, s.heap.get? b = some o → ((s.heap.push { cls := .type "list", data := .seq #[] }).update s.heap.objs.size (Obj.mapSeq (fun _ => (#[] : Array Value)))).get? b = some o := fun b o e => oth b o (Nat.ne_of_lt (Heap.lt_size e)) (Heap.get?_push_of_some _ e)
  refine wpAny_bind (wpAny_letGo ?_)
  refine ext_rev (A := A.in1) (R := wants (fun r s₂ => r = Value.none ∧ Q (Value.ref s.heap.objs.size) s₂) E) (s := { s with heap := (s.heap.push { cls := .type "list", data := .seq #[] }).update s.heap.objs.size (Obj.mapSeq (fun _ => (#[] : Array Value))) }) hh (hit.at fun o e => up _ o e) ?_ hne hn _ _ _ h1 (Nat.ne_of_gt li) (Nat.ne_of_gt ll) fun h' tk acc c' hk hS' hacc => ?_
  · obtain ⟨o, ho, r⟩ := hl
    exact ⟨o, up _ _ ho, r⟩
  · exact ⟨rfl, hQ h' tk acc c' (fun b o hb e => hk b o (Nat.ne_of_lt (Heap.lt_size e)) hb (up b o e)) hS' hacc⟩
end
section
variable {X : Cx}
/-- list(reversed(x)), x a list: a new list -/
def tListRev (K : PySem.W.Frag) (te : TE) : TE := fun σ H Q => te σ H fun v H1 => ∃ (a : Addr) (xs : List V), v = .ref a ∧ SqL K H1 a xs ∧ NewR (.lst xs.reverse) H1 Q
theorem pe_listRev {e : Expr} {te : TE} {p p2 pos pos2 : Pos} (hc : X.calm = true) (hg : Gl X "list") (hm : X.mg "list" = none) (hg2 : Gl X "reversed") (hm2 : X.mg "reversed" = none) (he : PE X e te)
    (hs : starEach [e] X.env = (false, eval e X.env) :: starEach [] X.env := by rfl)
    (hs2 : starEach [.Call (.Name "reversed" p2) [e] [] pos2] X.env = (false, eval (.Call (.Name "reversed" p2) [e] [] pos2) X.env) :: starEach [] X.env := by rfl) :
    PE X (.Call (.Name "list" p) [.Call (.Name "reversed" p2) [e] [] pos2] [] pos) (tListRev X.K te) := by
  refine ⟨fun pn s0 ρ H0 Q I0 h0 => ?_⟩
  refine Call_ (ld_blt I0 hg hm (by decide +kernel) (PyProof.Rows.callWith_type1 (T := "list") (args_cons (Call_ (ld_blt I0 hg2 hm2 PyProof.Rows.boot_reversed (PyProof.Rows.callWith_type1 (args_cons (thn (he.run pn s0 ρ H0 _ I0 h0) fun u s1 hh => args_nil ?_) hs) hs rfl))) hs2) hs2 rfl))
  obtain ⟨v, H1, I1, r1, a, xs, ev, hq, q⟩ := hh
  subst ev
  obtain rfl : u = Value.ref a := r1
  obtain ⟨its, rv, pl, hz⟩ := I1.list hq
  refine call_reversed_list pl.isList (args_nil ?_)
  have k0 : ∀ b o, s1.heap.get? b = some o → (s1.heap.push (revObj a ((its.toArray.size : Int) - 1))).get? b = some o := fun b o z => Heap.get?_push_of_some _ z
  have il := pl.isList
  obtain ⟨ol, hol, _⟩ := id il
  have hne : a ≠ s1.heap.objs.size := Nat.ne_of_lt (Heap.lt_size hol)
  have hn : its.toArray.size ≤ sizeLine := by rw [List.size_toArray, ← rv.length]; exact hz
  refine call_list_rev (s := { s1 with heap := s1.heap.push (revObj a ((its.toArray.size : Int) - 1)) }) (I1.ok.hd hc) ⟨_, Heap.get?_push_size _ rfl, rfl, rfl⟩ (il.push _) hne hn fun h' tk acc c' hk hS hi => ?_
  have sz : (s1.heap.push (revObj a ((its.toArray.size : Int) - 1))).objs.size = s1.heap.objs.size + 1 := Heap.size_push _ _
  have up : s1.heap.objs.size ≤ (s1.heap.push (revObj a ((its.toArray.size : Int) - 1))).objs.size := by rw [sz]; exact Nat.le_succ _
  refine ⟨.ref _, upd H1 (s1.heap.push (revObj a ((its.toArray.size : Int) - 1))).objs.size (.lst xs.reverse), I1.laid (t' := tk) (fun b o z => hk b o (Nat.ne_of_lt (Heap.lt_size z)) (k0 b o z)) up ?_, rfl, q _ (I1.hok.fresh up)⟩
  refine ⟨by rw [List.length_reverse]; exact hz, acc.toList, c', vals_rev rv hi, ?_⟩
  rw [Array.toArray_toList]
  exact hS
end
end NW
namespace NW
open PySem PySem.Spec PyProof.Rows L2
def rMulS : R2 := fun x y H Q => ∃ (a : Str) (k : Nat), x = .str a ∧ y = .int (k : Int) ∧ k ≤ 1000000 ∧ a.length * k ≤ 1000000 ∧ ∀ b : Str, b.cps.toList = (List.replicate k a.cps.toList).flatten → Q (.str b) H
theorem fold_app : ∀ (l : List (Array Nat)) (acc : Array Nat), (l.foldl (· ++ ·) acc).toList = acc.toList ++ (l.map (·.toList)).flatten
  | [], acc => by simp
  | a :: l, acc => by
    rw [List.foldl_cons, fold_app l (acc ++ a)]
    simp
theorem oMulS {X : Cx} : OpR X (binaryOp .Mult) rMulS := by
  intro pn s ρ H x y v u Q I rx ry h
  obtain ⟨a, k, ex, ey, hk, hl, q⟩ := h
  subst ex ey
  obtain ⟨t1, e1⟩ := rx
  obtain ⟨t2, e2⟩ := ry
  subst e1 e2
  have tl : Builtin.Str.tooLong (a.length * k) = false := by
    unfold Builtin.Str.tooLong
    exact decide_eq_false (Nat.not_lt.mpr (Nat.le_trans hl (by decide)))
  refine PySem.P.mul_str (by rw [decide_eq_false (by omega), decide_eq_false (by omega)]; rfl) (fun h1 _ => ?_) (fun _ _ => by rw [Int.toNat_natCast]; exact tl) ?_
  · have hk0 : 0 < k := by omega
    have d : (2 ^ 63 - 1 : Int) / (k : Int) ≥ 1000000 := by
      rw [ge_iff_le, Int.le_ediv_iff_mul_le (by omega)]
      omega
    have e : a.length ≤ 1000000 := Nat.le_trans (Nat.le_mul_of_pos_right _ hk0) hl
    omega
  · have fin : ∀ b : Str, b.cps.toList = (List.replicate k a.cps.toList).flatten → ∀ (t' tk : Nat), EP X pn ρ Q (.str b t') { s with toks := tk } := fun b hb t' tk => ⟨.str b, H, I.tok _, ⟨_, rfl⟩, q b hb⟩
    by_cases c1 : (k : Int) < 1
    · rw [if_pos c1]
      have k0 : k = 0 := by omega
      subst k0
      exact ⟨by decide, fin _ rfl _ _⟩
    · rw [if_neg c1]
      by_cases c2 : ((k : Int) == 1 || a.length == 0) = true
      · rw [if_pos c2]
        refine fin a ?_ t1 s.toks
        rw [Bool.or_eq_true, beq_iff_eq, beq_iff_eq] at c2
        cases c2 with
        | inl z =>
          obtain rfl : k = 1 := by omega
          simp
        | inr z =>
          have z2 : a.cps.toList = [] := List.eq_nil_of_length_eq_zero (by rw [Array.length_toList]; exact z)
          rw [z2]
          simp
      · rw [if_neg c2, Int.toNat_natCast]
        refine ⟨?_, fin _ ?_ _ _⟩
        · show (List.foldl (· ++ ·) #[] (List.replicate k a.cps)).size ≤ sizeLine
          rw [← Array.length_toList, fold_app, List.map_replicate]
          simp only [List.nil_append, List.length_flatten, List.map_replicate, List.sum_replicate_nat, Array.length_toList]
          rw [Nat.mul_comm]
          exact Nat.le_trans hl (by decide)
        · rw [fold_app]
          simp
theorem digits_some {b : Str} (h : ∀ c ∈ b.cps.toList, 48 ≤ c ∧ c ≤ 57) (h1 : b.cps.toList ≠ []) (h2 : b.length ≤ 4300) : ∃ n, PySem.intText? b = some n := ⟨_, intText_digits h h1 h2⟩
def aStr : List V → Hp → VK → Prop := fun xs H Q => ∃ i : Int, xs = [.int i] ∧ i.natAbs.log2 < 1920 ∧ Q (.str (toString i)) H
theorem cStr {X : Cx} : CallR X (.type "str") aStr := call_str_int
theorem str_i {i : Int} {H : Hp} {Q : VK} (h1 : i.natAbs < 2 ^ 300) (h : Q (.str (toString i)) H) : aStr [.int i] H Q := ⟨i, rfl, by
  by_cases z : i.natAbs = 0
  · rw [z]; decide
  · exact Nat.lt_of_lt_of_le ((Nat.log2_lt z).mpr h1) (by decide), h⟩
end NW
namespace NW
open PySem PySem.Spec PyProof.Rows L2
def tMkX (C : Addr) (sp : Sp) (ta : TA) : TE := fun σ H Q => ta σ H fun vs H1 => vs.length ≤ 1000 ∧ ∀ a, H1 a = none → sp (.ref a :: vs) (upd H1 a (exo a C none)) (fun v H2 => v = .non ∧ Q (.ref a) H2) E0
theorem pe_mkX {X : Cx} {x : Str} {C : Addr} {k j : Nat} {ps : List Str} {sp : Sp} {e : Expr} {es : List Expr} {ta : TA} {p pos : Pos} (h : InitOk X.prog X.w X.K X.mg X.base C k ps sp) (hm : X.mg x = some (.ref C)) (hr : Room j X.A) (ha : PA X (e :: es) ta) (hk : k + 1 ≤ j := by decide) (hg : Gl X x := by rfl)
    (hdb : (x == ("__debug__" : Str)) = false := by decide) (he : starEach (e :: es) X.env = (false, eval e X.env) :: starEach es X.env := by rfl) (hpl : (backTo pos (starEach es X.env)).any (·.1) = false := by rfl) : PE X (.Call (.Name x p) (e :: es) [] pos) (tMkX C sp ta) := by
  obtain ⟨T, fI, fd, iC, tI, hb, F1⟩ := h
  refine ⟨fun pn s0 ρ H0 W I0 h0 => ?_⟩
  obtain ⟨nm, q, N, bs, bm, sn, sub, ab, col, dd, k0, k1, k2, k3, k5, lC, rb⟩ := T.cls
  refine wpAny_Call_Name_kw (ld_glob I0 hg hm ?_ hdb)
  refine PySem.W.callWith_K (h₀ := X.base) I0.ok.mod.kin T.kC (thn (ha.run pos pn s0 ρ H0 _ I0 h0) fun us s1 hh => ?_) he hpl
  obtain ⟨vs, H1, I1, r1, hz, q1⟩ := hh
  refine ⟨I1.kIn, ?_⟩
  show wpAny _ _ (call (.ref C) us) _ _ _
  obtain ⟨hp, gs, dr, tk, os⟩ := s1
  let a : Addr := hp.objs.size + 1
  have le : hp.objs.size ≤ a := Nat.le_succ _
  have na : H1 a = none := I1.hok.fresh le
  have q2 := q1 a na
  let h2 : Heap := (hp.push (PySem.W.kdv_tup us)).push (PySem.HandSPX.excO C hp.objs.size)
  have up : ∀ b o, hp.get? b = some o → h2.get? b = some o := fun b o z =>
    Heap.get?_push_of_some _ (Heap.get?_push_of_some _ z)
  have ga : h2.get? a = some (PySem.HandSPX.excO C hp.objs.size) := by
    show ((hp.push (PySem.W.kdv_tup us)).push (PySem.HandSPX.excO C hp.objs.size)).get? (hp.objs.size + 1) = _
    heap_get
  have I2 : Inv X pn ρ (upd H1 a (exo a C none)) ⟨h2, gs, dr, tk, os⟩ := I1.laid (t' := tk) up le (exo_ok ga)
  have r2 : Vals (V.ref a :: vs) (Value.ref a :: us) := .cons rfl r1
  have l2 : (Value.ref a :: us).length = ps.length := by
    have z := r2.length
    rw [F1.len _ _ _ _ q2] at z
    exact z.symm
  have lu : us.length ≤ sizeLine := by
    rw [← Paired.length r1, sizeLine_eq]; omega
  have b2 := hb ⟨h2, gs, dr, tk, os⟩ (Value.ref a :: us) I2.kIn (by rw [List.append_nil]; exact l2)
  rw [List.append_nil] at b2
  have run := F1.run _ X.stack _ _ ⟨Value.ref a :: us, []⟩ (Value.ref a :: us) _ _ E0 ((hr.mono hk).make C us []) (I2.env0.make C us []) b2 r2 q2
  refine wpAny_call (PySem.HandSPX.call_own F.excBase_ValueError (fun Y => PySem.HandSPX.refsVE_contains Y bm rb) (I1.kIn _ _ lC) (PySem.W.looks_findIn I1.kIn iC)
    (fun self => PySem.W.bind_fn I1.kIn self tI) lu (codeAny_mono run fun r s3 q3 => ?_))
  cases r with
  | error er => exact passN pn ρ _ _ er s3 I2 q3
  | ok fl =>
    cases fl with
    | ret u =>
      obtain ⟨v, H2, I3, rv, ev, q4⟩ := I2.after q3
      subst ev
      exact ⟨rv, V.ref a, H2, I3, rfl, q4⟩
    | next => exact False.elim q3
    | brk => exact False.elim q3
    | cont => exact False.elim q3
/-- an error's field -/
def tXv (K : PySem.W.Frag) (n : Str) (te : TE) : TE := fun σ H Q => te σ H fun x H1 => ∃ (a dx C : Addr) (fs : List (Str × V)) (v : V), x = .ref a ∧ H1 a = some (exo a C (some dx)) ∧ H1 dx = some (exd dx fs) ∧ fs.lookup n = some v ∧ XfC K C ∧ PySem.W.findIn K (.ref C) n = some none ∧ Q v H1
theorem pe_xv {X : Cx} {e : Expr} {te : TE} {pos : Pos} {n : Str} (he : PE X e te) (hb : attributeBase e n X.env (eval e X.env) = eval e X.env := by rfl) : PE X (.Attribute e n pos) (tXv X.K n te) := by
  refine ⟨fun pn s ρ H Q I h => ?_⟩
  refine attr_of hb (thn (he.run pn s ρ H _ I h) fun u s1 hh => ?_)
  obtain ⟨x, H1, I1, rx, a, dx, C, fs, v, ex, ea, ed, l, T, hno, q⟩ := hh
  subst ex
  obtain rfl : u = Value.ref a := rx
  have xa : ObjOk X.prog X.w H1 s1.heap a (.ext fun h => ∃ t1 : Addr, h.get? a = some ({ cls := .ref C, dict := some dx, data := .fields #[.ref t1, .none, .none, .none, .bool false, .none] } : Obj)) := I1.hok a _ ea
  have xd : ObjOk X.prog X.w H1 s1.heap dx (.ext fun h => ∃ mA, h.Ns1 dx mA ∧ ∀ f, RelO (fs.lookup f) (mA f)) := I1.hok dx _ ed
  obtain ⟨t1, ga⟩ := xa.1
  obtain ⟨mA, hns, hr⟩ := xd.1
  obtain ⟨od, ho, hl⟩ := lookIn_ns hns
  obtain ⟨u, hu, ru⟩ := RelO.some_of (v := v) (o := mA n) (by rw [← l]; exact hr n)
  have J : PySem.W.InstAt s1.heap a _ C (some od) := ⟨ga, rfl, rfl, ho⟩
  exact HandSPX.exc_get I1.kIn J T.ga T.gg T.exC (PySem.W.findObj_own T.hdC hno rfl (by rw [hl, hu])) (handed_of ru) ⟨v, H1, I1.tok _, ru, q⟩
section
variable {K : PySem.W.Frag} {C : Addr} {fl n : Str} {te : TE} {σ : L2.St} {H H0 : Hp} {Q : VK} {y v : V} {a dx : Addr} {fs : List (Str × V)} {p : Addr} {xs : List V}
def MkV (K : PySem.W.Frag) (C : Addr) (fl : Str) (y : V) (H1 : Hp) (Q : VK) : Prop := ([y] : List V).length ≤ 1000 ∧ ∀ a, H1 a = none → sp_init1 K C fl (.ref a :: [y]) (upd H1 a (exo a C none)) (fun v H2 => v = .non ∧ Q (.ref a) H2) E0
theorem s_mkX1 (h : te σ H fun y H1 => MkV K C fl y H1 Q) : tMkX C (sp_init1 K C fl) (tCons te tNil) σ H Q := h
theorem mk_v {H1 : Hp} (h : ∀ (a dx : Addr) (H2 : Hp), Same H1 H2 → H1 a = none → H2 a = some (exo a C (some dx)) → H2 dx = some (exd dx [(fl, y)]) → Q (.ref a) H2) : MkV K C fl y H1 Q := by
  refine ⟨by show 1 ≤ 1000; decide, fun a ha => ⟨a, y, rfl, upd_same, fun dx hdx hne => ⟨rfl, ?_⟩⟩⟩
  rw [upd_ne hne] at hdx
  refine h a dx _ (fun b o e => ?_) ha upd_same ?_
  · have b1 : b ≠ a := ne_of_none e ha
    have b2 : b ≠ dx := ne_of_none e hdx
    rw [upd_ne b1, upd_ne b2, upd_ne b1]
    exact e
  · rw [upd_ne hne]; exact upd_same
theorem s_xv (h : te σ H fun x H1 => ∃ (a dx C : Addr) (fs : List (Str × V)) (v : V), x = .ref a ∧ H1 a = some (exo a C (some dx)) ∧ H1 dx = some (exd dx fs) ∧ fs.lookup n = some v ∧ XfC K C ∧ PySem.W.findIn K (.ref C) n = some none ∧ Q v H1) : tXv K n te σ H Q := h
end
end NW
namespace NW
open PySem PySem.Spec PyProof.Rows L2
open C8 (tCut pss_cut)
def k_wgt : List Str := ["ValueError", "NestError", "BadWeight"]
theorem sel_wgt : sel (kindsAll (inL k_wgt)) = [.str "ValueError", .str "NestError", .str "BadWeight"] := by
  have e : (kindsAll (inL k_wgt)).filter (·.2) = [(("ValueError" : Str), true), (("NestError" : Str), true), (("BadWeight" : Str), true)] := by decide +kernel
  unfold sel
  rw [e]; rfl
def sp_valid_weight (K : PySem.W.Frag) : Sp := fun vs H Q E => ∃ v : V, vs = [v] ∧ Scl v ∧ (inR 1 1000000000 v = true → Q v H) ∧ (inR 1 1000000000 v = false → ∀ dd, H dd = none → E (.ref (He.ga K "BadWeight")) (some dd) (upd H dd (.xd [("weight", v)])))
theorem l_valid_weight (K : PySem.W.Frag) : ∀ vs H Q E, sp_valid_weight K vs H Q E → vs.length = 1 := fun _ _ _ _ ⟨_, e, _⟩ => by rw [e]; rfl
def t_valid_weight (K : PySem.W.Frag) (E : XK) : TS :=
  (tSeq (tIfS (tNot (tTru K (tCall sp_is_number [] E0 (tCons (tVar 0) (tCons (tC (.int 1)) (tCons (tC (.int 1000000000)) tNil)))))) (tRaise E (tMkO (He.ga K "BadWeight") (sp_init1 K (He.ga K "BadWeight") "weight") [] (tCons (tVar 0) tNil))) tNext)
    (tRet (tVar 0)))
local macro_rules | `(tactic| walk_at "nw") => `(tactic| first
  | with_reducible refine s_seq ?_
  | with_reducible refine s_asg ?_
  | with_reducible refine s_if ?_
  | with_reducible refine s_ret ?_
  | with_reducible refine s_drop ?_
  | with_reducible refine v_var0 ?_
  | with_reducible refine s_name0 ?_
  | with_reducible refine v_aug0 ?_
  | with_reducible refine v_var1 ?_
  | with_reducible refine s_name1 ?_
  | with_reducible refine v_aug1 ?_
  | with_reducible refine v_var2 ?_
  | with_reducible refine s_name2 ?_
  | with_reducible refine v_aug2 ?_
  | with_reducible refine v_var3 ?_
  | with_reducible refine s_name3 ?_
  | with_reducible refine v_aug3 ?_
  | with_reducible refine v_var4 ?_
  | with_reducible refine s_name4 ?_
  | with_reducible refine v_aug4 ?_
  | with_reducible refine v_var5 ?_
  | with_reducible refine s_name5 ?_
  | with_reducible refine v_aug5 ?_
  | with_reducible refine v_var6 ?_
  | with_reducible refine s_name6 ?_
  | with_reducible refine v_aug6 ?_
  | with_reducible refine v_var7 ?_
  | with_reducible refine s_name7 ?_
  | with_reducible refine v_aug7 ?_
  | with_reducible refine v_var8 ?_
  | with_reducible refine s_name8 ?_
  | with_reducible refine v_aug8 ?_
  | with_reducible refine v_var9 ?_
  | with_reducible refine s_name9 ?_
  | with_reducible refine v_aug9 ?_
  | with_reducible refine v_var10 ?_
  | with_reducible refine s_name10 ?_
  | with_reducible refine v_aug10 ?_
  | with_reducible refine v_var11 ?_
  | with_reducible refine s_name11 ?_
  | with_reducible refine v_aug11 ?_
  | with_reducible refine v_var12 ?_
  | with_reducible refine s_name12 ?_
  | with_reducible refine v_aug12 ?_
  | with_reducible refine v_var13 ?_
  | with_reducible refine s_name13 ?_
  | with_reducible refine v_aug13 ?_
  | with_reducible refine v_var14 ?_
  | with_reducible refine s_name14 ?_
  | with_reducible refine v_aug14 ?_
  | with_reducible refine v_var15 ?_
  | with_reducible refine s_name15 ?_
  | with_reducible refine v_aug15 ?_
  | with_reducible refine v_c ?_
  | with_reducible refine v_op ?_
  | with_reducible refine v_cons ?_
  | with_reducible refine v_nil ?_
  | with_reducible refine v_cb ?_
  | with_reducible refine v_call ?_
  | with_reducible refine c_test ?_
  | with_reducible refine c_bl ?_
  | with_reducible refine c_and ?_
  | with_reducible refine c_or ?_
  | with_reducible refine c_not ?_
  | with_reducible refine v_augS ?_
  | with_reducible refine v_sub ?_
  | with_reducible refine add_ii ?_
  | with_reducible refine sub_ii ?_
  | with_reducible refine iadd_ii ?_
  | with_reducible refine lt_ii ?_
  | with_reducible refine le_ii ?_
  | with_reducible refine gt_ii ?_
  | with_reducible refine ge_ii ?_
  | with_reducible refine eq_ii ?_
  | with_reducible refine ne_ii ?_
  | with_reducible refine int_i ?_
  | with_reducible refine abs_i ?_
  | with_reducible refine max_i ?_
  | with_reducible refine min_i ?_
  | with_reducible refine mul_r (by omega) (by omega) ?_
  | with_reducible refine mul_l (by omega) (by omega) ?_
  | with_reducible refine ix_m0 (by assumption) ?_
  | with_reducible refine get_m0 (by assumption) ?_
  | with_reducible refine ix_m1 (by assumption) ?_
  | with_reducible refine get_m1 (by assumption) ?_
  | with_reducible refine ix_m2 (by assumption) ?_
  | with_reducible refine get_m2 (by assumption) ?_
  | with_reducible refine ix_m3 (by assumption) ?_
  | with_reducible refine get_m3 (by assumption) ?_
  | with_reducible refine ix_m4 (by assumption) ?_
  | with_reducible refine get_m4 (by assumption) ?_
  | with_reducible refine ix_m5 (by assumption) ?_
  | with_reducible refine get_m5 (by assumption) ?_
  | (with_reducible refine st_set1 (by assumption) (by assumption) ?_; intro H1 hs1 kp1)
  | (with_reducible refine st_set2 (by assumption) (by assumption) ?_; intro H1 hs1 kp1)
  | (with_reducible refine st_set3 (by assumption) (by assumption) ?_; intro H1 hs1 kp1)
  | (with_reducible refine st_set4 (by assumption) (by assumption) ?_; intro H1 hs1 kp1)
  | (with_reducible refine st_set5 (by assumption) (by assumption) ?_; intro H1 hs1 kp1)
  | with_reducible refine len_m (by assumption) ?_
  | with_reducible refine s_for1 ?_
  | with_reducible refine s_forL ?_
  | with_reducible refine rng1 (by omega) (by omega) ?_
  | with_reducible refine s_next ?_
  | with_reducible refine s_break ?_
  | with_reducible refine s_cont ?_
  | with_reducible refine isi_non_bool ?_
  | with_reducible refine isi_non_int ?_
  | with_reducible refine isi_non_str ?_
  | with_reducible refine isi_non_list ?_
  | with_reducible refine isi_non_tuple ?_
  | with_reducible refine isi_non_dict ?_
  | with_reducible refine isi_non_seq (by assumption) ?_
  | with_reducible refine isi_bl_bool ?_
  | with_reducible refine isi_bl_int ?_
  | with_reducible refine isi_bl_str ?_
  | with_reducible refine isi_bl_list ?_
  | with_reducible refine isi_bl_tuple ?_
  | with_reducible refine isi_bl_dict ?_
  | with_reducible refine isi_bl_seq (by assumption) ?_
  | with_reducible refine isi_int_bool ?_
  | with_reducible refine isi_int_int ?_
  | with_reducible refine isi_int_str ?_
  | with_reducible refine isi_int_list ?_
  | with_reducible refine isi_int_tuple ?_
  | with_reducible refine isi_int_dict ?_
  | with_reducible refine isi_int_seq (by assumption) ?_
  | with_reducible refine isi_str_bool ?_
  | with_reducible refine isi_str_int ?_
  | with_reducible refine isi_str_str ?_
  | with_reducible refine isi_str_list ?_
  | with_reducible refine isi_str_tuple ?_
  | with_reducible refine isi_str_dict ?_
  | with_reducible refine isi_str_seq (by assumption) ?_
  | with_reducible refine isi_lst_bool (by assumption) (by assumption) ?_
  | with_reducible refine isi_lst_int (by assumption) (by assumption) ?_
  | with_reducible refine isi_lst_str (by assumption) (by assumption) ?_
  | with_reducible refine isi_lst_list (by assumption) (by assumption) ?_
  | with_reducible refine isi_lst_tuple (by assumption) (by assumption) ?_
  | with_reducible refine isi_lst_dict (by assumption) (by assumption) ?_
  | with_reducible refine isi_lst_seq (by assumption) (by assumption) (by assumption) ?_
  | with_reducible refine isi_tup_bool (by assumption) (by assumption) ?_
  | with_reducible refine isi_tup_int (by assumption) (by assumption) ?_
  | with_reducible refine isi_tup_str (by assumption) (by assumption) ?_
  | with_reducible refine isi_tup_list (by assumption) (by assumption) ?_
  | with_reducible refine isi_tup_tuple (by assumption) (by assumption) ?_
  | with_reducible refine isi_tup_dict (by assumption) (by assumption) ?_
  | with_reducible refine isi_tup_seq (by assumption) (by assumption) (by assumption) ?_
  | with_reducible refine isi_dK_bool (by assumption) (by assumption) ?_
  | with_reducible refine isi_dK_int (by assumption) (by assumption) ?_
  | with_reducible refine isi_dK_str (by assumption) (by assumption) ?_
  | with_reducible refine isi_dK_list (by assumption) (by assumption) ?_
  | with_reducible refine isi_dK_tuple (by assumption) (by assumption) ?_
  | with_reducible refine isi_dK_dict (by assumption) (by assumption) ?_
  | with_reducible refine isi_dK_seq (by assumption) (by assumption) (by assumption) ?_
  | with_reducible refine eq_bb ?_
  | with_reducible refine eq_ss ?_
  | with_reducible refine ev_isN ?_
  | with_reducible refine ev_tB ?_
  | with_reducible refine ev_and ?_
  | with_reducible refine ev_or ?_
  | with_reducible refine ev_not ?_
  | with_reducible refine c_tru ?_
  | with_reducible refine tru_bl ?_
  | with_reducible refine if_nt ?_
  | with_reducible refine if_nf ?_
  | with_reducible refine tup_new ?_
  | with_reducible refine lst_new ?_
  | with_reducible refine len_ms (by assumption) (by assumption) ?_
  | with_reducible refine len_ts (by assumption) (by assumption) ?_
  | ((with_reducible refine lit_len ?_ ?_); (focus (first | decide | (simp; done) | (simp; omega))))
  | (with_reducible refine new_st (by assumption) (by assumption) ?_; intro q1 H1 hq1 he1 hn1 kp1 hS1 sm1)
  | (with_reducible refine new_same (by assumption) ?_; intro q1 H1 hq1 he1 sm1 hs1)
  | with_reducible refine if_dT rfl ?_
  | ((with_reducible refine if_dF ?_ ?_); focus (intro z; cases z; done))
  | with_reducible refine if_t ?_
  | with_reducible refine if_f ?_
  | ((with_reducible refine c_take (by assumption) (by assumption) ?_ ?_); (focus omega); intro r1 H1 hS1 kp1 h01 h11)
  | with_reducible refine ev_chain ?_
  | ((with_reducible refine c_number (by assumption) (by assumption) ?_ ?_); (focus omega); intro r1 H1 hS1 kp1 h01 h11)
  | ((with_reducible refine c_pick (by assumption) (by assumption) (by assumption) (by assumption) ?_ ?_); (focus (simp; done)); intro r1 H1 hS1 kp1 kk1 h01)
  | with_reducible refine v_bm ?_
  | with_reducible refine v_sl ?_
  | with_reducible refine s_lc1 ?_
  | with_reducible refine s_lcL ?_
  | (with_reducible refine lc_kept ?_ rfl)
  | with_reducible refine c_yes ?_
  | with_reducible refine v_nopart ?_
  | with_reducible refine v_part ?_
  | with_reducible refine part_i ?_
  | with_reducible refine ty_l (by assumption) ?_)
local macro_rules | `(tactic| walk_at "go") => `(tactic| repeat' (first | walk_at "nw" | ((with_reducible refine if_d ?_ ?_) <;> intro c1) | ((with_reducible refine if_nd ?_ ?_) <;> intro c1)))
theorem p_valid_weight (K : PySem.W.Frag) (vs : List V) (H : Hp) (Q : VK) (E : XK) (h : sp_valid_weight K vs H Q E) : t_valid_weight K E { nx := fun _ H' => Q .non H', rt := Q } (start ["weight"] vs) H := by
  obtain ⟨v, ev, hv, q1, q2⟩ := h
  subst ev
  show t_valid_weight K E _ [some v] H
  unfold t_valid_weight
  repeat walk_at "nw"
  refine ⟨v, 1, 1000000000, rfl, hv, ?_⟩
  cases e : inR 1 1000000000 v with
  | true =>
    repeat walk_at "nw"
    exact q1 e
  | false =>
    repeat walk_at "nw"
    refine s_raise1 ?_
    repeat walk_at "nw"
    exact mk_r (q2 e)
def sp_asked : Sp := fun vs H Q _ => ∃ v : V, vs = [v] ∧ Scl v ∧ ∀ H', Same H H' → Q (.bl true) H'
theorem l_asked : ∀ vs H Q E, sp_asked vs H Q E → vs.length = 1 := fun _ _ _ _ ⟨_, e, _⟩ => by rw [e]; rfl
def t_asked (K : PySem.W.Frag) : TS :=
  (tSeq (tAsg (tAndV (tCall sp_is_integer [] E0 (tCons (tVar 0) tNil)) (tChain aLe aLe (tC (.int 1)) (tVar 0) (tC (.int 1000000000)))) (gName 1))
    (tCut (tTryA K (.ref (He.ga K "NestError")) 3 (fun W => (tAsg (tCallS (sp_valid_weight K) (WE W) (tCons (tVar 0) tNil)) (gName 2))) (fun a cls d => (tSeq (tIfS (tOr (tTru K (tVar 1)) (tNot (tTru K (tCall (sp_same 3) [] E0 (tCons (tKd K cls a d (tVar 3)) (tCons (tLst (tCons (tC (.str "ValueError")) (tCons (tC (.str "NestError")) (tCons (tC (.str "BadWeight")) tNil)))) tNil)))))) (tRet (tC (.bl false))) tNext)
    (tRet (tCall (sp_same 3) [] E0 (tCons (tXfE K a cls d "weight" (tVar 3)) (tCons (tVar 0) tNil)))))) (fun _ _ _ _ => False))
    (tRet (tAndV (tVar 1) (tCall (sp_same 3) [] E0 (tCons (tVar 2) (tCons (tVar 0) tNil)))))))
theorem due_w {σ : L2.St} {H : Hp} {Q : VK} {v : V} (hv : Scl v) (h : Q (.bl (inR 1 1000000000 v)) H) : tAndV (tCall sp_is_integer [] E0 (tCons (tVar 0) tNil)) (tChain aLe aLe (tC (.int 1)) (tVar 0) (tC (.int 1000000000))) (some v :: σ) H Q := by
  repeat walk_at "nw"
  refine ⟨v, rfl, hv, ?_⟩
  cases v with
  | int i =>
    rw [show isI (.int i) = true from rfl]
    have e : ∀ (b : Bool), b = inR 1 1000000000 (.int i) → Q (.bl b) H := fun b z => by rw [z]; exact h
    walk_at "go"
    · exact e _ (by simp [inR, *])
    · exact e _ (by simp [inR, *])
  | bl i =>
    rw [show isI (.bl i) = false from rfl]
    walk_at "go"
    exact h
  | non =>
    rw [show isI .non = false from rfl]
    walk_at "go"
    exact h
  | str i =>
    rw [show isI (.str i) = false from rfl]
    walk_at "go"
    exact h
  | _ => exact hv.elim
theorem p_asked (K : PySem.W.Frag) (F : ErrF K (He.ga K "BadWeight") (inL k_wgt)) (fN : PySem.W.findIn K (.ref (He.ga K "BadWeight")) "weight" = some none) (vs : List V) (H : Hp) (Q : VK) (E : XK) (h : sp_asked vs H Q E) : t_asked K { nx := fun _ H' => Q .non H', rt := Q } (start ["value", "due", "told", "e"] vs) H := by
  obtain ⟨v, ev, hv, q⟩ := h
  subst ev
  show t_asked K _ [some v, none, none, none] H
  unfold t_asked
  refine s_seq (s_asg (due_w hv ?_))
  repeat walk_at "nw"
  refine s_cut (fun σ' H' => H' = H ∧ inR 1 1000000000 v = true ∧ σ' = [some v, some (.bl (inR 1 1000000000 v)), some v, none]) ?_ ?_
  · refine s_tryA (s_asg (v_callS ?_))
    repeat walk_at "nw"
    refine ⟨v, rfl, hv, fun e => ?_, fun e dd hdd => ?_⟩
    · repeat walk_at "nw"
      exact ⟨rfl, e, rfl⟩
    · refine was_y F.nest fun a ha => ?_
      show tSeq _ _ _ [some v, some (.bl (inR 1 1000000000 v)), none, some (.ref a)] _
      rw [e]
      have s6 : Same H (upd H dd (.xd [("weight", v)])) := same_new hdd
      have e6 : (upd H dd (.xd [("weight", v)])) dd = some (.xd [("weight", v)]) := upd_same
      generalize upd H dd (.xd [("weight", v)]) = H6 at s6 e6 ha
      have hs6 := Same.refl H6
      repeat walk_at "nw"
      refine c_kd F.kit F.exc ?_ ⟨3, rfl⟩
      repeat walk_at "nw"
      refine ⟨rfl, fun dd' e => ⟨_, (congrArg H6 (Option.some.inj e).symm).trans e6⟩, fun l H7 s7 e7 => ?_⟩
      rw [sel_wgt] at e7
      have hs7 := Same.refl H7
      repeat walk_at "nw"
      rename_i q8 H8 g8 e8 s8 s08
      refine c_same (d := dS3 "ValueError" "NestError" "BadWeight") (is_s3 (s8 _ _ e7)) (is_s3 e8) (show 1 ≤ 2 by decide) fun H9 s9 => ?_
      have s69 : Same H6 H9 := (s7.trans s8).trans s9
      repeat walk_at "nw"
      refine c_xf F.xf fN ?_ ⟨3, rfl⟩
      repeat walk_at "nw"
      refine ⟨rfl, dd, _, v, rfl, s69 _ _ e6, rfl, ?_⟩
      repeat walk_at "nw"
      exact c_same (d := dV v) (is_scl hv) (is_scl hv) (by rw [dep_dV]; exact Nat.zero_le _) fun H10 s10 => q H10 ((s6.trans s69).trans s10)
  · rintro σ' H' ⟨rfl, e, rfl⟩
    rw [e]
    repeat walk_at "nw"
    exact c_same (d := dV v) (is_scl hv) (is_scl hv) (by rw [dep_dV]; exact Nat.zero_le _) fun H1 s1 => q H1 s1
end NW
namespace NW
open PySem PySem.Spec PyProof.Rows L2
open C8 (tCut pss_cut)
theorem neg_i {te : TE} {σ : L2.St} {H : Hp} {Q : VK} (h : te σ H fun x H1 => ∃ j, x = .int j ∧ Q (.int (-j)) H1) : tUn (rU fun i => .int (-i)) te σ H Q := h
def sp_values : Sp := fun vs H Q _ => ∃ (st : Addr), vs = [.ref st] ∧ Sto H st ∧ ∀ (p : Addr) (H' : Hp) (xs : List V), Sto H' st → Keep st H H' → p ≠ st → H' p = some (.lst xs) → xs.length = 39 → (∀ x ∈ xs, Scl x) → (∃ a : Int, xs[6]? = some (.int a) ∧ 1 ≤ a ∧ a ≤ 1000000000) → (∃ a : Int, xs[10]? = some (.int a) ∧ 1 ≤ a ∧ a ≤ 1000000000) → Q (.ref p) H'
theorem l_values : ∀ vs H Q E, sp_values vs H Q E → vs.length = 1 := fun _ _ _ _ ⟨_, e, _⟩ => by rw [e]; rfl
def t_values (K : PySem.W.Frag) : TS :=
  (tSeq (tAsg (tLst (tCons (tC (.bl true)) (tCons (tC (.bl false)) (tCons (tC .non) (tCons (tC (.int 0)) (tCons (tC (.int 1)) (tCons (tC (.int 1000000000)) tNil))))))) (gName 1))
    (tSeq (tFor (iRng1 (tCons (tC (.int 6)) tNil)) (gName 2) (tSeq (tAsg (tCall sp_weight [] E0 (tCons (tVar 0) (tCons (tC (.int 1000000000)) tNil))) (gName 3))
    (tAsg (tOp aAdd (tVar 1) (tLst (tCons (tVar 3) (tCons (tOp aSub (tC (.int 1)) (tVar 3)) (tCons (tOp aAdd (tC (.int 1000000000)) (tVar 3)) (tCons (tOp aSub (tC (.int 1000000001)) (tVar 3)) tNil)))))) (gName 1))))
    (tSeq (tFor (iRng1 (tCons (tC (.int 3)) tNil)) (gName 2) (tAsg (tOp aAdd (tVar 1) (tLst (tCons (tCall sp_not_integer [] E0 (tCons (tVar 0) (tCons (tC (.int 1)) (tCons (tC (.int 1000000000)) tNil)))) (tCons (tOp aSub (tCall sp_take [] E0 (tCons (tVar 0) (tCons (tC (.int 2000000000000000000000000000000000000000000000000000000000000)) tNil))) (tC (.int 1000000000000000000000000000000000000000000000000000000000000))) tNil)))) (gName 1)))
    (tSeq (tAsg (tCB rIntL (tCons (tOp aAdd (tC (.str "1")) (tOp rMulS (tC (.str "0")) (tCall sp_take [] E0 (tCons (tVar 0) (tCons (tC (.int 4000)) tNil))))) tNil)) (gName 4))
    (tRet (tOp aAdd (tVar 1) (tLst (tCons (tVar 4) (tCons (tUn (rU fun i => .int (-i)) (tVar 4)) (tCons (tCB rIntL (tCons (tOp rMulS (tC (.str "9")) (tOp aAdd (tC (.int 1)) (tCall sp_take [] E0 (tCons (tVar 0) (tCons (tC (.int 4000)) tNil))))) tNil)) tNil))))))))))
theorem dig_0 (k : Nat) (hk : k < 4000) {b : Str} (hb : b.cps.toList = (List.replicate k ("0" : Str).cps.toList).flatten) : b.length = k ∧ ∃ n, PySem.intText? ("1" ++ b) = some n ∧ ("1" ++ b).length ≤ sizeLine := by
  have e : ("1" ++ b : Str).cps.toList = 49 :: List.replicate k 48 := by
    show ((("1" : Str).cps ++ b.cps).toList) = _
    rw [Array.toList_append, hb, show ("0" : Str).cps.toList = [48] from rfl, show ("1" : Str).cps.toList = [49] from rfl]
    simp
  have l : ("1" ++ b : Str).length = k + 1 := by
    show ("1" ++ b : Str).cps.size = _
    rw [← Array.length_toList, e]
    simp
  obtain ⟨n, hn⟩ := digits_some (b := "1" ++ b) (by rw [e]; intro c hc; exact (List.mem_cons.mp hc).elim (fun z => by omega) fun z => by rw [(List.mem_replicate.mp z).2]; decide) (by rw [e]; simp) (by rw [l]; omega)
  refine ⟨?_, n, hn, by rw [l]; exact Nat.le_trans (show k + 1 ≤ 4001 by omega) (by decide)⟩
  show b.cps.size = k
  rw [← Array.length_toList, hb, show ("0" : Str).cps.toList = [48] from rfl]
  simp
theorem dig_9 (k : Nat) (h0 : 0 < k) (hk : k ≤ 4000) {b : Str} (hb : b.cps.toList = (List.replicate k ("9" : Str).cps.toList).flatten) : ∃ n, PySem.intText? b = some n ∧ b.length ≤ sizeLine := by
  have e : b.cps.toList = List.replicate k 57 := by
    rw [hb, show ("9" : Str).cps.toList = [57] from rfl]
    simp
  have l : b.length = k := by
    show b.cps.size = _
    rw [← Array.length_toList, e]
    simp
  obtain ⟨n, hn⟩ := digits_some (b := b) (by rw [e]; intro c hc; have := (List.mem_replicate.mp hc).2; omega) (by rw [e]; intro z; have := congrArg List.length z; simp at this; omega) (by rw [l]; omega)
  exact ⟨n, hn, by rw [l]; exact Nat.le_trans hk (by decide)⟩
theorem scl_app {xs ys : List V} (h1 : ∀ x ∈ xs, Scl x) (h2 : ∀ x ∈ ys, Scl x) : ∀ x ∈ xs ++ ys, Scl x := fun x hx => (List.mem_append.mp hx).elim (h1 x) (h2 x)
theorem at_app {xs ys : List V} {i : Nat} {x : V} (h : xs[i]? = some x) : (xs ++ ys)[i]? = some x := by
  rw [List.getElem?_append_left (List.getElem?_eq_some_iff.mp h).1]; exact h
local macro_rules | `(tactic| walk_at "nw") => `(tactic| first
  | with_reducible refine s_seq ?_
  | with_reducible refine s_asg ?_
  | with_reducible refine s_if ?_
  | with_reducible refine s_ret ?_
  | with_reducible refine s_drop ?_
  | with_reducible refine v_var0 ?_
  | with_reducible refine s_name0 ?_
  | with_reducible refine v_aug0 ?_
  | with_reducible refine v_var1 ?_
  | with_reducible refine s_name1 ?_
  | with_reducible refine v_aug1 ?_
  | with_reducible refine v_var2 ?_
  | with_reducible refine s_name2 ?_
  | with_reducible refine v_aug2 ?_
  | with_reducible refine v_var3 ?_
  | with_reducible refine s_name3 ?_
  | with_reducible refine v_aug3 ?_
  | with_reducible refine v_var4 ?_
  | with_reducible refine s_name4 ?_
  | with_reducible refine v_aug4 ?_
  | with_reducible refine v_var5 ?_
  | with_reducible refine s_name5 ?_
  | with_reducible refine v_aug5 ?_
  | with_reducible refine v_var6 ?_
  | with_reducible refine s_name6 ?_
  | with_reducible refine v_aug6 ?_
  | with_reducible refine v_var7 ?_
  | with_reducible refine s_name7 ?_
  | with_reducible refine v_aug7 ?_
  | with_reducible refine v_var8 ?_
  | with_reducible refine s_name8 ?_
  | with_reducible refine v_aug8 ?_
  | with_reducible refine v_var9 ?_
  | with_reducible refine s_name9 ?_
  | with_reducible refine v_aug9 ?_
  | with_reducible refine v_var10 ?_
  | with_reducible refine s_name10 ?_
  | with_reducible refine v_aug10 ?_
  | with_reducible refine v_var11 ?_
  | with_reducible refine s_name11 ?_
  | with_reducible refine v_aug11 ?_
  | with_reducible refine v_var12 ?_
  | with_reducible refine s_name12 ?_
  | with_reducible refine v_aug12 ?_
  | with_reducible refine v_var13 ?_
  | with_reducible refine s_name13 ?_
  | with_reducible refine v_aug13 ?_
  | with_reducible refine v_var14 ?_
  | with_reducible refine s_name14 ?_
  | with_reducible refine v_aug14 ?_
  | with_reducible refine v_var15 ?_
  | with_reducible refine s_name15 ?_
  | with_reducible refine v_aug15 ?_
  | with_reducible refine v_c ?_
  | with_reducible refine v_op ?_
  | with_reducible refine v_cons ?_
  | with_reducible refine v_nil ?_
  | with_reducible refine v_cb ?_
  | with_reducible refine v_call ?_
  | with_reducible refine c_test ?_
  | with_reducible refine c_bl ?_
  | with_reducible refine c_and ?_
  | with_reducible refine c_or ?_
  | with_reducible refine c_not ?_
  | with_reducible refine v_augS ?_
  | with_reducible refine v_sub ?_
  | with_reducible refine add_ii ?_
  | with_reducible refine sub_ii ?_
  | with_reducible refine iadd_ii ?_
  | with_reducible refine lt_ii ?_
  | with_reducible refine le_ii ?_
  | with_reducible refine gt_ii ?_
  | with_reducible refine ge_ii ?_
  | with_reducible refine eq_ii ?_
  | with_reducible refine ne_ii ?_
  | with_reducible refine int_i ?_
  | with_reducible refine abs_i ?_
  | with_reducible refine max_i ?_
  | with_reducible refine min_i ?_
  | with_reducible refine mul_r (by omega) (by omega) ?_
  | with_reducible refine mul_l (by omega) (by omega) ?_
  | with_reducible refine ix_m0 (by assumption) ?_
  | with_reducible refine get_m0 (by assumption) ?_
  | with_reducible refine ix_m1 (by assumption) ?_
  | with_reducible refine get_m1 (by assumption) ?_
  | with_reducible refine ix_m2 (by assumption) ?_
  | with_reducible refine get_m2 (by assumption) ?_
  | with_reducible refine ix_m3 (by assumption) ?_
  | with_reducible refine get_m3 (by assumption) ?_
  | with_reducible refine ix_m4 (by assumption) ?_
  | with_reducible refine get_m4 (by assumption) ?_
  | with_reducible refine ix_m5 (by assumption) ?_
  | with_reducible refine get_m5 (by assumption) ?_
  | (with_reducible refine st_set1 (by assumption) (by assumption) ?_; intro H1 hs1 kp1)
  | (with_reducible refine st_set2 (by assumption) (by assumption) ?_; intro H1 hs1 kp1)
  | (with_reducible refine st_set3 (by assumption) (by assumption) ?_; intro H1 hs1 kp1)
  | (with_reducible refine st_set4 (by assumption) (by assumption) ?_; intro H1 hs1 kp1)
  | (with_reducible refine st_set5 (by assumption) (by assumption) ?_; intro H1 hs1 kp1)
  | with_reducible refine len_m (by assumption) ?_
  | with_reducible refine s_for1 ?_
  | with_reducible refine s_forL ?_
  | with_reducible refine rng1 (by omega) (by omega) ?_
  | with_reducible refine s_next ?_
  | with_reducible refine s_break ?_
  | with_reducible refine s_cont ?_
  | with_reducible refine isi_non_bool ?_
  | with_reducible refine isi_non_int ?_
  | with_reducible refine isi_non_str ?_
  | with_reducible refine isi_non_list ?_
  | with_reducible refine isi_non_tuple ?_
  | with_reducible refine isi_non_dict ?_
  | with_reducible refine isi_non_seq (by assumption) ?_
  | with_reducible refine isi_bl_bool ?_
  | with_reducible refine isi_bl_int ?_
  | with_reducible refine isi_bl_str ?_
  | with_reducible refine isi_bl_list ?_
  | with_reducible refine isi_bl_tuple ?_
  | with_reducible refine isi_bl_dict ?_
  | with_reducible refine isi_bl_seq (by assumption) ?_
  | with_reducible refine isi_int_bool ?_
  | with_reducible refine isi_int_int ?_
  | with_reducible refine isi_int_str ?_
  | with_reducible refine isi_int_list ?_
  | with_reducible refine isi_int_tuple ?_
  | with_reducible refine isi_int_dict ?_
  | with_reducible refine isi_int_seq (by assumption) ?_
  | with_reducible refine isi_str_bool ?_
  | with_reducible refine isi_str_int ?_
  | with_reducible refine isi_str_str ?_
  | with_reducible refine isi_str_list ?_
  | with_reducible refine isi_str_tuple ?_
  | with_reducible refine isi_str_dict ?_
  | with_reducible refine isi_str_seq (by assumption) ?_
  | with_reducible refine isi_lst_bool (by assumption) (by assumption) ?_
  | with_reducible refine isi_lst_int (by assumption) (by assumption) ?_
  | with_reducible refine isi_lst_str (by assumption) (by assumption) ?_
  | with_reducible refine isi_lst_list (by assumption) (by assumption) ?_
  | with_reducible refine isi_lst_tuple (by assumption) (by assumption) ?_
  | with_reducible refine isi_lst_dict (by assumption) (by assumption) ?_
  | with_reducible refine isi_lst_seq (by assumption) (by assumption) (by assumption) ?_
  | with_reducible refine isi_tup_bool (by assumption) (by assumption) ?_
  | with_reducible refine isi_tup_int (by assumption) (by assumption) ?_
  | with_reducible refine isi_tup_str (by assumption) (by assumption) ?_
  | with_reducible refine isi_tup_list (by assumption) (by assumption) ?_
  | with_reducible refine isi_tup_tuple (by assumption) (by assumption) ?_
  | with_reducible refine isi_tup_dict (by assumption) (by assumption) ?_
  | with_reducible refine isi_tup_seq (by assumption) (by assumption) (by assumption) ?_
  | with_reducible refine isi_dK_bool (by assumption) (by assumption) ?_
  | with_reducible refine isi_dK_int (by assumption) (by assumption) ?_
  | with_reducible refine isi_dK_str (by assumption) (by assumption) ?_
  | with_reducible refine isi_dK_list (by assumption) (by assumption) ?_
  | with_reducible refine isi_dK_tuple (by assumption) (by assumption) ?_
  | with_reducible refine isi_dK_dict (by assumption) (by assumption) ?_
  | with_reducible refine isi_dK_seq (by assumption) (by assumption) (by assumption) ?_
  | with_reducible refine eq_bb ?_
  | with_reducible refine eq_ss ?_
  | with_reducible refine ev_isN ?_
  | with_reducible refine ev_tB ?_
  | with_reducible refine ev_and ?_
  | with_reducible refine ev_or ?_
  | with_reducible refine ev_not ?_
  | with_reducible refine c_tru ?_
  | with_reducible refine tru_bl ?_
  | with_reducible refine if_nt ?_
  | with_reducible refine if_nf ?_
  | with_reducible refine tup_new ?_
  | with_reducible refine lst_new ?_
  | with_reducible refine len_ms (by assumption) (by assumption) ?_
  | with_reducible refine len_ts (by assumption) (by assumption) ?_
  | ((with_reducible refine lit_len ?_ ?_); (focus (first | decide | (simp; done) | (simp; omega))))
  | (with_reducible refine new_st (by assumption) (by assumption) ?_; intro q1 H1 hq1 he1 hn1 kp1 hS1 sm1)
  | (with_reducible refine new_same (by assumption) ?_; intro q1 H1 hq1 he1 sm1 hs1)
  | with_reducible refine if_dT rfl ?_
  | ((with_reducible refine if_dF ?_ ?_); focus (intro z; cases z; done))
  | with_reducible refine if_t ?_
  | with_reducible refine if_f ?_
  | ((with_reducible refine c_take (by assumption) (by assumption) ?_ ?_); (focus omega); intro r1 H1 hS1 kp1 h01 h11)
  | with_reducible refine ev_chain ?_
  | ((with_reducible refine c_number (by assumption) (by assumption) ?_ ?_); (focus omega); intro r1 H1 hS1 kp1 h01 h11)
  | ((with_reducible refine c_pick (by assumption) (by assumption) (by assumption) (by assumption) ?_ ?_); (focus (simp; done)); intro r1 H1 hS1 kp1 kk1 h01)
  | with_reducible refine v_bm ?_
  | with_reducible refine v_sl ?_
  | with_reducible refine s_lc1 ?_
  | with_reducible refine s_lcL ?_
  | (with_reducible refine lc_kept ?_ rfl)
  | with_reducible refine c_yes ?_
  | with_reducible refine v_nopart ?_
  | with_reducible refine v_part ?_
  | with_reducible refine part_i ?_
  | with_reducible refine ty_l (by assumption) ?_)
local macro_rules | `(tactic| walk_at "go") => `(tactic| repeat' (first | walk_at "nw" | ((with_reducible refine if_d ?_ ?_) <;> intro c1) | ((with_reducible refine if_nd ?_ ?_) <;> intro c1)))
theorem p_values (K : PySem.W.Frag) (vs : List V) (H : Hp) (Q : VK) (E : XK) (h : sp_values vs H Q E) : t_values K { nx := fun _ H' => Q .non H', rt := Q } (start ["store", "found", "k", "weight", "great"] vs) H := by
  obtain ⟨st, ev, hs, q⟩ := h
  subst ev
  show t_values K _ [some (.ref st), none, none, none, none] H
  have kp := Keep.refl st H
  unfold t_values
  repeat walk_at "nw"
  rename_i p0 H1 g1 e1 n1 k1 S1 s1
  refine loop_rng (fun i σ' G => ∃ (p : Addr) (xs : List V) (kk ww : Option V), σ' = [some (.ref st), some (.ref p), kk, ww, none] ∧ Sto G st ∧ Keep st H G ∧ p ≠ st ∧ G p = some (.lst xs) ∧ xs.length = 6 + 4 * i ∧ (∀ x ∈ xs, Scl x) ∧
    (0 < i → ∃ a : Int, xs[6]? = some (.int a) ∧ 1 ≤ a ∧ a ≤ 1000000000) ∧ (1 < i → ∃ a : Int, xs[10]? = some (.int a) ∧ 1 ≤ a ∧ a ≤ 1000000000))
    ⟨p0, _, none, none, rfl, S1, k1, n1, e1, rfl, ?_, fun z => absurd z (by decide), fun z => absurd z (by decide)⟩ ?_ ?_
  · intro x hx
    simp only [List.mem_cons, List.not_mem_nil, or_false] at hx
    rcases hx with e | e | e | e | e | e <;> subst e <;> trivial
  · rintro i σ' G hi ⟨p, xs, kk, ww, rfl, SG, kG, pn, hp, lx, sx, h6, h10⟩
    repeat walk_at "nw"
    refine ⟨st, 1000000000, rfl, SG, by omega, by omega, fun r H2 S2 k2 r1 r2 => ?_⟩
    have kr := Keep.refl st H2
    have hp2 := k2.o p _ hp pn
    repeat walk_at "nw"
    rename_i q3 H3 g3 e3 n3 k3 S3 s3
    refine add_ll (s3 _ _ hp2) e3 (by rw [lx]; simp; omega) ?_
    repeat walk_at "nw"
    rename_i q4 H4 g4 e4 n4 k4 S4 s4
    refine ⟨q4, _, _, _, rfl, S4, (kG.trans k2).trans k4, n4, e4, by rw [List.length_append, lx]; simp; omega, scl_app sx ?_, fun _ => ?_, fun h1 => ?_⟩
    · intro x hx
      simp only [List.mem_cons, List.not_mem_nil, or_false] at hx
      rcases hx with e | e | e | e <;> subst e <;> trivial
    · by_cases z : 0 < i
      · obtain ⟨a, h1, h2⟩ := h6 z
        exact ⟨a, at_app h1, h2⟩
      · have z0 : i = 0 := by omega
        subst z0
        exact ⟨r, by rw [List.getElem?_append_right (by omega), lx]; rfl, r1, r2⟩
    · by_cases z : 1 < i
      · obtain ⟨a, h1, h2⟩ := h10 z
        exact ⟨a, at_app h1, h2⟩
      · have z0 : i = 1 := by omega
        subst z0
        exact ⟨r, by rw [List.getElem?_append_right (by omega), lx]; rfl, r1, r2⟩
  rintro σ' G ⟨p, xs, kk, ww, rfl, SG, kG, pn, hp, lx, sx, h6, h10⟩
  have h6 := h6 (by decide)
  have h10 := h10 (by decide)
  repeat walk_at "nw"
  refine loop_rng (fun i σ' G => ∃ (p : Addr) (xs : List V) (kk ww : Option V), σ' = [some (.ref st), some (.ref p), kk, ww, none] ∧ Sto G st ∧ Keep st H G ∧ p ≠ st ∧ G p = some (.lst xs) ∧ xs.length = 30 + 2 * i ∧ (∀ x ∈ xs, Scl x) ∧
    (∃ a : Int, xs[6]? = some (.int a) ∧ 1 ≤ a ∧ a ≤ 1000000000) ∧ (∃ a : Int, xs[10]? = some (.int a) ∧ 1 ≤ a ∧ a ≤ 1000000000))
    ⟨p, xs, kk, ww, rfl, SG, kG, pn, hp, lx, sx, h6, h10⟩ ?_ ?_
  · clear hp lx sx h6 h10 SG kG pn
    rintro i σ' G hi ⟨p, xs, kk, ww, rfl, SG, kG, pn, hp, lx, sx, h6, h10⟩
    repeat walk_at "nw"
    refine ⟨st, 1, 1000000000, rfl, SG, fun v H2 S2 k2 ni => ?_⟩
    have kr := Keep.refl st H2
    have hp2 := k2.o p _ hp pn
    repeat walk_at "nw"
    rename_i r H3 S3 k3 r0 r1 q4 H4 g4 e4 n4 k4 S4 s4
    refine add_ll (s4 _ _ (k3.o p _ hp2 pn)) e4 (by rw [lx]; simp; omega) ?_
    repeat walk_at "nw"
    rename_i q5 H5 g5 e5 n5 k5 S5 s5
    obtain ⟨a, a1, a2⟩ := h6
    obtain ⟨b, b1, b2⟩ := h10
    refine ⟨q5, _, _, _, rfl, S5, (kG.trans k2).trans k5, n5, e5, by rw [List.length_append, lx]; simp; omega, scl_app sx ?_, ⟨a, at_app a1, a2⟩, ⟨b, at_app b1, b2⟩⟩
    intro x hx
    simp only [List.mem_cons, List.not_mem_nil, or_false] at hx
    rcases hx with e | e <;> subst e
    · exact (ni_bad ni).2
    · trivial
  · clear hp lx sx h6 h10 SG kG pn
    rintro σ' G ⟨p, xs, kk, ww, rfl, SG, kG, pn, hp, lx, sx, h6, h10⟩
    have kr := Keep.refl st G
    repeat walk_at "nw"
    rename_i m H2 S2 k2 m0 m1
    obtain ⟨k, rfl⟩ : ∃ k : Nat, m = (k : Int) := ⟨m.toNat, by omega⟩
    refine ⟨"0", k, rfl, rfl, by omega, by show 1 * k ≤ _; omega, fun b hb => ?_⟩
    obtain ⟨bl, n, hn, ln⟩ := dig_0 k (by omega) hb
    refine add_ss ?_ ⟨_, n, rfl, hn, ln, ?_⟩
    · rw [bl]
      show 1 + k ≤ 1000000
      omega
    repeat walk_at "nw"
    refine neg_i ?_
    have kr2 := Keep.refl st H2
    repeat walk_at "nw"
    rename_i m' H3 S3 k3 m2 m3
    obtain ⟨k', rfl⟩ : ∃ k : Nat, m' = (k : Int) := ⟨m'.toNat, by omega⟩
    refine ⟨"9", 1 + k', rfl, by rw [Int.natCast_add]; rfl, by omega, by show 1 * (1 + k') ≤ _; omega, fun b' hb' => ?_⟩
    obtain ⟨n', hn', ln'⟩ := dig_9 (1 + k') (by omega) (by omega) hb'
    refine ⟨_, n', rfl, hn', ln', ?_⟩
    have kr3 := Keep.refl st H3
    repeat walk_at "nw"
    rename_i q4 H4 g4 e4 n4 k4 S4 s4
    have lx : xs.length = 36 := lx
    refine add_ll (s4 _ _ (k3.o p _ (k2.o p _ hp pn) pn)) e4 (by rw [lx]; simp) ?_
    repeat walk_at "nw"
    rename_i q5 H5 g5 e5 n5 k5 S5 s5
    obtain ⟨a, a1, a2⟩ := h6
    obtain ⟨c, c1, c2⟩ := h10
    refine q q5 H5 _ S5 ((kG.trans (k2.trans k3)).trans k5) n5 e5 (by rw [List.length_append, lx]; rfl) (scl_app sx ?_) ⟨a, at_app a1, a2⟩ ⟨c, at_app c1, c2⟩
    intro x hx
    simp only [List.mem_cons, List.not_mem_nil, or_false] at hx
    rcases hx with e | e | e <;> subst e <;> trivial
theorem sql_same {K : PySem.W.Frag} {H H' : Hp} {a : Addr} {xs : List V} (s : Same H H') (h : SqL K H a xs) : SqL K H' a xs := by
  rcases h with (z | ⟨o, z⟩) | z
  · exact .inl (.inl (s _ _ z))
  · exact .inl (.inr ⟨o, s _ _ z⟩)
  · exact .inr z
def sp_law01 (K : PySem.W.Frag) : Sp := fun vs H Q _ => ∃ (a : Addr) (ns : List Int), vs = [.ref a] ∧ SqL K H a (ns.map V.int) ∧ ∀ H', Q (.bl true) H'
theorem l_law01 (K : PySem.W.Frag) : ∀ vs H Q E, sp_law01 K vs H Q E → vs.length = 1 := fun _ _ _ _ ⟨_, _, e, _⟩ => by rw [e]; rfl
def t_law01 (K : PySem.W.Frag) : TS :=
  (tSeq (tIfS (tNot (tTru K (tCall (sp_same 3) [] E0 (tCons (tC (.int 1000000000)) (tCons (tC (.int 1000000000)) tNil))))) (tRet (tC (.bl false))) tNext)
    (tSeq (tAsg (tCall (sp_store K) [] E0 (tCons (tVar 0) tNil)) (gName 1))
    (tSeq (tAsg (tCall sp_values [] E0 (tCons (tVar 1) tNil)) (gName 2))
    (tSeq (tFor (iList K (tOp aAdd (tOp aAdd (tVar 2) (tLst (tCons (tCB aStr (tCons (tOp (aIx K) (tVar 2) (tC (.int 6))) tNil)) (tCons (tCB aStr (tCons (tOp (aIx K) (tVar 2) (tC (.int 10))) tNil)) tNil)))) (tListRev K (tVar 2)))) (gName 3) (tIfS (tNot (tTru K (tCall sp_asked [] E0 (tCons (tVar 3) tNil)))) (tRet (tC (.bl false))) tNext))
    (tSeq (tAsg (tMkX (He.ga K "BadWeight") (sp_init1 K (He.ga K "BadWeight") "weight") (tCons (tOp (aIx K) (tVar 2) (tUn (rU fun i => .int (-i)) (tC (.int 1)))) tNil)) (gName 4))
    (tRet (tCall (sp_same 3) [] E0 (tCons (tXv K "weight" (tVar 4)) (tCons (tOp (aIx K) (tVar 2) (tUn (rU fun i => .int (-i)) (tC (.int 1)))) tNil)))))))))
theorem p_law01 (K : PySem.W.Frag) (F : ErrF K (He.ga K "BadWeight") (inL k_wgt)) (fN : PySem.W.findIn K (.ref (He.ga K "BadWeight")) "weight" = some none) (vs : List V) (H : Hp) (Q : VK) (E : XK) (h : sp_law01 K vs H Q E) : t_law01 K { nx := fun _ H' => Q .non H', rt := Q } (start ["script", "store", "values", "value", "bare"] vs) H := by
  obtain ⟨a0, cells, ev, hc0, q⟩ := h
  subst ev
  show t_law01 K _ [some (.ref a0), none, none, none, none] H
  unfold t_law01
  repeat walk_at "nw"
  refine c_same (d := .int _) (.int _) (.int _) (Nat.zero_le _) fun H0 s0 => ?_
  repeat walk_at "nw"
  refine ⟨a0, cells, rfl, ?_, fun st H1 S1 s1 g1 => ?_⟩
  · exact sql_same s0 hc0
  repeat walk_at "nw"
  refine ⟨st, rfl, S1, fun p H2 xs S2 k2 pn hp lx sx h6 h10 => ?_⟩
  obtain ⟨a, a1, a2, a3⟩ := h6
  obtain ⟨b, b1, b2, b3⟩ := h10
  have kr2 := Keep.refl st H2
  repeat walk_at "nw"
  refine ix_m hp (atI_nat a1) ?_
  repeat walk_at "nw"
  refine str_i (by omega) ?_
  repeat walk_at "nw"
  refine ix_m hp (atI_nat b1) ?_
  repeat walk_at "nw"
  refine str_i (by omega) ?_
  repeat walk_at "nw"
  rename_i q3 H3 g3 e3 n3 k3 S3 s3
  refine add_ll (s3 _ _ hp) e3 (by rw [lx]; simp) ?_
  repeat walk_at "nw"
  rename_i q4 H4 g4 e4 n4 k4 S4 s4
  have hp4 := s4 _ _ (s3 _ _ hp)
  refine ⟨_, rfl, p, xs, rfl, SqL.of hp4, ?_⟩
  repeat walk_at "nw"
  rename_i q5 H5 g5 e5 n5 k5 S5 s5
  refine add_ll (s5 _ _ e4) e5 (by rw [List.length_append, List.length_reverse, lx]; simp) ?_
  repeat walk_at "nw"
  rename_i q6 H6 g6 e6 n6 k6 S6 s6
  have hp6 := s6 _ _ (s5 _ _ hp4)
  have sall : ∀ x ∈ (xs ++ [V.str (toString a), V.str (toString b)] ++ xs.reverse), Scl x := scl_app (scl_app sx fun x hx => by
    simp only [List.mem_cons, List.not_mem_nil, or_false] at hx
    rcases hx with e | e <;> subst e <;> trivial) fun x hx => sx x (List.mem_reverse.mp hx)
  refine lst1 (SqL.of e6) (loop_lst _ (fun i σ' G => Same H6 G ∧ ∃ vv : Option V, σ' = [some (.ref a0), some (.ref st), some (.ref p), vv, none]) ⟨Same.refl H6, none, rfl⟩ (fun i σ' G _ z => SqL.of (z.1 _ _ e6)) ?_ ?_)
  · rintro i x σ' G hx ⟨sG, vv, rfl⟩
    repeat walk_at "nw"
    refine ⟨x, rfl, sall x (List.mem_of_getElem? hx), fun H7 s7 => ?_⟩
    repeat walk_at "nw"
    exact ⟨sG.trans s7, _, rfl⟩
  · rintro σ' G ⟨sG, vv, rfl⟩
    have hpG := sG _ _ hp6
    obtain ⟨z, hz⟩ : ∃ z, xs[38]? = some z := ⟨_, List.getElem?_eq_getElem (by omega)⟩
    have sz : Scl z := sx z (List.mem_of_getElem? hz)
    have az : atI xs (-1) = some z := by
      unfold atI ixN
      rw [lx]
      exact hz
    repeat walk_at "nw"
    refine s_mkX1 ?_
    repeat walk_at "nw"
    refine neg_i ?_
    repeat walk_at "nw"
    refine ix_m hpG az (mk_v fun e dx H7 s7 ge he hd => ?_)
    repeat walk_at "nw"
    refine s_xv ?_
    repeat walk_at "nw"
    refine ⟨e, dx, _, _, z, rfl, he, hd, rfl, F.xf, fN, ?_⟩
    repeat walk_at "nw"
    refine neg_i ?_
    repeat walk_at "nw"
    refine ix_m (s7 _ _ hpG) az ?_
    repeat walk_at "nw"
    exact c_same (d := dV z) (is_scl sz) (is_scl sz) (by rw [dep_dV]; exact Nat.zero_le _) fun H8 _ => q H8
end NW
namespace NW
open PySem PySem.Spec PyProof.Rows L2
open C8 (tCut pss_cut)
structure Txt (K : PySem.W.Frag) (mg : Str → Option Value) : Prop where
  g_mix : mg "_law_mix" = some (.ref (He.ga K "_law_mix"))
  F_mix : ∃ fd, FunD K "_law_mix" "_law_mix" (defArgs s_mix) (defBody s_mix) (defScope s_mix) [] [] (He.ga K "_law_mix") fd
  g_take : mg "_law_take" = some (.ref (He.ga K "_law_take"))
  F_take : ∃ fd, FunD K "_law_take" "_law_take" (defArgs s_take) (defBody s_take) (defScope s_take) [] [] (He.ga K "_law_take") fd
  g_number : mg "_law_number" = some (.ref (He.ga K "_law_number"))
  F_number : ∃ fd, FunD K "_law_number" "_law_number" (defArgs s_number) (defBody s_number) (defScope s_number) [] [] (He.ga K "_law_number") fd
  g_pick : mg "_law_pick" = some (.ref (He.ga K "_law_pick"))
  F_pick : ∃ fd, FunD K "_law_pick" "_law_pick" (defArgs s_pick) (defBody s_pick) (defScope s_pick) [] [] (He.ga K "_law_pick") fd
  g_weight : mg "_law_weight" = some (.ref (He.ga K "_law_weight"))
  F_weight : ∃ fd, FunD K "_law_weight" "_law_weight" (defArgs s_weight) (defBody s_weight) (defScope s_weight) [] [] (He.ga K "_law_weight") fd
  g_not_integer : mg "_law_not_integer" = some (.ref (He.ga K "_law_not_integer"))
  F_not_integer : ∃ fd, FunD K "_law_not_integer" "_law_not_integer" (defArgs s_not_integer) (defBody s_not_integer) (defScope s_not_integer) [] [] (He.ga K "_law_not_integer") fd
  g_is_integer : mg "_law_is_integer" = some (.ref (He.ga K "_law_is_integer"))
  F_is_integer : ∃ fd, FunD K "_law_is_integer" "_law_is_integer" (defArgs s_is_integer) (defBody s_is_integer) (defScope s_is_integer) [] [] (He.ga K "_law_is_integer") fd
  g_is_number : mg "is_number" = some (.ref (He.ga K "is_number"))
  F_is_number : ∃ fd, FunD K "is_number" "is_number" (defArgs s_is_number) (defBody s_is_number) (defScope s_is_number) [] [] (He.ga K "is_number") fd
  g_store : mg "_law_store" = some (.ref (He.ga K "_law_store"))
  F_store : ∃ fd, FunD K "_law_store" "_law_store" (defArgs s_store) (defBody s_store) (defScope s_store) [] [] (He.ga K "_law_store") fd
  g_valid_weight : mg "valid_weight" = some (.ref (He.ga K "valid_weight"))
  F_valid_weight : ∃ fd, FunD K "valid_weight" "valid_weight" (defArgs s_valid_weight) (defBody s_valid_weight) (defScope s_valid_weight) [] [] (He.ga K "valid_weight") fd
  g_same : mg "_law_same" = some (.ref (He.ga K "_law_same"))
  F_same : ∃ fd, FunD K "_law_same" "_law_same" (defArgs s_same) (defBody s_same) (defScope s_same) [] [] (He.ga K "_law_same") fd
  g_kinds : mg "_law_kinds" = some (.ref (He.ga K "_law_kinds"))
  F_kinds : ∃ fd, FunD K "_law_kinds" "_law_kinds" (defArgs s_kinds) (defBody s_kinds) (defScope s_kinds) [] [] (He.ga K "_law_kinds") fd
  g_values : mg "_law_values" = some (.ref (He.ga K "_law_values"))
  F_values : ∃ fd, FunD K "_law_values" "_law_values" (defArgs s_values) (defBody s_values) (defScope s_values) [] [] (He.ga K "_law_values") fd
  g_asked : mg "_law_asked" = some (.ref (He.ga K "_law_asked"))
  F_asked : ∃ fd, FunD K "_law_asked" "_law_asked" (defArgs s_asked) (defBody s_asked) (defScope s_asked) [] [] (He.ga K "_law_asked") fd
  g_law : mg "law" = some (.ref (He.ga K "law"))
  F_law : ∃ fd, FunD K "law" "law" (defArgs s_law) (defBody s_law) (defScope s_law) [] [] (He.ga K "law") fd
  z_ValueError : mg "ValueError" = none
  z_abs : mg "abs" = none
  z_bool : mg "bool" = none
  z_dict : mg "dict" = none
  z_int : mg "int" = none
  z_isinstance : mg "isinstance" = none
  z_len : mg "len" = none
  z_list : mg "list" = none
  z_max : mg "max" = none
  z_min : mg "min" = none
  z_range : mg "range" = none
  z_reversed : mg "reversed" = none
  z_str : mg "str" = none
  z_tuple : mg "tuple" = none
  k_MOST_WEIGHT : ∃ t, mg "MOST_WEIGHT" = some (.int 1000000000 t)
  c_BadClaim : mg "BadClaim" = some (.ref (He.ga K "BadClaim"))
  c_BadCount : mg "BadCount" = some (.ref (He.ga K "BadCount"))
  c_BadName : mg "BadName" = some (.ref (He.ga K "BadName"))
  c_BadNumber : mg "BadNumber" = some (.ref (He.ga K "BadNumber"))
  c_BadOrder : mg "BadOrder" = some (.ref (He.ga K "BadOrder"))
  c_BadText : mg "BadText" = some (.ref (He.ga K "BadText"))
  c_BadWeight : mg "BadWeight" = some (.ref (He.ga K "BadWeight"))
  c_BadWish : mg "BadWish" = some (.ref (He.ga K "BadWish"))
  c_Broken : mg "Broken" = some (.ref (He.ga K "Broken"))
  c_Clash : mg "Clash" = some (.ref (He.ga K "Clash"))
  c_Idle : mg "Idle" = some (.ref (He.ga K "Idle"))
  c_Inside : mg "Inside" = some (.ref (He.ga K "Inside"))
  c_Loop : mg "Loop" = some (.ref (He.ga K "Loop"))
  c_Nailed : mg "Nailed" = some (.ref (He.ga K "Nailed"))
  c_NestError : mg "NestError" = some (.ref (He.ga K "NestError"))
  c_NoChange : mg "NoChange" = some (.ref (He.ga K "NoChange"))
  c_NoHolder : mg "NoHolder" = some (.ref (He.ga K "NoHolder"))
  c_NoStory : mg "NoStory" = some (.ref (He.ga K "NoStory"))
  c_NotComing : mg "NotComing" = some (.ref (He.ga K "NotComing"))
  c_NotEmpty : mg "NotEmpty" = some (.ref (He.ga K "NotEmpty"))
  c_NothingDone : mg "NothingDone" = some (.ref (He.ga K "NothingDone"))
  c_OrderRefused : mg "OrderRefused" = some (.ref (He.ga K "OrderRefused"))
  c_OtherDoors : mg "OtherDoors" = some (.ref (He.ga K "OtherDoors"))
  c_OtherYard : mg "OtherYard" = some (.ref (He.ga K "OtherYard"))
  c_OutOfSteps : mg "OutOfSteps" = some (.ref (He.ga K "OutOfSteps"))
  c_Refusal : mg "Refusal" = some (.ref (He.ga K "Refusal"))
  c_Same : mg "Same" = some (.ref (He.ga K "Same"))
  c_Sealed : mg "Sealed" = some (.ref (He.ga K "Sealed"))
  c_Short : mg "Short" = some (.ref (He.ga K "Short"))
  c_TooMany : mg "TooMany" = some (.ref (He.ga K "TooMany"))
  c_Twice : mg "Twice" = some (.ref (He.ga K "Twice"))
  c_Unbalanced : mg "Unbalanced" = some (.ref (He.ga K "Unbalanced"))
  c_Unknown : mg "Unknown" = some (.ref (He.ga K "Unknown"))
  c_Unlike : mg "Unlike" = some (.ref (He.ga K "Unlike"))
  dig : digK K = true
  e_BadWeight : Err1 K (He.ga K "BadWeight") "BadWeight.__init__" "weight" (defArgs s_BadWeight) (defBody s_BadWeight) (defScope s_BadWeight)
  er_BadWeight : ErrF K (He.ga K "BadWeight") (inL ["ValueError", "NestError", "BadWeight"])
  fn_BadWeight_weight : PySem.W.findIn K (.ref (He.ga K "BadWeight")) "weight" = some none
section
variable {P : Program} {w : World} {K : PySem.W.Frag} {mg : Str → Option Value} {base : Heap} {p : Addr × Obj}
theorem sc_BadWeight : FnScope (["self", "weight"] : List Str) (["self", "weight"] : List Str) (defScope s_BadWeight) := ⟨rfl, rfl, rfl, by decide +kernel, rfl, by decide +kernel, by decide +kernel⟩
theorem i_BadWeight (T : Txt K mg) : InitOk P w K mg base (He.ga K "BadWeight") 1 (["self", "weight"] : List Str) (sp_init1 K (He.ga K "BadWeight") "weight") :=
  init1 T.e_BadWeight sc_BadWeight (fun _ _ _ _ _ _ us hl => match us, hl with | [_, _], _ => rfl) (fun _ _ _ _ _ _ _ => pss_one (ps_ost (pv 0) (pv 1)))
theorem sc_mix : FnScope ["seed", "turn", "one", "two"] ["seed", "turn"] (defScope s_mix) := ⟨rfl, rfl, rfl, by decide +kernel, rfl, by decide +kernel, by decide +kernel⟩
theorem h_mix (T : Txt K mg) : Has P w K mg base "_law_mix" 1 ["seed", "turn"] sp_mix := by
  refine has_of (N := ["seed", "turn", "one", "two"]) (k := 0) (t := t_mix K) T.g_mix T.F_mix sc_mix l_mix (fun _ _ _ _ _ _ us hl => match us, hl with | [_, _], _ => rfl) (fun cdv A outer s H E hr => ?_) (p_mix K)
  exact (pss_cons (ps_set (i := 2) sc_mix.nd rfl (Or.inl rfl) (pe_op oMod (pe_op oAdd (pe_op oAdd (pe_op oMul (pe_callTy cInt (by rfl) T.z_int (by decide +kernel) (pa_cons (pv 0) pa_nil)) pe_int) (pe_op oMul (pe_callTy cInt (by rfl) T.z_int (by decide +kernel) (pa_cons (pv 1) pa_nil)) pe_int)) pe_int) pe_int))
    (pss_cons (ps_set (i := 3) sc_mix.nd rfl (Or.inl rfl) (pe_op oMod (pe_op oAdd (pe_op oAdd (pe_op oAdd (pe_op oMul (pv 2) (pv 2)) (pv 2)) (pe_callTy cInt (by rfl) T.z_int (by decide +kernel) (pa_cons (pv 0) pa_nil))) (pe_callTy cInt (by rfl) T.z_int (by decide +kernel) (pa_cons (pv 1) pa_nil))) pe_int))
    (pss_one (ps_ret (pe_op oMod (pe_op oAdd (pe_op oAdd (pe_op oMul (pv 3) (pv 3)) (pe_op oMul pe_int (pv 3))) (pv 2)) pe_int)))))
theorem sc_take : FnScope ["store", "many", "cell", "digits", "number", "room", "k"] ["store", "many"] (defScope s_take) := ⟨rfl, rfl, rfl, by decide +kernel, rfl, by decide +kernel, by decide +kernel⟩
theorem h_take (T : Txt K mg) : Has P w K mg base "_law_take" 2 ["store", "many"] sp_take := by
  refine has_of (N := ["store", "many", "cell", "digits", "number", "room", "k"]) (k := 1) (t := t_take K) T.g_take T.F_take sc_take l_take (fun _ _ _ _ _ _ us hl => match us, hl with | [_, _], _ => rfl) (fun cdv A outer s H E hr => ?_) (p_take K)
  exact (pss_cons (ps_if (pt_cmpR oLt (pv 1) pe_int (nomark _)) (pss_one (ps_ret pe_int)) pss_nil)
    (pss_cut (ps_if (pw_and (pt_cmpR oEq (pe_ix oIx (pv 0) pe_int (fun _ _ => rfl)) pe_int (nomark _)) (pw_and (pt_cmpR oEq (pe_ix oIx (pv 0) pe_int (fun _ _ => rfl)) pe_int (nomark _)) (pw_and1 (pt_cmpR oLt (pe_ix oIx (pv 0) pe_int (fun _ _ => rfl)) (pe_callB cLen (by rfl) T.z_len (by decide +kernel) (pa_cons (pe_ix oIx (pv 0) pe_int (fun _ _ => rfl)) pa_nil)) (nomark _))))).pt (pss_cons (ps_set (i := 2) sc_take.nd rfl (Or.inl rfl) (pe_callTy cInt (by rfl) T.z_int (by decide +kernel) (pa_cons (pe_ix oIx (pe_ix oIx (pv 0) pe_int (fun _ _ => rfl)) (pe_ix oIx (pv 0) pe_int (fun _ _ => rfl)) (fun _ _ => rfl)) pa_nil)))
    (pss_cons (ps_augS (pv 0) pe_int getL pe_int ioAdd oSet)
    (pss_cons (ps_asg (pe_op oMod (pe_callTy cInt (by rfl) T.z_int (by decide +kernel) (pa_cons (pe_op oAdd (pe_op oMul (pe_ix oIx (pv 0) pe_int (fun _ _ => rfl)) pe_int) (pv 2)) pa_nil)) pe_int) (pg_sub (pv 0) pe_int oSet))
    (pss_one (ps_if (pt_cmpR oGe (pe_callB call_abs (by rfl) T.z_abs (by decide +kernel) (pa_cons (pv 2) pa_nil)) (pe_powc pe_int pe_int 1000000000000000000 (by decide +kernel)) (nomark _)) (pss_one (ps_asg (pe_callB call_abs (by rfl) T.z_abs (by decide +kernel) (pa_cons (pv 2) pa_nil)) (pg_sub (pv 0) pe_int oSet))) (pss_one (ps_asg pe_int (pg_sub (pv 0) pe_int oSet)))))))) pss_nil)
    (pss_cons (ps_augS (pv 0) pe_int getL pe_int ioAdd oSet)
    (pss_cons (ps_if (pt_cmpR oGt (pe_ix oIx (pv 0) pe_int (fun _ _ => rfl)) pe_int (nomark _)) (pss_cons (ps_set (i := 3) sc_take.nd rfl (Or.inl rfl) (pe_callTy cInt (by rfl) T.z_int (by decide +kernel) (pa_cons (pe_ix oIx (pv 0) pe_int (fun _ _ => rfl)) pa_nil)))
    (pss_cons (ps_asg (pe_op oDiv (pv 3) (pv 1)) (pg_sub (pv 0) pe_int oSet))
    (pss_one (ps_ret (pe_op oMod (pv 3) (pv 1)))))) pss_nil)
    (pss_cons (ps_asg (pe_callB (call_max2 rfl) (by rfl) T.z_max (by decide +kernel) (pa_cons pe_int (pa_cons (pe_op oSub (pe_ix oIx (pv 0) pe_int (fun _ _ => rfl)) pe_int) pa_nil))) (pg_sub (pv 0) pe_int oSet))
    (pss_cons (ps_set (i := 4) sc_take.nd rfl (Or.inl rfl) pe_int)
    (pss_cons (ps_set (i := 5) sc_take.nd rfl (Or.inl rfl) pe_int)
    (pss_cons (ps_for PassesOwn.never rfl (pi_range1 (by rfl) T.z_range (pa_cons pe_int pa_nil)) (pg_name (i := 6) sc_take.nd rfl (Or.inl rfl)) (pss_cons (ps_if (pt_cmpR oGe (pv 5) (pv 1) (nomark _)) (pss_one ps_break) pss_nil)
    (pss_cons (ps_set (i := 4) sc_take.nd rfl (Or.inl rfl) (pe_op oAdd (pe_op oMul (pv 4) pe_int) (pe_dc (h_mix T) hr (pa_cons (pe_ix oIx (pv 0) pe_int (fun _ _ => rfl)) (pa_cons (pe_op oAdd (pe_ix oIx (pv 0) pe_int (fun _ _ => rfl)) (pe_op oMul pe_int (pv 6))) pa_nil)))))
    (pss_one (ps_set (i := 5) sc_take.nd rfl (Or.inl rfl) (pe_op oMul (pv 5) pe_int))))))
    (pss_one (ps_ret (pe_op oMod (pe_callTy cInt (by rfl) T.z_int (by decide +kernel) (pa_cons (pv 4) pa_nil)) (pv 1))))))))))))
theorem sc_number : FnScope ["store", "low", "high", "manner"] ["store", "low", "high"] (defScope s_number) := ⟨rfl, rfl, rfl, by decide +kernel, rfl, by decide +kernel, by decide +kernel⟩
theorem h_number (T : Txt K mg) : Has P w K mg base "_law_number" 3 ["store", "low", "high"] sp_number := by
  refine has_of (N := ["store", "low", "high", "manner"]) (k := 2) (t := t_number K) T.g_number T.F_number sc_number l_number (fun _ _ _ _ _ _ us hl => match us, hl with | [_, _, _], _ => rfl) (fun cdv A outer s H E hr => ?_) (p_number K)
  exact (pss_cons (ps_set (i := 3) sc_number.nd rfl (Or.inl rfl) (pe_dc (h_take T) hr (pa_cons (pv 0) (pa_cons pe_int pa_nil))))
    (pss_cons (ps_if (pw_or (pt_cmpR oEq (pv 3) pe_int (nomark _)) (pw_or1 (pt_cmpR oLe (pv 2) (pv 1) (nomark _)))).pt (pss_one (ps_ret (pv 1))) pss_nil)
    (pss_cons (ps_if (pt_cmpR oEq (pv 3) pe_int (nomark _)) (pss_one (ps_ret (pv 2))) pss_nil)
    (pss_cons (ps_if (pt_cmpR oEq (pv 3) pe_int (nomark _)) (pss_one (ps_ret (pe_callB (call_min2 rfl) (by rfl) T.z_min (by decide +kernel) (pa_cons (pv 2) (pa_cons (pe_op oAdd (pe_op oAdd (pv 1) pe_int) (pe_dc (h_take T) hr (pa_cons (pv 0) (pa_cons pe_int pa_nil)))) pa_nil))))) pss_nil)
    (pss_cons (ps_if (pt_cmpR oEq (pv 3) pe_int (nomark _)) (pss_one (ps_ret (pe_callB (call_max2 rfl) (by rfl) T.z_max (by decide +kernel) (pa_cons (pv 1) (pa_cons (pe_op oSub (pe_op oSub (pv 2) pe_int) (pe_dc (h_take T) hr (pa_cons (pv 0) (pa_cons pe_int pa_nil)))) pa_nil))))) pss_nil)
    (pss_one (ps_ret (pe_op oAdd (pv 1) (pe_dc (h_take T) hr (pa_cons (pv 0) (pa_cons (pe_op oAdd (pe_op oSub (pv 2) (pv 1)) pe_int) pa_nil)))))))))))
theorem sc_pick : FnScope ["store", "row"] ["store", "row"] (defScope s_pick) := ⟨rfl, rfl, rfl, by decide +kernel, rfl, by decide +kernel, by decide +kernel⟩
theorem h_pick (T : Txt K mg) : Has P w K mg base "_law_pick" 3 ["store", "row"] sp_pick := by
  refine has_of (N := ["store", "row"]) (k := 2) (t := t_pick K) T.g_pick T.F_pick sc_pick l_pick (fun _ _ _ _ _ _ us hl => match us, hl with | [_, _], _ => rfl) (fun cdv A outer s H E hr => ?_) (p_pick K)
  exact (pss_one (ps_ret (pe_ix oIx (pv 1) (pe_dc (h_take T) hr (pa_cons (pv 0) (pa_cons (pe_callB cLen (by rfl) T.z_len (by decide +kernel) (pa_cons (pv 1) pa_nil)) pa_nil))) (fun _ _ => rfl))))
theorem sc_weight : FnScope ["store", "most"] ["store", "most"] (defScope s_weight) := ⟨rfl, rfl, rfl, by decide +kernel, rfl, by decide +kernel, by decide +kernel⟩
theorem h_weight (T : Txt K mg) : Has P w K mg base "_law_weight" 4 ["store", "most"] sp_weight := by
  refine has_of (N := ["store", "most"]) (k := 3) (t := t_weight K) T.g_weight T.F_weight sc_weight l_weight (fun _ _ _ _ _ _ us hl => match us, hl with | [_, _], _ => rfl) (fun cdv A outer s H E hr => ?_) (p_weight K)
  exact (pss_cons (ps_if (pt_cmpR oEq (pe_dc (h_take T) hr (pa_cons (pv 0) (pa_cons pe_int pa_nil))) pe_int (nomark _)) (pss_one (ps_ret (pe_op oAdd pe_int (pe_dc (h_take T) hr (pa_cons (pv 0) (pa_cons (pe_callB (call_min2 rfl) (by rfl) T.z_min (by decide +kernel) (pa_cons (pv 1) (pa_cons pe_int pa_nil))) pa_nil)))))) pss_nil)
    (pss_one (ps_ret (pe_dc (h_number T) hr (pa_cons (pv 0) (pa_cons pe_int (pa_cons (pv 1) pa_nil)))))))
theorem sc_not_integer : FnScope ["store", "low", "high", "far"] ["store", "low", "high"] (defScope s_not_integer) := ⟨rfl, rfl, rfl, by decide +kernel, rfl, by decide +kernel, by decide +kernel⟩
theorem h_not_integer (T : Txt K mg) : Has P w K mg base "_law_not_integer" 4 ["store", "low", "high"] sp_not_integer := by
  refine has_of (N := ["store", "low", "high", "far"]) (k := 3) (t := t_not_integer K) T.g_not_integer T.F_not_integer sc_not_integer l_not_integer (fun _ _ _ _ _ _ us hl => match us, hl with | [_, _, _], _ => rfl) (fun cdv A outer s H E hr => ?_) (p_not_integer K)
  exact (pss_cons (ps_set (i := 3) sc_not_integer.nd rfl (Or.inl rfl) (pe_dc (h_take T) hr (pa_cons (pv 0) (pa_cons (pe_powc pe_int pe_int 100000000000000000000 (by decide +kernel)) pa_nil))))
    (pss_one (ps_ret (pe_dc (h_pick T) hr (pa_cons (pv 0) (pa_cons (pe_lst (pa_cons (pe_op oSub (pv 1) pe_int) (pa_cons (pe_op oAdd (pv 2) pe_int) (pa_cons (pe_op oSub (pe_op oSub (pv 1) pe_int) (pv 3)) (pa_cons (pe_op oAdd (pe_op oAdd (pv 2) pe_int) (pv 3)) (pa_cons pe_bl (pa_cons pe_bl (pa_cons pe_non (pa_cons pe_str (pa_cons pe_str (pa_cons pe_str pa_nil))))))))))) pa_nil))))))
theorem sc_is_integer : FnScope ["value"] ["value"] (defScope s_is_integer) := ⟨rfl, rfl, rfl, by decide +kernel, rfl, by decide +kernel, by decide +kernel⟩
theorem h_is_integer (T : Txt K mg) : Has P w K mg base "_law_is_integer" 1 ["value"] sp_is_integer := by
  refine has_of (N := ["value"]) (k := 0) (t := t_is_integer K) T.g_is_integer T.F_is_integer sc_is_integer l_is_integer (fun _ _ _ _ _ _ us hl => match us, hl with | [_], _ => rfl) (fun cdv A outer s H E hr => ?_) (p_is_integer K)
  exact (pss_one (ps_ret (pe_and (pe_callB cIsi (by rfl) T.z_isinstance (by decide +kernel) (pa_cons (pv 0) (pa_cons (pe_bltn (v := .ty "int") (u := .type "int") (by rfl) T.z_int (by rfl) (by rfl)) pa_nil))) (pe_one (pe_not (pe_callB cIsi (by rfl) T.z_isinstance (by decide +kernel) (pa_cons (pv 0) (pa_cons (pe_bltn (v := .ty "bool") (u := .type "bool") (by rfl) T.z_bool (by rfl) (by rfl)) pa_nil))))))))
theorem sc_is_number : FnScope ["value", "low", "high"] ["value", "low", "high"] (defScope s_is_number) := ⟨rfl, rfl, rfl, by decide +kernel, rfl, by decide +kernel, by decide +kernel⟩
theorem h_is_number (T : Txt K mg) : Has P w K mg base "is_number" 1 ["value", "low", "high"] sp_is_number := by
  refine has_of (N := ["value", "low", "high"]) (k := 0) (t := t_is_number K) T.g_is_number T.F_is_number sc_is_number l_is_number (fun _ _ _ _ _ _ us hl => match us, hl with | [_, _, _], _ => rfl) (fun cdv A outer s H E hr => ?_) (p_is_number K)
  exact (pss_one (ps_ret (pe_and (pe_callB cIsi (by rfl) T.z_isinstance (by decide +kernel) (pa_cons (pv 0) (pa_cons (pe_bltn (v := .ty "int") (u := .type "int") (by rfl) T.z_int (by rfl) (by rfl)) pa_nil))) (pe_and (pe_not (pe_callB cIsi (by rfl) T.z_isinstance (by decide +kernel) (pa_cons (pv 0) (pa_cons (pe_bltn (v := .ty "bool") (u := .type "bool") (by rfl) T.z_bool (by rfl) (by rfl)) pa_nil)))) (pe_one (pe_chain oLe oLe (pv 1) (pv 0) (pv 2)))))))
theorem sc_store : FnScope ["script"] ["script"] (defScope s_store) := ⟨rfl, rfl, rfl, by decide +kernel, rfl, by decide +kernel, by decide +kernel⟩
theorem h_store (T : Txt K mg) : Has P w K mg base "_law_store" 1 ["script"] (sp_store K) := by
  refine has_of (N := ["script"]) (k := 0) (t := t_store K) T.g_store T.F_store sc_store (l_store K) (fun _ _ _ _ _ _ us hl => match us, hl with | [_], _ => rfl) (fun cdv A outer s H E hr => ?_) (p_store K)
  exact (pss_one (ps_ret (pe_lst (pa_cons (pe_callTy cList (by rfl) T.z_list (by decide +kernel) (pa_cons (pv 0) pa_nil)) (pa_cons pe_int (pa_cons pe_int (pa_cons pe_int (pa_cons pe_int (pa_cons pe_int pa_nil)))))))))
theorem sc_valid_weight : FnScope ["weight"] ["weight"] (defScope s_valid_weight) := ⟨rfl, rfl, rfl, by decide +kernel, rfl, by decide +kernel, by decide +kernel⟩
theorem h_valid_weight (T : Txt K mg) : Has P w K mg base "valid_weight" 3 ["weight"] (sp_valid_weight K) := by
  refine has_ofX (N := ["weight"]) (k := 2) (t := t_valid_weight K) T.g_valid_weight T.F_valid_weight sc_valid_weight (l_valid_weight K) (fun _ _ _ _ _ _ us hl => match us, hl with | [_], _ => rfl) (fun cdv A outer s H E hr tk => ?_) (p_valid_weight K)
  exact (pss_cons (ps_if (pt_not (pt_truth (pe_dc (h_is_number T) hr (pa_cons (pv 0) (pa_cons pe_int (pa_cons (pe_gi T.k_MOST_WEIGHT) pa_nil)))) (fun _ => rfl))) (pss_one (ps_rs (by rfl) tk (pmk_in (i_BadWeight T) T.c_BadWeight hr (pa_cons (pv 0) pa_nil)))) pss_nil)
    (pss_one (ps_ret (pv 0))))
theorem sc_same : FnScope ["one", "other", "k"] ["one", "other"] (defScope s_same) := ⟨rfl, rfl, rfl, by decide +kernel, rfl, by decide +kernel, by decide +kernel⟩
theorem h_same (T : Txt K mg) : ∀ n, Has P w K mg base "_law_same" n ["one", "other"] (sp_same n)
  | 0 => has0 T.g_same T.F_same (fun _ _ _ _ _ _ us hl => match us, hl with | [_, _], _ => rfl) (fun _ _ _ _ h => h)
  | n + 1 => by
    have ih : Has P w K mg base "_law_same" n ["one", "other"] (sp_same n) := h_same T n
    refine has_of (N := ["one", "other", "k"]) (k := n) (t := t_same K n) T.g_same T.F_same sc_same (l_same (n + 1)) (fun _ _ _ _ _ _ us hl => match us, hl with | [_, _], _ => rfl) (fun cdv A outer s H E hr => ?_) (p_same K n)
    exact (pss_cons (ps_if (pw_or (pt_cmp (pc_isN (pv 0))) (pw_or1 (pt_cmp (pc_isN (pv 1))))).pt (pss_one (ps_ret (pe_and (pe_cmp (pc_isN (pv 0))) (pe_one (pe_cmp (pc_isN (pv 1))))))) pss_nil)
    (pss_cons (ps_if (pw_or (pt_truth (pe_callB cIsi (by rfl) T.z_isinstance (by decide +kernel) (pa_cons (pv 0) (pa_cons (pe_bltn (v := .ty "bool") (u := .type "bool") (by rfl) T.z_bool (by rfl) (by rfl)) pa_nil))) (fun _ => rfl)) (pw_or1 (pt_truth (pe_callB cIsi (by rfl) T.z_isinstance (by decide +kernel) (pa_cons (pv 1) (pa_cons (pe_bltn (v := .ty "bool") (u := .type "bool") (by rfl) T.z_bool (by rfl) (by rfl)) pa_nil))) (fun _ => rfl)))).pt (pss_one (ps_ret (pe_and (pe_callB cIsi (by rfl) T.z_isinstance (by decide +kernel) (pa_cons (pv 0) (pa_cons (pe_bltn (v := .ty "bool") (u := .type "bool") (by rfl) T.z_bool (by rfl) (by rfl)) pa_nil))) (pe_and (pe_callB cIsi (by rfl) T.z_isinstance (by decide +kernel) (pa_cons (pv 1) (pa_cons (pe_bltn (v := .ty "bool") (u := .type "bool") (by rfl) T.z_bool (by rfl) (by rfl)) pa_nil))) (pe_one (pe_cmpR oEq (pv 0) (pv 1) (nomark _))))))) pss_nil)
    (pss_cons (ps_if (pt_truth (pe_callB cIsi (by rfl) T.z_isinstance (by decide +kernel) (pa_cons (pv 0) (pa_cons (pe_bltn (v := .ty "int") (u := .type "int") (by rfl) T.z_int (by rfl) (by rfl)) pa_nil))) (fun _ => rfl)) (pss_one (ps_ret (pe_and (pe_callB cIsi (by rfl) T.z_isinstance (by decide +kernel) (pa_cons (pv 1) (pa_cons (pe_bltn (v := .ty "int") (u := .type "int") (by rfl) T.z_int (by rfl) (by rfl)) pa_nil))) (pe_one (pe_cmpR oEq (pv 0) (pv 1) (nomark _)))))) pss_nil)
    (pss_cons (ps_if (pt_truth (pe_callB cIsi (by rfl) T.z_isinstance (by decide +kernel) (pa_cons (pv 0) (pa_cons (pe_bltn (v := .ty "str") (u := .type "str") (by rfl) T.z_str (by rfl) (by rfl)) pa_nil))) (fun _ => rfl)) (pss_one (ps_ret (pe_and (pe_callB cIsi (by rfl) T.z_isinstance (by decide +kernel) (pa_cons (pv 1) (pa_cons (pe_bltn (v := .ty "str") (u := .type "str") (by rfl) T.z_str (by rfl) (by rfl)) pa_nil))) (pe_one (pe_cmpR oEq (pv 0) (pv 1) (nomark _)))))) pss_nil)
    (pss_cons (ps_if (pt_truth (pe_callB cIsi (by rfl) T.z_isinstance (by decide +kernel) (pa_cons (pv 0) (pa_cons (pe_bltn (v := .ty "dict") (u := .type "dict") (by rfl) T.z_dict (by rfl) (by rfl)) pa_nil))) (fun _ => rfl)) pss_never pss_nil)
    (pss_cons (ps_if (pw_and (pt_truth (pe_callB cIsi (by rfl) T.z_isinstance (by decide +kernel) (pa_cons (pv 0) (pa_cons (pe_bltn (v := .ty "list") (u := .type "list") (by rfl) T.z_list (by rfl) (by rfl)) pa_nil))) (fun _ => rfl)) (pw_and1 (pt_not (pt_truth (pe_callB cIsi (by rfl) T.z_isinstance (by decide +kernel) (pa_cons (pv 1) (pa_cons (pe_bltn (v := .ty "list") (u := .type "list") (by rfl) T.z_list (by rfl) (by rfl)) pa_nil))) (fun _ => rfl))))).pt (pss_one (ps_ret pe_bl)) pss_nil)
    (pss_cons (ps_if (pw_and (pt_truth (pe_callB cIsi (by rfl) T.z_isinstance (by decide +kernel) (pa_cons (pv 0) (pa_cons (pe_bltn (v := .ty "tuple") (u := .type "tuple") (by rfl) T.z_tuple (by rfl) (by rfl)) pa_nil))) (fun _ => rfl)) (pw_and1 (pt_not (pt_truth (pe_callB cIsi (by rfl) T.z_isinstance (by decide +kernel) (pa_cons (pv 1) (pa_cons (pe_bltn (v := .ty "tuple") (u := .type "tuple") (by rfl) T.z_tuple (by rfl) (by rfl)) pa_nil))) (fun _ => rfl))))).pt (pss_one (ps_ret pe_bl)) pss_nil)
    (pss_cons (ps_if (pw_or (pt_not (pt_truth (pe_callB cIsi (by rfl) T.z_isinstance (by decide +kernel) (pa_cons (pv 0) (pa_cons (pe_tup (pa_cons (pe_bltn (v := .ty "list") (u := .type "list") (by rfl) T.z_list (by rfl) (by rfl)) (pa_cons (pe_bltn (v := .ty "tuple") (u := .type "tuple") (by rfl) T.z_tuple (by rfl) (by rfl)) pa_nil))) pa_nil))) (fun _ => rfl))) (pw_or1 (pt_cmpR oNe (pe_callB cLen (by rfl) T.z_len (by decide +kernel) (pa_cons (pv 0) pa_nil)) (pe_callB cLen (by rfl) T.z_len (by decide +kernel) (pa_cons (pv 1) pa_nil)) (nomark _)))).pt (pss_one (ps_ret pe_bl)) pss_nil)
    (pss_cons (ps_for PassesOwn.never rfl (pi_range1 (by rfl) T.z_range (pa_cons (pe_callB cLen (by rfl) T.z_len (by decide +kernel) (pa_cons (pv 0) pa_nil)) pa_nil)) (pg_name (i := 2) sc_same.nd rfl (Or.inl rfl)) (pss_one (ps_if (pt_not (pt_truth (pe_dc ih hr (pa_cons (pe_ix oIx (pv 0) (pv 2) (fun _ _ => rfl)) (pa_cons (pe_ix oIx (pv 1) (pv 2) (fun _ _ => rfl)) pa_nil)) (Nat.le_refl _)) (fun _ => rfl))) (pss_one (ps_ret pe_bl)) pss_nil)))
    (pss_one (ps_ret pe_bl)))))))))))
theorem hh_same (T : Txt K mg) : ∀ n, HasH P w K mg base p "_law_same" n ["one", "other"] (sp_same n)
  | 0 => hasH0 T.g_same T.F_same (fun _ _ _ _ _ _ us hl => match us, hl with | [_, _], _ => rfl) (fun _ _ _ _ h => h)
  | n + 1 => by
    have ih : HasH P w K mg base p "_law_same" n ["one", "other"] (sp_same n) := hh_same T n
    refine hasH_of (N := ["one", "other", "k"]) (k := n) (t := t_same K n) T.g_same T.F_same sc_same (l_same (n + 1)) (fun _ _ _ _ _ _ us hl => match us, hl with | [_, _], _ => rfl) (fun cdv A outer s H hr hp => ?_) (p_same K n)
    exact (pss_cons (ps_if (pw_or (pt_cmp (pc_isN (pv 0))) (pw_or1 (pt_cmp (pc_isN (pv 1))))).pt (pss_one (ps_ret (pe_and (pe_cmp (pc_isN (pv 0))) (pe_one (pe_cmp (pc_isN (pv 1))))))) pss_nil)
    (pss_cons (ps_if (pw_or (pt_truth (pe_callB cIsi (by rfl) T.z_isinstance (by decide +kernel) (pa_cons (pv 0) (pa_cons (pe_bltn (v := .ty "bool") (u := .type "bool") (by rfl) T.z_bool (by rfl) (by rfl)) pa_nil))) (fun _ => rfl)) (pw_or1 (pt_truth (pe_callB cIsi (by rfl) T.z_isinstance (by decide +kernel) (pa_cons (pv 1) (pa_cons (pe_bltn (v := .ty "bool") (u := .type "bool") (by rfl) T.z_bool (by rfl) (by rfl)) pa_nil))) (fun _ => rfl)))).pt (pss_one (ps_ret (pe_and (pe_callB cIsi (by rfl) T.z_isinstance (by decide +kernel) (pa_cons (pv 0) (pa_cons (pe_bltn (v := .ty "bool") (u := .type "bool") (by rfl) T.z_bool (by rfl) (by rfl)) pa_nil))) (pe_and (pe_callB cIsi (by rfl) T.z_isinstance (by decide +kernel) (pa_cons (pv 1) (pa_cons (pe_bltn (v := .ty "bool") (u := .type "bool") (by rfl) T.z_bool (by rfl) (by rfl)) pa_nil))) (pe_one (pe_cmpR oEq (pv 0) (pv 1) (nomark _))))))) pss_nil)
    (pss_cons (ps_if (pt_truth (pe_callB cIsi (by rfl) T.z_isinstance (by decide +kernel) (pa_cons (pv 0) (pa_cons (pe_bltn (v := .ty "int") (u := .type "int") (by rfl) T.z_int (by rfl) (by rfl)) pa_nil))) (fun _ => rfl)) (pss_one (ps_ret (pe_and (pe_callB cIsi (by rfl) T.z_isinstance (by decide +kernel) (pa_cons (pv 1) (pa_cons (pe_bltn (v := .ty "int") (u := .type "int") (by rfl) T.z_int (by rfl) (by rfl)) pa_nil))) (pe_one (pe_cmpR oEq (pv 0) (pv 1) (nomark _)))))) pss_nil)
    (pss_cons (ps_if (pt_truth (pe_callB cIsi (by rfl) T.z_isinstance (by decide +kernel) (pa_cons (pv 0) (pa_cons (pe_bltn (v := .ty "str") (u := .type "str") (by rfl) T.z_str (by rfl) (by rfl)) pa_nil))) (fun _ => rfl)) (pss_one (ps_ret (pe_and (pe_callB cIsi (by rfl) T.z_isinstance (by decide +kernel) (pa_cons (pv 1) (pa_cons (pe_bltn (v := .ty "str") (u := .type "str") (by rfl) T.z_str (by rfl) (by rfl)) pa_nil))) (pe_one (pe_cmpR oEq (pv 0) (pv 1) (nomark _)))))) pss_nil)
    (pss_cons (ps_if (pt_truth (pe_callB cIsi (by rfl) T.z_isinstance (by decide +kernel) (pa_cons (pv 0) (pa_cons (pe_bltn (v := .ty "dict") (u := .type "dict") (by rfl) T.z_dict (by rfl) (by rfl)) pa_nil))) (fun _ => rfl)) pss_never pss_nil)
    (pss_cons (ps_if (pw_and (pt_truth (pe_callB cIsi (by rfl) T.z_isinstance (by decide +kernel) (pa_cons (pv 0) (pa_cons (pe_bltn (v := .ty "list") (u := .type "list") (by rfl) T.z_list (by rfl) (by rfl)) pa_nil))) (fun _ => rfl)) (pw_and1 (pt_not (pt_truth (pe_callB cIsi (by rfl) T.z_isinstance (by decide +kernel) (pa_cons (pv 1) (pa_cons (pe_bltn (v := .ty "list") (u := .type "list") (by rfl) T.z_list (by rfl) (by rfl)) pa_nil))) (fun _ => rfl))))).pt (pss_one (ps_ret pe_bl)) pss_nil)
    (pss_cons (ps_if (pw_and (pt_truth (pe_callB cIsi (by rfl) T.z_isinstance (by decide +kernel) (pa_cons (pv 0) (pa_cons (pe_bltn (v := .ty "tuple") (u := .type "tuple") (by rfl) T.z_tuple (by rfl) (by rfl)) pa_nil))) (fun _ => rfl)) (pw_and1 (pt_not (pt_truth (pe_callB cIsi (by rfl) T.z_isinstance (by decide +kernel) (pa_cons (pv 1) (pa_cons (pe_bltn (v := .ty "tuple") (u := .type "tuple") (by rfl) T.z_tuple (by rfl) (by rfl)) pa_nil))) (fun _ => rfl))))).pt (pss_one (ps_ret pe_bl)) pss_nil)
    (pss_cons (ps_if (pw_or (pt_not (pt_truth (pe_callB cIsi (by rfl) T.z_isinstance (by decide +kernel) (pa_cons (pv 0) (pa_cons (pe_tup (pa_cons (pe_bltn (v := .ty "list") (u := .type "list") (by rfl) T.z_list (by rfl) (by rfl)) (pa_cons (pe_bltn (v := .ty "tuple") (u := .type "tuple") (by rfl) T.z_tuple (by rfl) (by rfl)) pa_nil))) pa_nil))) (fun _ => rfl))) (pw_or1 (pt_cmpR oNe (pe_callB cLen (by rfl) T.z_len (by decide +kernel) (pa_cons (pv 0) pa_nil)) (pe_callB cLen (by rfl) T.z_len (by decide +kernel) (pa_cons (pv 1) pa_nil)) (nomark _)))).pt (pss_one (ps_ret pe_bl)) pss_nil)
    (pss_cons (L2H.ps_forH PassesOwn.never hp.c (L2H.pi_range1H (by rfl) T.z_range (pa_cons (pe_callB cLen (by rfl) T.z_len (by decide +kernel) (pa_cons (pv 0) pa_nil)) pa_nil)) (pg_name (i := 2) sc_same.nd rfl (Or.inl rfl)) (pss_one (ps_if (pt_not (pt_truth (pe_hc ih hr hp (pa_cons (pe_ix oIx (pv 0) (pv 2) (fun _ _ => rfl)) (pa_cons (pe_ix oIx (pv 1) (pv 2) (fun _ _ => rfl)) pa_nil)) (Nat.le_refl _)) (fun _ => rfl))) (pss_one (ps_ret pe_bl)) pss_nil)))
    (pss_one (ps_ret pe_bl)))))))))))
theorem sc_kinds : FnScope ["error", "rows", "row"] ["error"] (defScope s_kinds) := ⟨rfl, rfl, rfl, by decide +kernel, rfl, by decide +kernel, by decide +kernel⟩
theorem hh_kinds (T : Txt K mg) {E : Addr} {d : Option Addr} {b : Str → Bool} (F : KitF K E b) (F1 : ExcC K E) (F2 : Zc (.ref E) d p.2) (F3 : ∃ vs, p.2.data = .fields vs) : HasH P w K mg base p "_law_kinds" 1 ["error"] (sp_kind E p.1 d b) := by
  refine hasH_of (N := ["error", "rows", "row"]) (k := 0) (t := t_kinds K E p.1 d) T.g_kinds T.F_kinds sc_kinds (l_kind E p.1 d b) (fun _ _ _ _ _ _ us hl => match us, hl with | [_], _ => rfl) (fun cdv A outer s H hr hp => ?_) (fun vs H Q X => p_kind K E p.1 d b F vs H Q X)
  exact (pss_cons (ps_set (i := 1) sc_kinds.nd rfl (Or.inl rfl) (pe_lst (pa_cons (pe_tup (pa_cons pe_str (pa_cons (pe_callB (call_isP F1 hp.mem F2 F3) (by rfl) T.z_isinstance (by decide +kernel) (pa_cons (pv 0) (pa_cons (pe_bltn (v := .ty "ValueError") (u := .type "ValueError") (by rfl) T.z_ValueError (by rfl) (by rfl)) pa_nil))) pa_nil))) (pa_cons (pe_tup (pa_cons pe_str (pa_cons (pe_callB (call_isP F1 hp.mem F2 F3) (by rfl) T.z_isinstance (by decide +kernel) (pa_cons (pv 0) (pa_cons (pe_glob (by rfl) T.c_NestError (by rfl)) pa_nil))) pa_nil))) pa_nil))))
    (pss_cons (ps_set (i := 1) sc_kinds.nd rfl (Or.inl rfl) (pe_op oAdd (pv 1) (pe_lst (pa_cons (pe_tup (pa_cons pe_str (pa_cons (pe_callB (call_isP F1 hp.mem F2 F3) (by rfl) T.z_isinstance (by decide +kernel) (pa_cons (pv 0) (pa_cons (pe_glob (by rfl) T.c_Refusal (by rfl)) pa_nil))) pa_nil))) (pa_cons (pe_tup (pa_cons pe_str (pa_cons (pe_callB (call_isP F1 hp.mem F2 F3) (by rfl) T.z_isinstance (by decide +kernel) (pa_cons (pv 0) (pa_cons (pe_glob (by rfl) T.c_BadName (by rfl)) pa_nil))) pa_nil))) pa_nil)))))
    (pss_cons (ps_set (i := 1) sc_kinds.nd rfl (Or.inl rfl) (pe_op oAdd (pv 1) (pe_lst (pa_cons (pe_tup (pa_cons pe_str (pa_cons (pe_callB (call_isP F1 hp.mem F2 F3) (by rfl) T.z_isinstance (by decide +kernel) (pa_cons (pv 0) (pa_cons (pe_glob (by rfl) T.c_BadWeight (by rfl)) pa_nil))) pa_nil))) (pa_cons (pe_tup (pa_cons pe_str (pa_cons (pe_callB (call_isP F1 hp.mem F2 F3) (by rfl) T.z_isinstance (by decide +kernel) (pa_cons (pv 0) (pa_cons (pe_glob (by rfl) T.c_BadNumber (by rfl)) pa_nil))) pa_nil))) pa_nil)))))
    (pss_cons (ps_set (i := 1) sc_kinds.nd rfl (Or.inl rfl) (pe_op oAdd (pv 1) (pe_lst (pa_cons (pe_tup (pa_cons pe_str (pa_cons (pe_callB (call_isP F1 hp.mem F2 F3) (by rfl) T.z_isinstance (by decide +kernel) (pa_cons (pv 0) (pa_cons (pe_glob (by rfl) T.c_BadCount (by rfl)) pa_nil))) pa_nil))) (pa_cons (pe_tup (pa_cons pe_str (pa_cons (pe_callB (call_isP F1 hp.mem F2 F3) (by rfl) T.z_isinstance (by decide +kernel) (pa_cons (pv 0) (pa_cons (pe_glob (by rfl) T.c_Twice (by rfl)) pa_nil))) pa_nil))) pa_nil)))))
    (pss_cons (ps_set (i := 1) sc_kinds.nd rfl (Or.inl rfl) (pe_op oAdd (pv 1) (pe_lst (pa_cons (pe_tup (pa_cons pe_str (pa_cons (pe_callB (call_isP F1 hp.mem F2 F3) (by rfl) T.z_isinstance (by decide +kernel) (pa_cons (pv 0) (pa_cons (pe_glob (by rfl) T.c_Unknown (by rfl)) pa_nil))) pa_nil))) (pa_cons (pe_tup (pa_cons pe_str (pa_cons (pe_callB (call_isP F1 hp.mem F2 F3) (by rfl) T.z_isinstance (by decide +kernel) (pa_cons (pv 0) (pa_cons (pe_glob (by rfl) T.c_NoHolder (by rfl)) pa_nil))) pa_nil))) pa_nil)))))
    (pss_cons (ps_set (i := 1) sc_kinds.nd rfl (Or.inl rfl) (pe_op oAdd (pv 1) (pe_lst (pa_cons (pe_tup (pa_cons pe_str (pa_cons (pe_callB (call_isP F1 hp.mem F2 F3) (by rfl) T.z_isinstance (by decide +kernel) (pa_cons (pv 0) (pa_cons (pe_glob (by rfl) T.c_Loop (by rfl)) pa_nil))) pa_nil))) (pa_cons (pe_tup (pa_cons pe_str (pa_cons (pe_callB (call_isP F1 hp.mem F2 F3) (by rfl) T.z_isinstance (by decide +kernel) (pa_cons (pv 0) (pa_cons (pe_glob (by rfl) T.c_Short (by rfl)) pa_nil))) pa_nil))) pa_nil)))))
    (pss_cons (ps_set (i := 1) sc_kinds.nd rfl (Or.inl rfl) (pe_op oAdd (pv 1) (pe_lst (pa_cons (pe_tup (pa_cons pe_str (pa_cons (pe_callB (call_isP F1 hp.mem F2 F3) (by rfl) T.z_isinstance (by decide +kernel) (pa_cons (pv 0) (pa_cons (pe_glob (by rfl) T.c_BadText (by rfl)) pa_nil))) pa_nil))) (pa_cons (pe_tup (pa_cons pe_str (pa_cons (pe_callB (call_isP F1 hp.mem F2 F3) (by rfl) T.z_isinstance (by decide +kernel) (pa_cons (pv 0) (pa_cons (pe_glob (by rfl) T.c_OtherYard (by rfl)) pa_nil))) pa_nil))) pa_nil)))))
    (pss_cons (ps_set (i := 1) sc_kinds.nd rfl (Or.inl rfl) (pe_op oAdd (pv 1) (pe_lst (pa_cons (pe_tup (pa_cons pe_str (pa_cons (pe_callB (call_isP F1 hp.mem F2 F3) (by rfl) T.z_isinstance (by decide +kernel) (pa_cons (pv 0) (pa_cons (pe_glob (by rfl) T.c_Same (by rfl)) pa_nil))) pa_nil))) (pa_cons (pe_tup (pa_cons pe_str (pa_cons (pe_callB (call_isP F1 hp.mem F2 F3) (by rfl) T.z_isinstance (by decide +kernel) (pa_cons (pv 0) (pa_cons (pe_glob (by rfl) T.c_Inside (by rfl)) pa_nil))) pa_nil))) pa_nil)))))
    (pss_cons (ps_set (i := 1) sc_kinds.nd rfl (Or.inl rfl) (pe_op oAdd (pv 1) (pe_lst (pa_cons (pe_tup (pa_cons pe_str (pa_cons (pe_callB (call_isP F1 hp.mem F2 F3) (by rfl) T.z_isinstance (by decide +kernel) (pa_cons (pv 0) (pa_cons (pe_glob (by rfl) T.c_Unlike (by rfl)) pa_nil))) pa_nil))) (pa_cons (pe_tup (pa_cons pe_str (pa_cons (pe_callB (call_isP F1 hp.mem F2 F3) (by rfl) T.z_isinstance (by decide +kernel) (pa_cons (pv 0) (pa_cons (pe_glob (by rfl) T.c_Nailed (by rfl)) pa_nil))) pa_nil))) pa_nil)))))
    (pss_cons (ps_set (i := 1) sc_kinds.nd rfl (Or.inl rfl) (pe_op oAdd (pv 1) (pe_lst (pa_cons (pe_tup (pa_cons pe_str (pa_cons (pe_callB (call_isP F1 hp.mem F2 F3) (by rfl) T.z_isinstance (by decide +kernel) (pa_cons (pv 0) (pa_cons (pe_glob (by rfl) T.c_Sealed (by rfl)) pa_nil))) pa_nil))) (pa_cons (pe_tup (pa_cons pe_str (pa_cons (pe_callB (call_isP F1 hp.mem F2 F3) (by rfl) T.z_isinstance (by decide +kernel) (pa_cons (pv 0) (pa_cons (pe_glob (by rfl) T.c_Idle (by rfl)) pa_nil))) pa_nil))) pa_nil)))))
    (pss_cons (ps_set (i := 1) sc_kinds.nd rfl (Or.inl rfl) (pe_op oAdd (pv 1) (pe_lst (pa_cons (pe_tup (pa_cons pe_str (pa_cons (pe_callB (call_isP F1 hp.mem F2 F3) (by rfl) T.z_isinstance (by decide +kernel) (pa_cons (pv 0) (pa_cons (pe_glob (by rfl) T.c_Broken (by rfl)) pa_nil))) pa_nil))) (pa_cons (pe_tup (pa_cons pe_str (pa_cons (pe_callB (call_isP F1 hp.mem F2 F3) (by rfl) T.z_isinstance (by decide +kernel) (pa_cons (pv 0) (pa_cons (pe_glob (by rfl) T.c_NotComing (by rfl)) pa_nil))) pa_nil))) pa_nil)))))
    (pss_cons (ps_set (i := 1) sc_kinds.nd rfl (Or.inl rfl) (pe_op oAdd (pv 1) (pe_lst (pa_cons (pe_tup (pa_cons pe_str (pa_cons (pe_callB (call_isP F1 hp.mem F2 F3) (by rfl) T.z_isinstance (by decide +kernel) (pa_cons (pv 0) (pa_cons (pe_glob (by rfl) T.c_Unbalanced (by rfl)) pa_nil))) pa_nil))) (pa_cons (pe_tup (pa_cons pe_str (pa_cons (pe_callB (call_isP F1 hp.mem F2 F3) (by rfl) T.z_isinstance (by decide +kernel) (pa_cons (pv 0) (pa_cons (pe_glob (by rfl) T.c_TooMany (by rfl)) pa_nil))) pa_nil))) pa_nil)))))
    (pss_cons (ps_set (i := 1) sc_kinds.nd rfl (Or.inl rfl) (pe_op oAdd (pv 1) (pe_lst (pa_cons (pe_tup (pa_cons pe_str (pa_cons (pe_callB (call_isP F1 hp.mem F2 F3) (by rfl) T.z_isinstance (by decide +kernel) (pa_cons (pv 0) (pa_cons (pe_glob (by rfl) T.c_BadWish (by rfl)) pa_nil))) pa_nil))) (pa_cons (pe_tup (pa_cons pe_str (pa_cons (pe_callB (call_isP F1 hp.mem F2 F3) (by rfl) T.z_isinstance (by decide +kernel) (pa_cons (pv 0) (pa_cons (pe_glob (by rfl) T.c_Clash (by rfl)) pa_nil))) pa_nil))) pa_nil)))))
    (pss_cons (ps_set (i := 1) sc_kinds.nd rfl (Or.inl rfl) (pe_op oAdd (pv 1) (pe_lst (pa_cons (pe_tup (pa_cons pe_str (pa_cons (pe_callB (call_isP F1 hp.mem F2 F3) (by rfl) T.z_isinstance (by decide +kernel) (pa_cons (pv 0) (pa_cons (pe_glob (by rfl) T.c_OtherDoors (by rfl)) pa_nil))) pa_nil))) (pa_cons (pe_tup (pa_cons pe_str (pa_cons (pe_callB (call_isP F1 hp.mem F2 F3) (by rfl) T.z_isinstance (by decide +kernel) (pa_cons (pv 0) (pa_cons (pe_glob (by rfl) T.c_NoStory (by rfl)) pa_nil))) pa_nil))) pa_nil)))))
    (pss_cons (ps_set (i := 1) sc_kinds.nd rfl (Or.inl rfl) (pe_op oAdd (pv 1) (pe_lst (pa_cons (pe_tup (pa_cons pe_str (pa_cons (pe_callB (call_isP F1 hp.mem F2 F3) (by rfl) T.z_isinstance (by decide +kernel) (pa_cons (pv 0) (pa_cons (pe_glob (by rfl) T.c_BadOrder (by rfl)) pa_nil))) pa_nil))) (pa_cons (pe_tup (pa_cons pe_str (pa_cons (pe_callB (call_isP F1 hp.mem F2 F3) (by rfl) T.z_isinstance (by decide +kernel) (pa_cons (pv 0) (pa_cons (pe_glob (by rfl) T.c_OrderRefused (by rfl)) pa_nil))) pa_nil))) pa_nil)))))
    (pss_cons (ps_set (i := 1) sc_kinds.nd rfl (Or.inl rfl) (pe_op oAdd (pv 1) (pe_lst (pa_cons (pe_tup (pa_cons pe_str (pa_cons (pe_callB (call_isP F1 hp.mem F2 F3) (by rfl) T.z_isinstance (by decide +kernel) (pa_cons (pv 0) (pa_cons (pe_glob (by rfl) T.c_OutOfSteps (by rfl)) pa_nil))) pa_nil))) (pa_cons (pe_tup (pa_cons pe_str (pa_cons (pe_callB (call_isP F1 hp.mem F2 F3) (by rfl) T.z_isinstance (by decide +kernel) (pa_cons (pv 0) (pa_cons (pe_glob (by rfl) T.c_NotEmpty (by rfl)) pa_nil))) pa_nil))) pa_nil)))))
    (pss_cons (ps_set (i := 1) sc_kinds.nd rfl (Or.inl rfl) (pe_op oAdd (pv 1) (pe_lst (pa_cons (pe_tup (pa_cons pe_str (pa_cons (pe_callB (call_isP F1 hp.mem F2 F3) (by rfl) T.z_isinstance (by decide +kernel) (pa_cons (pv 0) (pa_cons (pe_glob (by rfl) T.c_NoChange (by rfl)) pa_nil))) pa_nil))) (pa_cons (pe_tup (pa_cons pe_str (pa_cons (pe_callB (call_isP F1 hp.mem F2 F3) (by rfl) T.z_isinstance (by decide +kernel) (pa_cons (pv 0) (pa_cons (pe_glob (by rfl) T.c_NothingDone (by rfl)) pa_nil))) pa_nil))) pa_nil)))))
    (pss_cons (ps_set (i := 1) sc_kinds.nd rfl (Or.inl rfl) (pe_op oAdd (pv 1) (pe_lst (pa_cons (pe_tup (pa_cons pe_str (pa_cons (pe_callB (call_isP F1 hp.mem F2 F3) (by rfl) T.z_isinstance (by decide +kernel) (pa_cons (pv 0) (pa_cons (pe_glob (by rfl) T.c_BadClaim (by rfl)) pa_nil))) pa_nil))) pa_nil))))
    (pss_one (ps_ret (pe_sel hp (pv 1) (fun _ => rfl) (by decide +kernel) rfl (by decide +kernel) (by decide +kernel))))))))))))))))))))))
theorem sc_values : FnScope ["store", "found", "k", "weight", "great"] ["store"] (defScope s_values) := ⟨rfl, rfl, rfl, by decide +kernel, rfl, by decide +kernel, by decide +kernel⟩
theorem h_values (T : Txt K mg) : Has P w K mg base "_law_values" 5 ["store"] sp_values := by
  refine has_of (N := ["store", "found", "k", "weight", "great"]) (k := 4) (t := t_values K) T.g_values T.F_values sc_values l_values (fun _ _ _ _ _ _ us hl => match us, hl with | [_], _ => rfl) (fun cdv A outer s H E hr => ?_) (p_values K)
  exact (pss_cons (ps_set (i := 1) sc_values.nd rfl (Or.inl rfl) (pe_lst (pa_cons pe_bl (pa_cons pe_bl (pa_cons pe_non (pa_cons pe_int (pa_cons pe_int (pa_cons (pe_gi T.k_MOST_WEIGHT) pa_nil))))))))
    (pss_cons (ps_for PassesOwn.never rfl (pi_range1 (by rfl) T.z_range (pa_cons pe_int pa_nil)) (pg_name (i := 2) sc_values.nd rfl (Or.inl rfl)) (pss_cons (ps_set (i := 3) sc_values.nd rfl (Or.inl rfl) (pe_dc (h_weight T) hr (pa_cons (pv 0) (pa_cons (pe_powc pe_int pe_int 1000000000 (by decide +kernel)) pa_nil))))
    (pss_one (ps_set (i := 1) sc_values.nd rfl (Or.inl rfl) (pe_op oAdd (pv 1) (pe_lst (pa_cons (pv 3) (pa_cons (pe_op oSub pe_int (pv 3)) (pa_cons (pe_op oAdd (pe_powc pe_int pe_int 1000000000 (by decide +kernel)) (pv 3)) (pa_cons (pe_op oSub (pe_addc (pe_powc pe_int pe_int 1000000000 (by decide +kernel)) pe_int 1000000001 (by decide +kernel)) (pv 3)) pa_nil))))))))))
    (pss_cons (ps_for PassesOwn.never rfl (pi_range1 (by rfl) T.z_range (pa_cons pe_int pa_nil)) (pg_name (i := 2) sc_values.nd rfl (Or.inl rfl)) (pss_one (ps_set (i := 1) sc_values.nd rfl (Or.inl rfl) (pe_op oAdd (pv 1) (pe_lst (pa_cons (pe_dc (h_not_integer T) hr (pa_cons (pv 0) (pa_cons pe_int (pa_cons (pe_powc pe_int pe_int 1000000000 (by decide +kernel)) pa_nil)))) (pa_cons (pe_op oSub (pe_dc (h_take T) hr (pa_cons (pv 0) (pa_cons (pe_mulc pe_int (pe_powc pe_int pe_int 1000000000000000000000000000000000000000000000000000000000000 (by decide +kernel)) 2000000000000000000000000000000000000000000000000000000000000 (by decide +kernel)) pa_nil))) (pe_powc pe_int pe_int 1000000000000000000000000000000000000000000000000000000000000 (by decide +kernel))) pa_nil)))))))
    (pss_cons (ps_set (i := 4) sc_values.nd rfl (Or.inl rfl) (pe_callTy (cIntL T.dig) (by rfl) T.z_int (by decide +kernel) (pa_cons (pe_op oAdd pe_str (pe_op oMulS pe_str (pe_dc (h_take T) hr (pa_cons (pv 0) (pa_cons pe_int pa_nil))))) pa_nil)))
    (pss_one (ps_ret (pe_op oAdd (pv 1) (pe_lst (pa_cons (pv 4) (pa_cons (pe_un un_neg (pv 4)) (pa_cons (pe_callTy (cIntL T.dig) (by rfl) T.z_int (by decide +kernel) (pa_cons (pe_op oMulS pe_str (pe_op oAdd pe_int (pe_dc (h_take T) hr (pa_cons (pv 0) (pa_cons pe_int pa_nil))))) pa_nil)) pa_nil)))))))))))
theorem sc_asked : FnScope ["value", "due", "told", "e"] ["value"] (defScope s_asked) := ⟨rfl, rfl, rfl, by decide +kernel, rfl, by decide +kernel, by decide +kernel⟩
theorem h_asked (T : Txt K mg) : Has P w K mg base "_law_asked" 4 ["value"] sp_asked := by
  refine has_of (N := ["value", "due", "told", "e"]) (k := 3) (t := t_asked K) T.g_asked T.F_asked sc_asked l_asked (fun _ _ _ _ _ _ us hl => match us, hl with | [_], _ => rfl) (fun cdv A outer s H E hr => ?_) (p_asked K T.er_BadWeight T.fn_BadWeight_weight)
  exact (pss_cons (ps_set (i := 1) sc_asked.nd rfl (Or.inl rfl) (pe_and (pe_dc (h_is_integer T) hr (pa_cons (pv 0) pa_nil)) (pe_one (pe_chain oLe oLe pe_int (pv 0) pe_int))))
    (pss_cut (ps_tryA (i := 3) (c := .ref (He.ga K "NestError")) rfl rfl sc_asked.nd rfl rfl ⟨by rfl, by decide, .inl T.c_NestError⟩ tkNone (fun W pn xe tk _ => (pss_one (ps_set (i := 2) sc_asked.nd rfl (Or.inl rfl) (pe_dcS (h_valid_weight T) hr (fun σ => L2N.passAt tk σ) (pa_cons (pv 0) pa_nil))))) (fun a oe cls d pn hz hf => (pss_cons (ps_if (pw_or (pt_truth (pv 1) (fun _ => rfl)) (pw_or1 (pt_not (pt_truth (pe_hc (hh_same T 3) (roomS hr) (hotS hz hf) (pa_cons (pe_kd (fun C b F G Z => hh_kinds T F G Z hf) (roomS hr) hz hf (pv 3)) (pa_cons (pe_lst (pa_cons pe_str (pa_cons pe_str (pa_cons pe_str pa_nil)))) pa_nil))) (fun _ => rfl))))).pt (pss_one (ps_ret pe_bl)) pss_nil)
    (pss_one (ps_ret (pe_hc (hh_same T 3) (roomS hr) (hotS hz hf) (pa_cons (pe_xfE hz hf (pv 3)) (pa_cons (pv 0) pa_nil))))))))
    (pss_one (ps_ret (pe_and (pv 1) (pe_one (pe_dc (h_same T 3) hr (pa_cons (pv 2) (pa_cons (pv 0) pa_nil)))))))))
theorem sc_law : FnScope ["script", "store", "values", "value", "bare"] ["script"] (defScope s_law) := ⟨rfl, rfl, rfl, by decide +kernel, rfl, by decide +kernel, by decide +kernel⟩
theorem h_law (T : Txt K mg) : ∃ fd, (∀ (s : Shared) (u : Value), BindsTo s fd ⟨[u], []⟩ [("script", u)]) ∧ ∀ base : Heap, FnOk P w K mg base CX0 6 (He.ga K "law") fd ["script"] (sp_law01 K) := by
  obtain ⟨fd, F⟩ := T.F_law
  have b := FunD.bindsA (ps := ["script"]) F fun _ _ _ _ _ _ us hl => match us, hl with | [_], _ => rfl
  refine ⟨fd, fun s v => b s [v] rfl, fun base => law_of (N := ["script", "store", "values", "value", "bare"]) (k := 5) (t := t_law01 K) F sc_law (l_law01 K) (fun cdv A outer s H E hr => ?_) (p_law01 K T.er_BadWeight T.fn_BadWeight_weight)⟩
  exact (pss_cons (ps_if (pt_not (pt_truth (pe_dc (h_same T 3) hr (pa_cons (pe_gi T.k_MOST_WEIGHT) (pa_cons pe_int pa_nil))) (fun _ => rfl))) (pss_one (ps_ret pe_bl)) pss_nil)
    (pss_cons (ps_set (i := 1) sc_law.nd rfl (Or.inl rfl) (pe_dc (h_store T) hr (pa_cons (pv 0) pa_nil)))
    (pss_cons (ps_set (i := 2) sc_law.nd rfl (Or.inl rfl) (pe_dc (h_values T) hr (pa_cons (pv 1) pa_nil)))
    (pss_cons (ps_for PassesOwn.never rfl (pi_list (pe_op oAdd (pe_op oAdd (pv 2) (pe_lst (pa_cons (pe_callTy cStr (by rfl) T.z_str (by decide +kernel) (pa_cons (pe_ix oIx (pv 2) pe_int (fun _ _ => rfl)) pa_nil)) (pa_cons (pe_callTy cStr (by rfl) T.z_str (by decide +kernel) (pa_cons (pe_ix oIx (pv 2) pe_int (fun _ _ => rfl)) pa_nil)) pa_nil)))) (pe_listRev rfl (by rfl) T.z_list (by rfl) T.z_reversed (pv 2)))) (pg_name (i := 3) sc_law.nd rfl (Or.inl rfl)) (pss_one (ps_if (pt_not (pt_truth (pe_dc (h_asked T) hr (pa_cons (pv 3) pa_nil)) (fun _ => rfl))) (pss_one (ps_ret pe_bl)) pss_nil)))
    (pss_cons (ps_set (i := 4) sc_law.nd rfl (Or.inl rfl) (pe_mkX (i_BadWeight T) T.c_BadWeight hr (pa_cons (pe_ix oIx (pv 2) (pe_un un_neg pe_int) (fun _ _ => rfl)) pa_nil)))
    (pss_one (ps_ret (pe_dc (h_same T 3) hr (pa_cons (pe_xv (pv 4)) (pa_cons (pe_ix oIx (pv 2) (pe_un un_neg pe_int) (fun _ _ => rfl)) pa_nil))))))))))
end
end NW
namespace NW
open PySem PySem.Spec PyProof.Rows L2
theorem txt {K : PySem.W.Frag} {h : Heap} {mg : Str → Option Value} (X : K.In h) (G : h.Ns mainGlobals mg) (c : He.SaysD fa fn K) (ok : (okL K).all id = true) : Txt K mg := by
  constructor
  · exact He.glo_ok X G (c.fact 0 (f := .glo "_law_mix") rfl)
  · exact c.def_ 0 (d := d_mix) rfl
  · exact He.glo_ok X G (c.fact 1 (f := .glo "_law_take") rfl)
  · exact c.def_ 1 (d := d_take) rfl
  · exact He.glo_ok X G (c.fact 2 (f := .glo "_law_number") rfl)
  · exact c.def_ 2 (d := d_number) rfl
  · exact He.glo_ok X G (c.fact 3 (f := .glo "_law_pick") rfl)
  · exact c.def_ 3 (d := d_pick) rfl
  · exact He.glo_ok X G (c.fact 4 (f := .glo "_law_weight") rfl)
  · exact c.def_ 4 (d := d_weight) rfl
  · exact He.glo_ok X G (c.fact 5 (f := .glo "_law_not_integer") rfl)
  · exact c.def_ 5 (d := d_not_integer) rfl
  · exact He.glo_ok X G (c.fact 6 (f := .glo "_law_is_integer") rfl)
  · exact c.def_ 6 (d := d_is_integer) rfl
  · exact He.glo_ok X G (c.fact 7 (f := .glo "is_number") rfl)
  · exact c.def_ 7 (d := d_is_number) rfl
  · exact He.glo_ok X G (c.fact 8 (f := .glo "_law_store") rfl)
  · exact c.def_ 8 (d := d_store) rfl
  · exact He.glo_ok X G (c.fact 9 (f := .glo "valid_weight") rfl)
  · exact c.def_ 9 (d := d_valid_weight) rfl
  · exact He.glo_ok X G (c.fact 10 (f := .glo "_law_same") rfl)
  · exact c.def_ 10 (d := d_same) rfl
  · exact He.glo_ok X G (c.fact 11 (f := .glo "_law_kinds") rfl)
  · exact c.def_ 11 (d := d_kinds) rfl
  · exact He.glo_ok X G (c.fact 12 (f := .glo "_law_values") rfl)
  · exact c.def_ 12 (d := d_values) rfl
  · exact He.glo_ok X G (c.fact 13 (f := .glo "_law_asked") rfl)
  · exact c.def_ 13 (d := d_asked) rfl
  · exact He.glo_ok X G (c.fact 14 (f := .glo "law") rfl)
  · exact c.def_ 14 (d := d_law) rfl
  · exact He.free_ok X G (c.fact 49 (f := .free "ValueError") rfl)
  · exact He.free_ok X G (c.fact 50 (f := .free "abs") rfl)
  · exact He.free_ok X G (c.fact 51 (f := .free "bool") rfl)
  · exact He.free_ok X G (c.fact 52 (f := .free "dict") rfl)
  · exact He.free_ok X G (c.fact 53 (f := .free "int") rfl)
  · exact He.free_ok X G (c.fact 54 (f := .free "isinstance") rfl)
  · exact He.free_ok X G (c.fact 55 (f := .free "len") rfl)
  · exact He.free_ok X G (c.fact 56 (f := .free "list") rfl)
  · exact He.free_ok X G (c.fact 57 (f := .free "max") rfl)
  · exact He.free_ok X G (c.fact 58 (f := .free "min") rfl)
  · exact He.free_ok X G (c.fact 59 (f := .free "range") rfl)
  · exact He.free_ok X G (c.fact 60 (f := .free "reversed") rfl)
  · exact He.free_ok X G (c.fact 61 (f := .free "str") rfl)
  · exact He.free_ok X G (c.fact 62 (f := .free "tuple") rfl)
  · exact He.int_ok X G (c.fact 63 (f := .int "MOST_WEIGHT" 1000000000) rfl)
  · exact He.glo_ok X G (c.fact 15 (f := .glo "BadClaim") rfl)
  · exact He.glo_ok X G (c.fact 16 (f := .glo "BadCount") rfl)
  · exact He.glo_ok X G (c.fact 17 (f := .glo "BadName") rfl)
  · exact He.glo_ok X G (c.fact 18 (f := .glo "BadNumber") rfl)
  · exact He.glo_ok X G (c.fact 19 (f := .glo "BadOrder") rfl)
  · exact He.glo_ok X G (c.fact 20 (f := .glo "BadText") rfl)
  · exact He.glo_ok X G (c.fact 21 (f := .glo "BadWeight") rfl)
  · exact He.glo_ok X G (c.fact 22 (f := .glo "BadWish") rfl)
  · exact He.glo_ok X G (c.fact 23 (f := .glo "Broken") rfl)
  · exact He.glo_ok X G (c.fact 24 (f := .glo "Clash") rfl)
  · exact He.glo_ok X G (c.fact 25 (f := .glo "Idle") rfl)
  · exact He.glo_ok X G (c.fact 26 (f := .glo "Inside") rfl)
  · exact He.glo_ok X G (c.fact 27 (f := .glo "Loop") rfl)
  · exact He.glo_ok X G (c.fact 28 (f := .glo "Nailed") rfl)
  · exact He.glo_ok X G (c.fact 29 (f := .glo "NestError") rfl)
  · exact He.glo_ok X G (c.fact 30 (f := .glo "NoChange") rfl)
  · exact He.glo_ok X G (c.fact 31 (f := .glo "NoHolder") rfl)
  · exact He.glo_ok X G (c.fact 32 (f := .glo "NoStory") rfl)
  · exact He.glo_ok X G (c.fact 33 (f := .glo "NotComing") rfl)
  · exact He.glo_ok X G (c.fact 34 (f := .glo "NotEmpty") rfl)
  · exact He.glo_ok X G (c.fact 35 (f := .glo "NothingDone") rfl)
  · exact He.glo_ok X G (c.fact 36 (f := .glo "OrderRefused") rfl)
  · exact He.glo_ok X G (c.fact 37 (f := .glo "OtherDoors") rfl)
  · exact He.glo_ok X G (c.fact 38 (f := .glo "OtherYard") rfl)
  · exact He.glo_ok X G (c.fact 39 (f := .glo "OutOfSteps") rfl)
  · exact He.glo_ok X G (c.fact 40 (f := .glo "Refusal") rfl)
  · exact He.glo_ok X G (c.fact 41 (f := .glo "Same") rfl)
  · exact He.glo_ok X G (c.fact 42 (f := .glo "Sealed") rfl)
  · exact He.glo_ok X G (c.fact 43 (f := .glo "Short") rfl)
  · exact He.glo_ok X G (c.fact 44 (f := .glo "TooMany") rfl)
  · exact He.glo_ok X G (c.fact 45 (f := .glo "Twice") rfl)
  · exact He.glo_ok X G (c.fact 46 (f := .glo "Unbalanced") rfl)
  · exact He.glo_ok X G (c.fact 47 (f := .glo "Unknown") rfl)
  · exact He.glo_ok X G (c.fact 48 (f := .glo "Unlike") rfl)
  · exact okAt ok 0
  · exact err1_ok (okAt ok 1) (okAt ok 2) (okAt ok 3) (c.def_ 15 (d := d_BadWeight) rfl)
  · exact errFB_ok (okAt ok 4)
  · exact He.eqO_ok (okAt ok 3)
end NW
open PySem PySem.W PySem.Calls PyProof.Rows
theorem PySem.Challenge.cw_nestweigh_k01_own_weights_holds : PySem.Challenge.rw_nestweigh_k01_own_weights.Holds := by
  refine NW.early fun hws => ?_
  refine HandSHeadRun.head_any (r := OpenLaw.row PySem.Challenge.rw_nestweigh_k01_own_weights) (q := view (OpenLaw.row PySem.Challenge.rw_nestweigh_k01_own_weights).prog [52]) (H := NW.hk) (ob := NW.ob) (M := 20000) (loose := NW.names) (d := HandSHeadRun.topDef (OpenLaw.row PySem.Challenge.rw_nestweigh_k01_own_weights).prog 52) (kwd := []) NW.ob_eq
    (by kernel_rfl) (fun s => by kernel_rfl)
    NW.run (by kernel_rfl) (by kernel_rfl) (by kernel_rfl) (by rfl) (by exact hws) (by decide +kernel) ⟨rfl, rfl, rfl, rfl, rfl, by decide +kernel⟩ ?hw ?hc
  case hw => w_witness2
  case hc =>
    refine L2.walk_ofE (l := PySem.Challenge.rw_nestweigh_k01_own_weights) (n := 63) (k := 6) (x := "script") (CX := L2.CX0) rfl (by decide) (by kernel_rfl) ⟨rfl, by decide, by decide⟩ ?F (fun _ _ _ _ z => z)
    intro w mg fa h Y G hmg0
    obtain ⟨K, KX, c, ok⟩ := Y
    have T : NW.Txt K mg := NW.txt KX G c ok
    have hmg : mg ("law" : PySem.Str) = some (.ref fa) := by
      have e : (HandSHeadRun.topDef (OpenLaw.row PySem.Challenge.rw_nestweigh_k01_own_weights).prog 52).name = ("law" : PySem.Str) := by kernel_rfl
      rw [← e]
      exact hmg0
    have e2 : fa = He.ga K "law" := NW.ref_inj (hmg.symm.trans T.g_law)
    rw [e2]
    obtain ⟨fd, hb, hF⟩ := NW.h_law (P := (PySem.Challenge.rw_nestweigh_k01_own_weights).prog) (w := w) T
    exact ⟨K, fd, NW.sp_law01 K, KX, hb, fun H a ns hl _ hS => ⟨a, ns, rfl, hS, fun _ => rfl⟩, fun base _ _ => hF base⟩
