import PyProof.Rows.All
import Wide.All
import OpenK.AllK
import Wide.FinOn
import KE.KStateDown
import KE.KMathGC
import KE.KExcIs
import KE.GoesMore
import KE.GoesComp
import HandS.ForMost
import HandS.Exc
import HandS.TryOnly
import HandS.TryMany
import HandS.ExcCtx
import HandS.Hot
import HandS.HotCalls
import HandS.ExcInit
import HandS.ExcInitHot
import HandS.ExcIs
import HandS.ExcField
import HandS.WordsExc
import HandS.Defaults
import HandS.Wide
import HandS.IsInst
import HandS.Conv
import HandS.Codes
import HandS.Head0
import HandS.Head1
import HandS.Head2
import HandS.HeadEnd
import HandS.HeadHook1
import HandS.HeadHook2
import HandS.Head3
import HandS.Rev
import HandS.RevTup
import HandS.Flow
import HandS.ExcValue
import HandS.SetFor
import HandS.SortInts
import PyProof.Rows.SortShellAny
import HandS.Strs
import HandS.FStr
import HandS.MakeKwOnly
import HandS.Dict
import HandS.WordsDict
import PySem.Challenge.RW_nestweigh_k02_ordered_and_fresh
set_option Elab.async false
set_option linter.all false
set_option maxRecDepth 100000
set_option maxHeartbeats 4000000
set_option exponentiation.threshold 1000
namespace NW
open PySem PySem.Spec PyProof.Rows L2
def errN1 : List Str := ["NestError", "Refusal", "BadName", "BadWeight", "BadNumber", "BadCount", "Twice", "Unknown", "NoHolder", "Loop", "Short", "BadText", "OtherYard", "Same", "Inside", "Unlike", "Nailed"]
def errN2 : List Str := ["Sealed", "Idle", "Broken", "NotComing", "Unbalanced", "TooMany", "BadWish", "Clash", "OtherDoors", "NoStory", "BadOrder", "OrderRefused", "OutOfSteps", "NotEmpty", "NoChange", "NothingDone", "BadClaim"]
def inL (l : List Str) : Str → Bool := fun s => decide (s ∈ l)
def clsFn (s : Stmt) : Stmt := match s with | .ClassDef (body := b) .. => b.getD 0 (.Pass ⟨0, 0, 0, 0⟩) | _ => .Pass ⟨0, 0, 0, 0⟩
def oexK (K : PySem.W.Frag) (C : Addr) : Bool := match K.lookup C with
  | some ⟨.type "type", _, .cls cd, sl⟩ => (match cd.mro, sl.toList with
    | .ref C' :: bm, [_, _, _, _, some (.builtin n), _] => C' == C && n == "ValueError.__new__" && !cd.hasDel && cd.hasDict && PySem.HandSPX.refsVE bm
    | _, _ => false)
  | _ => false
def oexB (K : PySem.W.Frag) (C : Addr) : Bool := oexK K C && (He.eqO (PySem.W.findIn K (.ref C) "__setattr__") (some (some (.builtin "object.__setattr__"))) && (decide (PySem.W.subIn K (.ref C) (.type "BaseException") = some true) && (decide (PySem.W.typeIn K (.ref C) = some (.type "type")) && PySem.W.keepIn K (.ref C))))
def kitFB (K : PySem.W.Frag) (C : Addr) (b : Str → Bool) : Bool := decide (PySem.W.kitOne K (.ref C) (.type "ValueError") = some (b "ValueError")) && (errN1 ++ errN2).all fun n => decide (PySem.W.kitOne K (.ref C) (.ref (He.ga K n)) = some (b n))
def excCB (K : PySem.W.Frag) (D : Addr) : Bool := He.eqO (PySem.W.findIn K (.ref D) "__getattribute__") (some (some (.builtin "BaseException.__getattribute__"))) && (He.eqO (PySem.W.findIn K (.ref D) "__getattr__") (some none) && (decide (PySem.W.subIn K (.ref D) (.type "BaseException") = some true) && (PySem.W.hasDictIn K D &&
  (He.eqO (PySem.W.findIn K (.ref D) "__class__") (some (some (.builtin "object.__class__"))) && (He.eqO (PySem.W.specialIn K (.builtin "object.__class__") "__get__") (some (some (.builtin "getset_descriptor.__get__"))) && (decide (PySem.W.takesIn K (.builtin "object.__class__") = some true) && decide (PySem.W.mroIn K D (.type "object") = some true)))))))
def errFB (K : PySem.W.Frag) (C : Addr) (b : Str → Bool) : Bool := kitFB K C b && (excCB K C && (xfB K C && decide (PySem.W.exmOne K (.ref C) (.ref (He.ga K "NestError")) = some true)))
def iniB (K : PySem.W.Frag) (C : Addr) : Bool := He.eqO (PySem.W.findIn K (.ref C) "__init__") (some (some (.ref (He.ma K C "__init__")))) && decide (PySem.W.typeIn K (.ref (He.ma K C "__init__")) = some (.type "function"))
def hookX (n : Nat) (fa : List He.Fa) (fn : List He.DefD) (ok : PySem.W.Frag → List Bool) : PySem.W.Hook where
  α := He.AlD × Bool
  obs := fun s => (He.obsDG n fa fn s.heap.get?, (ok (He.frG s.heap.get? (He.asD s.heap.get? n))).all id)
  val := fun _ => (He.valD fn, true)
  says := fun _ h => ∃ K : PySem.W.Frag, K.In h ∧ He.SaysD fa fn K ∧ (ok K).all id = true
  of := fun _ _ e => ⟨_, He.frG_in, congrArg (fun z : He.AlD × Bool => z.1) e, congrArg (fun z : He.AlD × Bool => z.2) e⟩
  keeps := fun _ _ _ ⟨K, hK, c⟩ k => ⟨K, PySem.W.Frag.In.keeps hK k, c⟩
def obsX (n : Nat) (fa : List He.Fa) (fn : List He.DefD) (ok : PySem.W.Frag → List Bool) (g : Addr → Option Obj) : He.AlD × Bool := let K := He.frG g (He.asD g n)
  (He.obsD fa fn K, (ok K).all id)
theorem obsX_eq {n : Nat} {fa : List He.Fa} {fn : List He.DefD} {ok : PySem.W.Frag → List Bool} {g : Addr → Option Obj} {s : Shared} (h : ∀ a, g a = s.heap.get? a) : obsX n fa fn ok g = (hookX n fa fn ok).obs s := by
  have e : g = s.heap.get? := funext h
  rw [e] <;> rfl
end NW
namespace NW
open PySem PySem.Spec PyProof.Rows L2
end NW
namespace DL
open PySem PySem.Spec PyProof.Rows
def kindsOf : Str → List Str := fun c => if c ∈ (["Same", "Inside", "Unlike", "Nailed", "Sealed", "Idle"] : List Str) then ["ValueError", "NestError", "Refusal", c] else ["ValueError", "NestError", c]
def allErr : List Str := ["BadName", "BadWeight", "BadNumber", "BadCount", "Twice", "Short", "BadText", "Unbalanced", "Broken", "NotComing", "TooMany", "BadWish", "Clash", "OtherDoors", "NoStory", "BadOrder", "OrderRefused", "OutOfSteps", "NotEmpty", "NoChange", "NothingDone", "BadClaim", "OtherYard", "Unknown", "NoHolder", "Loop", "Same", "Inside", "Unlike", "Nailed", "Sealed", "Idle"]
def allFld : List (Str × Str) := [(("BadName" : Str), ("name" : Str)), (("Twice" : Str), ("name" : Str)), (("Unknown" : Str), ("name" : Str)), (("NoHolder" : Str), ("name" : Str)), (("Loop" : Str), ("name" : Str)), (("Same" : Str), ("name" : Str)), (("Nailed" : Str), ("name" : Str)), (("Sealed" : Str), ("name" : Str))] ++ [(("Idle" : Str), ("name" : Str)), (("Unbalanced" : Str), ("name" : Str)), (("Clash" : Str), ("name" : Str)), (("NotEmpty" : Str), ("name" : Str)), (("NoChange" : Str), ("name" : Str)), (("BadWeight" : Str), ("weight" : Str)), (("BadNumber" : Str), ("number" : Str)), (("Short" : Str), ("number" : Str))] ++ [(("BadWish" : Str), ("at" : Str)), (("BadClaim" : Str), ("claim" : Str)), (("NotComing" : Str), ("bar" : Str)), (("OrderRefused" : Str), ("line" : Str)), (("OrderRefused" : Str), ("reason" : Str)), (("OrderRefused" : Str), ("deeds" : Str)), (("OutOfSteps" : Str), ("line" : Str)), (("OutOfSteps" : Str), ("deeds" : Str))] ++ [(("Unlike" : Str), ("first" : Str)), (("Unlike" : Str), ("second" : Str)), (("Unlike" : Str), ("first_weight" : Str)), (("Unlike" : Str), ("second_weight" : Str)), (("Inside" : Str), ("inner" : Str)), (("Inside" : Str), ("outer" : Str)), (("TooMany" : Str), ("many" : Str)), (("TooMany" : Str), ("limit" : Str))] ++ [(("Broken" : Str), ("at" : Str)), (("Broken" : Str), ("reason" : Str)), (("BadCount" : Str), ("what" : Str)), (("BadCount" : Str), ("many" : Str)), (("BadText" : Str), ("line" : Str)), (("BadText" : Str), ("fault" : Str)), (("BadOrder" : Str), ("line" : Str)), (("BadOrder" : Str), ("fault" : Str))]
end DL
namespace NW
open PySem PySem.W PySem.Calls PyProof.Rows
theorem early (h : (PySem.W.OpenLaw.row PySem.Challenge.rw_nestweigh_k02_ordered_and_fresh).wellSaid = true → (PySem.W.OpenLaw.row PySem.Challenge.rw_nestweigh_k02_ordered_and_fresh).Holds) : PySem.Challenge.rw_nestweigh_k02_ordered_and_fresh.Holds := by
  w_on; o_law
  exact h (by assumption)
end NW
namespace NW
open PySem PySem.Spec PyProof.Rows L2
def top (i : Nat) : Stmt := PySem.Challenge.pw_nestweigh_k02_ordered_and_fresh.main.body.getD i (.Pass ⟨0, 0, 0, 0⟩)
abbrev q_mix : Stmt := top 46
abbrev q_take : Stmt := top 47
abbrev q_store : Stmt := top 45
abbrev q_same : Stmt := top 62
abbrev q_kinds : Stmt := top 63
abbrev q_edge : Stmt := top 48
abbrev q_number : Stmt := top 49
abbrev q_pick : Stmt := top 50
abbrev q_shuffled : Stmt := top 51
abbrev q_row_of : Stmt := top 52
abbrev q_put : Stmt := top 53
abbrev q_sign : Stmt := top 54
abbrev q_name_of : Stmt := top 55
abbrev q_name : Stmt := top 56
abbrev q_unlike : Stmt := top 57
abbrev q_name_like_by : Stmt := top 58
abbrev q_names_by : Stmt := top 59
abbrev q_not_name : Stmt := top 60
abbrev q_is_name : Stmt := top 61
abbrev q_Pis_name : Stmt := top 40
abbrev q_Pvalid_name : Stmt := top 41
abbrev q_Pordered : Stmt := top 42
abbrev q_Pfresh_name : Stmt := top 43
abbrev q_drawn_row : Stmt := top 64
abbrev q_is_sorted : Stmt := top 65
abbrev q_sorts : Stmt := top 66
abbrev q_refuses : Stmt := top 67
abbrev q_taken : Stmt := top 68
abbrev q_fresh : Stmt := top 69
abbrev q_stops : Stmt := top 70
abbrev q_law : Stmt := top 71
abbrev q_BadName : Stmt := clsFn (top 3)
def d_mix : He.DefD := ⟨("_law_mix", none), "_law_mix", "_law_mix", defArgs q_mix, defBody q_mix, defScope q_mix, [], []⟩
def d_take : He.DefD := ⟨("_law_take", none), "_law_take", "_law_take", defArgs q_take, defBody q_take, defScope q_take, [], []⟩
def d_store : He.DefD := ⟨("_law_store", none), "_law_store", "_law_store", defArgs q_store, defBody q_store, defScope q_store, [], []⟩
def d_same : He.DefD := ⟨("_law_same", none), "_law_same", "_law_same", defArgs q_same, defBody q_same, defScope q_same, [], []⟩
def d_kinds : He.DefD := ⟨("_law_kinds", none), "_law_kinds", "_law_kinds", defArgs q_kinds, defBody q_kinds, defScope q_kinds, [], []⟩
def d_edge : He.DefD := ⟨("_law_edge", none), "_law_edge", "_law_edge", defArgs q_edge, defBody q_edge, defScope q_edge, [], []⟩
def d_number : He.DefD := ⟨("_law_number", none), "_law_number", "_law_number", defArgs q_number, defBody q_number, defScope q_number, [], []⟩
def d_pick : He.DefD := ⟨("_law_pick", none), "_law_pick", "_law_pick", defArgs q_pick, defBody q_pick, defScope q_pick, [], []⟩
def d_shuffled : He.DefD := ⟨("_law_shuffled", none), "_law_shuffled", "_law_shuffled", defArgs q_shuffled, defBody q_shuffled, defScope q_shuffled, [], []⟩
def d_row_of : He.DefD := ⟨("_law_row_of", none), "_law_row_of", "_law_row_of", defArgs q_row_of, defBody q_row_of, defScope q_row_of, [], []⟩
def d_put : He.DefD := ⟨("_law_put", none), "_law_put", "_law_put", defArgs q_put, defBody q_put, defScope q_put, [], []⟩
def d_sign : He.DefD := ⟨("_law_sign", none), "_law_sign", "_law_sign", defArgs q_sign, defBody q_sign, defScope q_sign, [], []⟩
def d_name_of : He.DefD := ⟨("_law_name_of", none), "_law_name_of", "_law_name_of", defArgs q_name_of, defBody q_name_of, defScope q_name_of, [], []⟩
def d_name : He.DefD := ⟨("_law_name", none), "_law_name", "_law_name", defArgs q_name, defBody q_name, defScope q_name, [], []⟩
def d_unlike : He.DefD := ⟨("_law_unlike", none), "_law_unlike", "_law_unlike", defArgs q_unlike, defBody q_unlike, defScope q_unlike, [], []⟩
def d_name_like_by : He.DefD := ⟨("_law_name_like_by", none), "_law_name_like_by", "_law_name_like_by", defArgs q_name_like_by, defBody q_name_like_by, defScope q_name_like_by, [], []⟩
def d_names_by : He.DefD := ⟨("_law_names_by", none), "_law_names_by", "_law_names_by", defArgs q_names_by, defBody q_names_by, defScope q_names_by, [], []⟩
def d_not_name : He.DefD := ⟨("_law_not_name", none), "_law_not_name", "_law_not_name", defArgs q_not_name, defBody q_not_name, defScope q_not_name, [], []⟩
def d_is_name : He.DefD := ⟨("_law_is_name", none), "_law_is_name", "_law_is_name", defArgs q_is_name, defBody q_is_name, defScope q_is_name, [], []⟩
def d_Pis_name : He.DefD := ⟨("is_name", none), "is_name", "is_name", defArgs q_Pis_name, defBody q_Pis_name, defScope q_Pis_name, [], []⟩
def d_Pvalid_name : He.DefD := ⟨("valid_name", none), "valid_name", "valid_name", defArgs q_Pvalid_name, defBody q_Pvalid_name, defScope q_Pvalid_name, [], []⟩
def d_Pordered : He.DefD := ⟨("ordered", none), "ordered", "ordered", defArgs q_Pordered, defBody q_Pordered, defScope q_Pordered, [], []⟩
def d_Pfresh_name : He.DefD := ⟨("fresh_name", none), "fresh_name", "fresh_name", defArgs q_Pfresh_name, defBody q_Pfresh_name, defScope q_Pfresh_name, [], [("stem", .str "z")]⟩
def d_drawn_row : He.DefD := ⟨("_law_drawn_row", none), "_law_drawn_row", "_law_drawn_row", defArgs q_drawn_row, defBody q_drawn_row, defScope q_drawn_row, [], []⟩
def d_is_sorted : He.DefD := ⟨("_law_is_sorted", none), "_law_is_sorted", "_law_is_sorted", defArgs q_is_sorted, defBody q_is_sorted, defScope q_is_sorted, [], []⟩
def d_sorts : He.DefD := ⟨("_law_sorts", none), "_law_sorts", "_law_sorts", defArgs q_sorts, defBody q_sorts, defScope q_sorts, [], []⟩
def d_refuses : He.DefD := ⟨("_law_refuses", none), "_law_refuses", "_law_refuses", defArgs q_refuses, defBody q_refuses, defScope q_refuses, [], []⟩
def d_taken : He.DefD := ⟨("_law_taken", none), "_law_taken", "_law_taken", defArgs q_taken, defBody q_taken, defScope q_taken, [], []⟩
def d_fresh : He.DefD := ⟨("_law_fresh", none), "_law_fresh", "_law_fresh", defArgs q_fresh, defBody q_fresh, defScope q_fresh, [], []⟩
def d_stops : He.DefD := ⟨("_law_stops", none), "_law_stops", "_law_stops", defArgs q_stops, defBody q_stops, defScope q_stops, [], []⟩
def d_law : He.DefD := ⟨("law", none), "law", "law", defArgs q_law, defBody q_law, defScope q_law, [], []⟩
def d_BadName : He.DefD := ⟨("BadName", some "__init__"), "__init__", "BadName.__init__", defArgs q_BadName, defBody q_BadName, defScope q_BadName, [], []⟩
def fn : List He.DefD := [d_mix, d_take, d_store, d_same, d_kinds, d_edge, d_number, d_pick, d_shuffled, d_row_of, d_put, d_sign, d_name_of, d_name, d_unlike, d_name_like_by] ++ [d_names_by, d_not_name, d_is_name, d_Pis_name, d_Pvalid_name, d_Pordered, d_Pfresh_name, d_drawn_row, d_is_sorted, d_sorts, d_refuses, d_taken, d_fresh, d_stops, d_law, d_BadName]
def fa0 : List He.Fa := [.glo "_law_mix", .glo "_law_take", .glo "_law_store", .glo "_law_same", .glo "_law_kinds", .glo "_law_edge", .glo "_law_number", .glo "_law_pick", .glo "_law_shuffled", .glo "_law_row_of", .glo "_law_put", .glo "_law_sign", .glo "_law_name_of", .glo "_law_name", .glo "_law_unlike", .glo "_law_name_like_by"]
def fa1 : List He.Fa := [.glo "_law_names_by", .glo "_law_not_name", .glo "_law_is_name", .glo "is_name", .glo "valid_name", .glo "ordered", .glo "fresh_name", .glo "_law_drawn_row", .glo "_law_is_sorted", .glo "_law_sorts", .glo "_law_refuses", .glo "_law_taken", .glo "_law_fresh", .glo "_law_stops", .glo "law", .glo "BadClaim"]
def fa2 : List He.Fa := [.glo "BadCount", .glo "BadName", .glo "BadNumber", .glo "BadOrder", .glo "BadText", .glo "BadWeight", .glo "BadWish", .glo "Broken", .glo "Clash", .glo "Idle", .glo "Inside", .glo "Loop", .glo "Nailed", .glo "NestError", .glo "NoChange", .glo "NoHolder"]
def fa3 : List He.Fa := [.glo "NoStory", .glo "NotComing", .glo "NotEmpty", .glo "NothingDone", .glo "OrderRefused", .glo "OtherDoors", .glo "OtherYard", .glo "OutOfSteps", .glo "Refusal", .glo "Same", .glo "Sealed", .glo "Short", .glo "TooMany", .glo "Twice", .glo "Unbalanced", .glo "Unknown"]
def fa4 : List He.Fa := [.glo "Unlike", .free "ValueError", .free "abs", .free "all", .free "bool", .free "dict", .free "int", .free "isinstance", .free "len", .free "list", .free "max", .free "min", .free "range", .free "set", .free "sorted", .free "str"]
def fa5 : List He.Fa := [.free "tuple", .str "DIGITS" "0123456789", .str "LETTERS" "abcdefghijklmnopqrstuvwxyz", .int "LONGEST_NAME" 8, .int "LONGEST_STEM" 5]
def fa : List He.Fa := fa0 ++ fa1 ++ fa2 ++ fa3 ++ fa4 ++ fa5
def okL (K : PySem.W.Frag) : List Bool := [oexB K (He.ga K "BadName"),
  iniB K (He.ga K "BadName"),
  He.eqO (PySem.W.findIn K (.ref (He.ga K "BadName")) "name") (some none),
  ((["BadName"] : List PySem.Str)).all fun c => errFB K (He.ga K c) (inL (DL.kindsOf c)),
  (([("BadName", "name")] : List (PySem.Str × PySem.Str))).all fun p => He.eqO (PySem.W.findIn K (.ref (He.ga K p.1)) p.2) (some none)]
def names0 : List PySem.Str := ["NestError", "Refusal", "BadName", "BadWeight", "BadNumber", "BadCount", "Twice", "Unknown", "NoHolder", "Loop", "Short", "BadText", "OtherYard", "Same", "Inside", "Unlike"]
def names1 : List PySem.Str := ["Nailed", "Sealed", "Idle", "Broken", "NotComing", "Unbalanced", "TooMany", "BadWish", "Clash", "OtherDoors", "NoStory", "BadOrder", "OrderRefused", "OutOfSteps", "NotEmpty", "NoChange"]
def names2 : List PySem.Str := ["NothingDone", "BadClaim", "LONGEST_NAME", "LONGEST_STEM", "LETTERS", "DIGITS", "is_name", "valid_name", "ordered", "fresh_name", "_law_store", "_law_mix", "_law_take", "_law_edge", "_law_number", "_law_pick"]
def names3 : List PySem.Str := ["_law_shuffled", "_law_row_of", "_law_put", "_law_sign", "_law_name_of", "_law_name", "_law_unlike", "_law_name_like_by", "_law_names_by", "_law_not_name", "_law_is_name", "_law_same", "_law_kinds", "_law_drawn_row", "_law_is_sorted", "_law_sorts"]
def names4 : List PySem.Str := ["_law_refuses", "_law_taken", "_law_fresh", "_law_stops"]
def names : List PySem.Str := names0 ++ names1 ++ names2 ++ names3 ++ names4
abbrev R : PySem.W.OpenRow := PySem.W.OpenLaw.row PySem.Challenge.rw_nestweigh_k02_ordered_and_fresh
abbrev hk : PySem.W.Hook := hookX 5 fa fn okL
def ob (s : PySem.W.SharedT) : He.AlD × Bool := obsX 5 fa fn okL (HandSHeadRun.getT s)
theorem ob_eq (s : PySem.W.SharedT) : ob s = hk.obs s.abs := obsX_eq (HandSHeadRun.getT_eq s)
theorem map3 {α β γ δ : Type} {x : Option α} {f : α → β} {g : α → γ} {k : α → δ} {b : β} {c : γ} {d : δ} (h1 : x.map (fun s => (f s, g s)) = some (b, c)) (h2 : x.map k = some d) : x.map (fun s => (f s, g s, k s)) = some (b, c, d) := by
  cases x with
  | none => cases h1
  | some s =>
    have e1 : (f s, g s) = (b, c) := Option.some.inj h1
    have e2 : k s = d := Option.some.inj h2
    obtain ⟨e3, e4⟩ := Prod.mk.inj e1
    show some (f s, g s, k s) = some (b, c, d)
    rw [e3, e4, e2]
abbrev vw : PySem.Program := PySem.W.view R.prog [71]
noncomputable abbrev xs (w : World) (os : OsState) := HandSHeadRun.endF (HandSHeadRun.stepQ (HandSHeadRun.denQ HandSHeadRun.tabQ) R.prog w) 20000 R.prog w os
theorem runA (w : World) (os : OsState) : (xs w os).map (fun s => (HandSHeadRun.looksF R.prog (PySem.W.boot_heap w.params) s.abs, HandSHeadRun.seenQ vw names (PySem.importedModules R.prog.main.body) (fun s => PySem.W.xlAt vw [] s && PySem.W.recOk R.toRowW.records s) s.abs)) = some (true, PySem.W.openGood vw names) := by kernel_rfl
theorem runB (w : World) (os : OsState) : (xs w os).map ob = some (hk.val w) := by kernel_rfl
theorem run (w : World) : HandSHeadRun.RunEq R vw hk ob 20000 names w := fun os => map3 (runA w os) (runB w os)
end NW
namespace NW
open PySem PySem.Spec PyProof.Rows L2
open C8 (tCut pss_cut)
theorem orOp {X : Cx} {f : Value → Value → Sem Value} {r q : R2} (a : OpR X f r) (b : OpR X f q) : OpR X f (fun x y H Q => r x y H Q ∨ q x y H Q) := by
  intro pins s σ H x y v u Q I rx ry h
  cases h with
  | inl h => exact a pins s σ H x y v u Q I rx ry h
  | inr h => exact b pins s σ H x y v u Q I rx ry h
theorem orCall {X : Cx} {f : Value} {r q : List V → Hp → VK → Prop} (a : CallR X f r) (b : CallR X f q) : CallR X f (fun xs H Q => r xs H Q ∨ q xs H Q) := by
  intro pins s σ H xs us Q I rx h
  cases h with
  | inl h => exact a pins s σ H xs us Q I rx h
  | inr h => exact b pins s σ H xs us Q I rx h
/-- a new object of content o -/
def NewR (o : HO) (H : Hp) (Q : VK) : Prop := ∀ q, H q = none → Q (.ref q) (upd H q o)
def rAddS : R2 := fun x y H Q => ∃ i j, x = .str i ∧ y = .str j ∧ i.length + j.length ≤ sizeLine ∧ Q (.str (i ++ j)) H
def aAdd : R2 := fun x y H Q => rI0 (fun i j => .int (i + j)) x y H Q ∨ (rAddS x y H Q ∨ rCat x y H Q)
theorem oAdd {X : Cx} : OpR X (binaryOp .Add) aAdd := orOp op_add (orOp op_add_str op_cat)
section
variable {H : Hp} {Q : VK} {i j : Int} {x y : Str} {p q : Addr} {xs ys : List V}
theorem add_ii (h : Q (.int (i + j)) H) : aAdd (.int i) (.int j) H Q := .inl ⟨i, j, rfl, rfl, h⟩
theorem add_ss (hl : x.length + y.length ≤ 1000000) (h : Q (.str (x ++ y)) H) : aAdd (.str x) (.str y) H Q := .inr (.inl ⟨x, y, rfl, rfl, Nat.le_trans hl (by decide), h⟩)
theorem add_ll (hp : H p = some (.lst xs)) (hq : H q = some (.lst ys)) (hl : xs.length + ys.length ≤ 1000000) (h : NewR (.lst (xs ++ ys)) H Q) : aAdd (.ref p) (.ref q) H Q := .inr (.inr ⟨p, q, xs, ys, rfl, rfl, hp, hq, Nat.le_trans hl (by decide), h⟩)
end
def aSub : R2 := rI0 fun i j => .int (i - j)
theorem oSub {X : Cx} : OpR X (binaryOp .Sub) aSub := op_sub
def aMul : R2 := rI IntMulOk fun i j => .int (i * j)
theorem oMul {X : Cx} : OpR X (binaryOp .Mult) aMul := by
  intro pins s σ H x y v u Q I rx ry h
  obtain ⟨i, j, ex, ey, hc, q⟩ := h
  subst ex ey
  obtain ⟨t1, e1⟩ := rx
  obtain ⟨t2, e2⟩ := ry
  subst e1 e2
  exact PyProof.Rows.mul_int ⟨.int (i * j), H, I.tok _, ⟨_, rfl⟩, q⟩ hc
def aDiv : R2 := rI CDivW fun i j => .int (i / j)
theorem oDiv {X : Cx} : OpR X (binaryOp .FloorDiv) aDiv := op_fdivW
def aMod : R2 := rI (fun _ j => 0 < j) fun i j => .int (i % j)
theorem oMod {X : Cx} : OpR X (binaryOp .Mod) aMod := op_mod
def aPow : R2 := rI CPow fun i j => .int (i ^ j.toNat)
theorem oPow {X : Cx} : OpR X (binaryOp .Pow) aPow := op_pow
section
variable {H : Hp} {Q : VK} {i j : Int}
theorem sub_ii (h : Q (.int (i - j)) H) : aSub (.int i) (.int j) H Q := ⟨i, j, rfl, rfl, h⟩
theorem mul_l (h1 : -(2 ^ 64) < i) (h2 : i < 2 ^ 64) (h : Q (.int (i * j)) H) : aMul (.int i) (.int j) H Q := ⟨i, j, rfl, rfl, (CMul.ok (.inl ⟨h1, h2⟩)), h⟩
theorem mul_r (h1 : -(2 ^ 64) < j) (h2 : j < 2 ^ 64) (h : Q (.int (i * j)) H) : aMul (.int i) (.int j) H Q := ⟨i, j, rfl, rfl, (CMul.ok (.inr ⟨h1, h2⟩)), h⟩
theorem div_ii (h1 : 0 < j) (h2 : j < 2 ^ 300) (h : Q (.int (i / j)) H) : aDiv (.int i) (.int j) H Q := ⟨i, j, rfl, rfl, wide_div h1 (b := 300) (by omega) (by decide) (by decide), h⟩
theorem mod_ii (h1 : 0 < j) (h : Q (.int (i % j)) H) : aMod (.int i) (.int j) H Q := ⟨i, j, rfl, rfl, h1, h⟩
theorem pow_ii {k : Int} (h0 : 0 ≤ j) (h1 : j ≤ 1000000) (h2 : i.natAbs < 2 ^ 64) (e : i ^ j.toNat = k) (h : Q (.int k) H) : aPow (.int i) (.int j) H Q := ⟨i, j, rfl, rfl, ⟨h0, h1, h2⟩, by
  show Q (.int (i ^ j.toNat)) H
  rw [e]; exact h⟩
end
def aLt : R2 := rI0 fun i j => .bl (decide (i < j))
def aLe : R2 := rI0 fun i j => .bl (decide (i ≤ j))
def aGt : R2 := rI0 fun i j => .bl (decide (j < i))
def aGe : R2 := rI0 fun i j => .bl (decide (j ≤ i))
theorem oLt {X : Cx} : OpR X (compareOp .Lt) aLt := op_lt
theorem oLe {X : Cx} : OpR X (compareOp .LtE) aLe := op_le
theorem oGt {X : Cx} : OpR X (compareOp .Gt) aGt := op_gt
theorem oGe {X : Cx} : OpR X (compareOp .GtE) aGe := op_ge
def aEq : R2 := rEq
def aNe : R2 := rNe
theorem oEq {X : Cx} : OpR X (compareOp .Eq) aEq := op_eq
theorem oNe {X : Cx} : OpR X (compareOp .NotEq) aNe := op_ne
section
variable {H : Hp} {Q : VK} {i j : Int} {x y : V}
theorem lt_ii (h : Q (.bl (decide (i < j))) H) : aLt (.int i) (.int j) H Q := ⟨i, j, rfl, rfl, h⟩
theorem le_ii (h : Q (.bl (decide (i ≤ j))) H) : aLe (.int i) (.int j) H Q := ⟨i, j, rfl, rfl, h⟩
theorem gt_ii (h : Q (.bl (decide (j < i))) H) : aGt (.int i) (.int j) H Q := ⟨i, j, rfl, rfl, h⟩
theorem ge_ii (h : Q (.bl (decide (j ≤ i))) H) : aGe (.int i) (.int j) H Q := ⟨i, j, rfl, rfl, h⟩
theorem eq_ii (h : Q (.bl (decide (i = j))) H) : aEq (.int i) (.int j) H Q := ⟨rfl, by
  have e : decide (V.int i = V.int j) = decide (i = j) := by rw [dec_int, Bool.beq_eq_decide_eq]
  rw [e]; exact h⟩
theorem ne_ii (h : Q (.bl (!decide (i = j))) H) : aNe (.int i) (.int j) H Q := ⟨rfl, by
  have e : decide (V.int i = V.int j) = decide (i = j) := by rw [dec_int, Bool.beq_eq_decide_eq]
  rw [e]; exact h⟩
theorem eq_sc (hs : scal x y = true) (h : Q (.bl (decide (x = y))) H) : aEq x y H Q := ⟨hs, h⟩
end
def gGetL (K : PySem.W.Frag) : V → V → Hp → VK → Prop := fun x y H Q => ∃ p xs i v, x = .ref p ∧ y = .int i ∧ 0 ≤ i ∧ SqL K H p xs ∧ xs[i.toNat]? = some v ∧ Q v H
theorem getL {X : Cx} : PGet X (gGetL X.K) := by
  intro pins s σ H o i ov iv Q I ro ri h
  obtain ⟨p, xs, k, v, eo, ei, h0, hq, hv, q⟩ := h
  subst eo ei
  obtain rfl : ov = Value.ref p := ro
  obtain ⟨t, et⟩ := ri
  subst et
  obtain ⟨its, r, pl, hz⟩ := I.list hq
  obtain ⟨u, hu, ru⟩ := r.get hv
  have hlt : k.toNat < its.length := by
    cases Nat.lt_or_ge k.toNat its.length with
    | inl h => exact h
    | inr h =>
      rw [List.getElem?_eq_none h] at hu
      cases hu
  have hl := r.length
  have hn := line63
  exact wpAny_getItem_list pl.isList h0 (by omega) (by simpa using hu) ⟨v, H, I, ru, q⟩
section
variable {K : PySem.W.Frag} {σ : L2.St} {H : Hp} {Q : VK} {D : Ends} {t u : TS} {te ta tb : TE} {c d : TT} {g : TG} {i : Nat} {v : V} {B : Bool → Hp → Prop}
theorem s_seq (h : t { D with nx := u D } σ H) : tSeq t u D σ H := h
theorem s_asg (h : te σ H fun x H1 => g x σ H1 D.nx) : tAsg te g D σ H := h
theorem s_if (h : c σ H fun b H1 => if b = true then t D σ H1 else u D σ H1) : tIfS c t u D σ H := h
theorem s_ret (h : te σ H D.rt) : tRet te D σ H := h
theorem s_drop (h : te σ H fun _ H1 => D.nx σ H1) : tDrop te D σ H := h
theorem s_name {Q : L2.St → Hp → Prop} (h : Q (σ.set i (some v)) H) : gName i v σ H Q := h
theorem v_c (h : Q v H) : tC v σ H Q := h
theorem v_op {r : R2} (h : ta σ H fun x H1 => tb σ H1 fun y H2 => r x y H2 Q) : tOp r ta tb σ H Q := h
theorem c_test (h : te σ H fun x H1 => ∃ k, x = .bl k ∧ B k H1) : tTest te σ H B := h
theorem c_bl {b : Bool} {B : Bool → Prop} (h : B b) : ∃ k, V.bl b = .bl k ∧ B k := ⟨b, rfl, h⟩
end
section
variable {X : Cx} {a b : Expr} {pos : Pos} {i j k : Int}
theorem pe_weak {e : Expr} {t t' : TE} (h : PE X e t) (w : ∀ σ H Q, t' σ H Q → t σ H Q) : PE X e t' := ⟨fun pins s σ H Q I q => h.run pins s σ H Q I (w σ H Q q)⟩
theorem pe_powc (ha : PE X a (tC (.int i))) (hb : PE X b (tC (.int j))) (k : Int) (h : decide (0 ≤ j ∧ j ≤ 1000000 ∧ i.natAbs < 2 ^ 64 ∧ i ^ j.toNat = k) = true) : PE X (.BinOp a .Pow b pos) (tC (.int k)) :=
  pe_weak (pe_op oPow ha hb) fun σ H Q q => by
    obtain ⟨h1, h2, h3, h4⟩ := of_decide_eq_true h
    exact pow_ii h1 h2 h3 h4 q
theorem pe_mulc (ha : PE X a (tC (.int i))) (hb : PE X b (tC (.int j))) (k : Int) (h : decide (-(2 ^ 64) < i ∧ i < 2 ^ 64 ∧ i * j = k) = true) : PE X (.BinOp a .Mult b pos) (tC (.int k)) :=
  pe_weak (pe_op oMul ha hb) fun σ H Q q => by
    obtain ⟨h1, h2, h3⟩ := of_decide_eq_true h
    exact mul_l h1 h2 (by rw [h3]; exact q)
end
end NW
namespace NW
open PySem PySem.Spec PyProof.Rows L2
open C8 (tCut pss_cut)
theorem passN {X : Cx} : Passes (L2N.CX X.prog X.w) X E0 := fun _ _ _ _ _ _ _ h => by
  obtain ⟨_, _, _, _, _, _, _, _, _, _, _, _, z⟩ := h
  exact z.elim
/-- the module's name x stands for a def that keeps sp, by level k -/
structure HasAt (P : Program) (w : World) (K : PySem.W.Frag) (mg : Str → Option Value) (base : Heap) (x : Str) (k : Nat) (ps : List Str) (sp : Sp) (f : Addr) (fd : FuncData) : Prop where
  g : mg x = some (.ref f)
  kp : PySem.W.keepIn K (.ref f) = true
  b : Binds K fd ps []
  ok : FnOk P w K mg base (L2N.CX P w) k f fd ps sp
def Has (P : Program) (w : World) (K : PySem.W.Frag) (mg : Str → Option Value) (base : Heap) (x : Str) (k : Nat) (ps : List Str) (sp : Sp) : Prop := ∃ f fd, HasAt P w K mg base x k ps sp f fd
section
variable {X : Cx} {k j : Nat} {ps : List Str} {sp : Sp} {x : Str} {p pos : Pos} {e : Expr} {es : List Expr} {t : TA}
theorem pe_dc (h : Has X.prog X.w X.K X.mg X.base x k ps sp) (hr : Room j X.A) (ha : PA X (e :: es) t) (hk : k ≤ j := by decide) (hg : Gl X x := by rfl) (hdb : (x == ("__debug__" : Str)) = false := by decide)
    (he : starEach (e :: es) X.env = (false, eval e X.env) :: starEach es X.env := by rfl) (hpl : (backTo pos (starEach es X.env)).any (·.1) = false := by rfl) : PE X (.Call (.Name x p) (e :: es) [] pos) (tCall sp [] E0 t) := by
  obtain ⟨f, fd, F⟩ := h
  exact pe_call F.ok (hr.mono hk) hg F.g F.kp F.b .nil passN ha hdb he hpl
theorem pe_dcS {E : L2.St → XK} (h : Has X.prog X.w X.K X.mg X.base x k ps sp) (hr : Room j X.A) (hx : ∀ σ, PassesAt (L2N.CX X.prog X.w) X σ (E σ)) (ha : PA X (e :: es) t) (hk : k ≤ j := by decide) (hg : Gl X x := by rfl) (hdb : (x == ("__debug__" : Str)) = false := by decide)
    (he : starEach (e :: es) X.env = (false, eval e X.env) :: starEach es X.env := by rfl) (hpl : (backTo pos (starEach es X.env)).any (·.1) = false := by rfl) : PE X (.Call (.Name x p) (e :: es) [] pos) (tCallS sp E t) := by
  obtain ⟨f, fd, F⟩ := h
  exact pe_callS F.ok (hr.mono hk) hg F.g F.kp F.b hx ha hdb he hpl
end
section
variable {P : Program} {w : World} {K : PySem.W.Frag} {mg : Str → Option Value} {base : Heap} {x : Str} {params : Arguments} {body : List Stmt} {scope : Scope} {f : Addr} {N ps : List Str} {k : Nat} {sp : Sp}
/-- a def that lets nothing out -/
theorem has_of {t : TS} (g : mg x = some (.ref f)) (F : ∃ fd, FunD K x x params body scope [] [] f fd) (S : FnScope N ps scope) (len : ∀ vs H Q E, sp vs H Q E → vs.length = ps.length)
    (bn : ∀ (kV doc pm : Value) (an : Option Addr) (cdv ct : Value) (us : List Value), us.length = ps.length → bindArgs (PySem.W.fnOf x x params body scope .none kV doc pm an cdv ct) ⟨us, []⟩ = pure (ps.zip us))
    (d : ∀ (cdv : Value) (A : Around) (outer : List Env) (s : Shared) (H : Hp) (E : XK), Room k (A.deeper (envOfC x scope s.heap.objs.size f cdv)) → PSs (cxOf (L2N.CX P w) P w K mg base N x scope f cdv A outer s H E).nox body t)
    (pure_ : ∀ vs H Q E, sp vs H Q E → t { nx := fun _ H' => Q .non H', rt := Q } (start N vs) H) : Has P w K mg base x (k + 1) ps sp := by
  obtain ⟨fd, F⟩ := F
  exact ⟨f, fd, g, F.kp, F.bindsN bn, F.ok S len fun cdv A outer s H vs Q E hr h => ⟨t, PSs.nox (d cdv A outer s H E hr), pure_ vs H Q E h⟩⟩
end
/-- a module's constant -/
theorem pe_gi {X : Cx} {x : Str} {i : Int} {pos : Pos} (h : ∃ t, X.mg x = some (.int i t)) (hg : Gl X x := by rfl) (hd : (x == ("__debug__" : Str)) = false := by decide) : PE X (.Name x pos) (tC (.int i)) := by
  obtain ⟨t, h⟩ := h
  exact pe_glob hg h ⟨t, rfl⟩ hd
theorem pe_gs {X : Cx} {x z : Str} {pos : Pos} (h : ∃ t, X.mg x = some (.str z t)) (hg : Gl X x := by rfl) (hd : (x == ("__debug__" : Str)) = false := by decide) : PE X (.Name x pos) (tC (.str z)) := by
  obtain ⟨t, h⟩ := h
  exact pe_glob hg h ⟨t, rfl⟩ hd
end NW
namespace NW
open PySem PySem.Spec PyProof.Rows L2
open C8 (tCut pss_cut)
/-- the store: its cells, the next cell's place, .. -/
def Sto (H : Hp) (st : Addr) : Prop := ∃ (cl : Addr) (ns : List Int) (at_ left small seed turn : Int), H st = some (.lst [.ref cl, .int at_, .int left, .int small, .int seed, .int turn]) ∧ H cl = some (.lst (ns.map V.int)) ∧ 0 ≤ at_
/-- all but the store stays -/
structure Keep (st : Addr) (H H' : Hp) : Prop where
  o : ∀ b o, H b = some o → b ≠ st → H' b = some o
  h : ∀ v r, H st = some (.lst (v :: r)) → ∃ r', H' st = some (.lst (v :: r'))
theorem Keep.refl (st : Addr) (H : Hp) : Keep st H H := ⟨fun _ _ h _ => h, fun _ r h => ⟨r, h⟩⟩
theorem Keep.trans {st : Addr} {H H1 H2 : Hp} (a : Keep st H H1) (b : Keep st H1 H2) : Keep st H H2 := ⟨fun c o h n => b.o c o (a.o c o h n) n, fun v r h => by
  obtain ⟨r1, h1⟩ := a.h v r h
  exact b.h v r1 h1⟩
theorem Keep.upd {st : Addr} {H H1 : Hp} {v : V} {r r' : List V} (a : Keep st H H1) (hp : H1 st = some (.lst (v :: r))) : Keep st H (upd H1 st (.lst (v :: r'))) := ⟨fun c u h n => by
  rw [upd_ne n]; exact a.o c u h n, fun w s h => by
  obtain ⟨r1, h1⟩ := a.h w s h
  rw [hp] at h1
  injection h1 with h1
  injection h1 with h1
  injection h1 with h1 h2
  exact ⟨r', by rw [upd_same, h1]⟩⟩
theorem Keep.new {st p : Addr} {H H1 : Hp} {o : HO} (a : Keep st H H1) (hp : H1 p = none) : Keep st H (L2.upd H1 p o) := ⟨fun c u h n => by
  rw [upd_ne (ne_of_none (a.o c u h n) hp)]; exact a.o c u h n, fun w s h => by
  obtain ⟨r1, h1⟩ := a.h w s h
  exact ⟨r1, by rw [upd_ne (ne_of_none h1 hp)]; exact h1⟩⟩
theorem Keep.same {st : Addr} {H H1 : Hp} (s : Same H H1) : Keep st H H1 := ⟨fun c u h _ => s c u h, fun v r h => ⟨r, s _ _ h⟩⟩
/-- an object of the call's own changes -/
theorem Keep.own {st p : Addr} {H H1 : Hp} {o : HO} (a : Keep st H H1) (hp : H p = none) (hn : p ≠ st) : Keep st H (L2.upd H1 p o) := ⟨fun c u h n => by
  rw [upd_ne (ne_of_none h hp)]; exact a.o c u h n, fun w s h => by
  obtain ⟨r1, h1⟩ := a.h w s h
  exact ⟨r1, by rw [upd_ne (Ne.symm hn)]; exact h1⟩⟩
theorem Sto.own {H : Hp} {st cl p : Addr} {r : List V} {o : HO} (h : Sto H st) (hh : H st = some (.lst (.ref cl :: r))) (h1 : p ≠ st) (h2 : p ≠ cl) : Sto (L2.upd H p o) st := by
  obtain ⟨cl', ns, a, b, c, d, e, g1, g2, g3⟩ := h
  rw [g1] at hh
  injection hh with hh
  injection hh with hh
  injection hh with hh
  injection hh with hh
  subst hh
  exact ⟨cl', ns, a, b, c, d, e, by rw [upd_ne (Ne.symm h1)]; exact g1, by rw [upd_ne (Ne.symm h2)]; exact g2, g3⟩
def aInt : List V → Hp → VK → Prop := fun xs H Q => ((∃ i, xs = [.int i] ∧ Q (.int i) H) ∨ ∃ k, xs = [.bl k] ∧ Q (.int (if k then 1 else 0)) H) ∨ ∃ a n, xs = [.str a] ∧ PySem.intText? a = some n ∧ a.length ≤ 640 ∧ Q (.int n) H
theorem cInt {X : Cx} : CallR X (.type "int") aInt := orCall call_int1 call_int_str
def aAbs : List V → Hp → VK → Prop := fun xs H Q => ∃ i, xs = [.int i] ∧ Q (.int (if i < 0 then -i else i)) H
def aMax : List V → Hp → VK → Prop := fun xs H Q => ∃ i j, xs = [.int i, .int j] ∧ Q (.int (if j > i then j else i)) H
def aMin : List V → Hp → VK → Prop := fun xs H Q => ∃ i j, xs = [.int i, .int j] ∧ Q (.int (if j < i then j else i)) H
def aLen (K : PySem.W.Frag) : List V → Hp → VK → Prop := fun xs H Q => ∃ x n, xs = [x] ∧ LenV K x H n ∧ Q (.int (n : Nat)) H
theorem cLen {X : Cx} : CallR X (.builtin "len") (aLen X.K) := call_len
def aList (K : PySem.W.Frag) : List V → Hp → VK → Prop := fun xs H Q => ∃ p ys, xs = [.ref p] ∧ (SqL K H p ys ∨ SqT K H p ys) ∧ ∀ l, H l = none → Q (.ref l) (upd H l (.lst ys))
theorem cList {X : Cx} : CallR X (.type "list") (aList X.K) := call_list_of
def aIx (K : PySem.W.Frag) : R2 := rIx K
theorem oIx {X : Cx} : IxR X (aIx X.K) := ix_seq
def aSet : TSet := rSetL
theorem oSet {X : Cx} : PSet X aSet := set_list
def iAdd : TIp := rI0 fun i j => .int (i + j)
theorem ioAdd {X : Cx} : PIp X .Add iAdd := fun pins s σ H x y v u Q I rx ry h => iop_add pins s σ H x y v u Q I rx ry h
section
variable {K : PySem.W.Frag} {H : Hp} {Q : VK} {i j : Int} {p : Addr} {xs : List V} {v : V} {σ : L2.St} {ta tb : TE} {t : TA} {B : Bool → Hp → Prop}
theorem int_i (h : Q (.int i) H) : aInt [.int i] H Q := .inl (.inl ⟨i, rfl, h⟩)
theorem abs_i (h : Q (.int (i.natAbs : Int)) H) : aAbs [.int i] H Q := ⟨i, rfl, by
  have e : (if i < 0 then -i else i) = (i.natAbs : Int) := by
    by_cases c : i < 0
    · rw [if_pos c]; omega
    · rw [if_neg c]; omega
  rw [e]; exact h⟩
theorem max_i (h : Q (.int (max i j)) H) : aMax [.int i, .int j] H Q := ⟨i, j, rfl, by
  have e : (if j > i then j else i) = max i j := by
    by_cases c : j > i
    · rw [if_pos c]; omega
    · rw [if_neg c]; omega
  rw [e]; exact h⟩
theorem min_i (h : Q (.int (min i j)) H) : aMin [.int i, .int j] H Q := ⟨i, j, rfl, by
  have e : (if j < i then j else i) = min i j := by
    by_cases c : j < i
    · rw [if_pos c]; omega
    · rw [if_neg c]; omega
  rw [e]; exact h⟩
theorem len_m (hp : H p = some (.lst xs)) (h : Q (.int (xs.length : Nat)) H) : aLen K [.ref p] H Q := ⟨_, _, rfl, .inl ⟨xs, SqL.of hp, rfl⟩, h⟩
theorem len_t (hp : SqT K H p xs) (h : Q (.int (xs.length : Nat)) H) : aLen K [.ref p] H Q := ⟨_, _, rfl, .inr ⟨xs, hp, rfl⟩, h⟩
theorem list_l (hp : SqL K H p xs) (h : NewR (.lst xs) H Q) : aList K [.ref p] H Q := ⟨p, xs, rfl, .inl hp, h⟩
theorem ix_m (hp : H p = some (.lst xs)) (e : atI xs i = some v) (h : Q v H) : aIx K (.ref p) (.int i) H Q := .inl ⟨p, xs, i, v, rfl, rfl, SqL.of hp, e, h⟩
theorem ix_l (hp : SqL K H p xs) (e : atI xs i = some v) (h : Q v H) : aIx K (.ref p) (.int i) H Q := .inl ⟨p, xs, i, v, rfl, rfl, hp, e, h⟩
theorem ix_t (hp : SqT K H p xs) (e : atI xs i = some v) (h : Q v H) : aIx K (.ref p) (.int i) H Q := .inr (.inl ⟨p, xs, i, v, rfl, rfl, hp, e, h⟩)
theorem get_m (hp : H p = some (.lst xs)) (h0 : 0 ≤ i) (e : xs[i.toNat]? = some v) (h : Q v H) : gGetL K (.ref p) (.int i) H Q := ⟨p, xs, i, v, rfl, rfl, h0, SqL.of hp, e, h⟩
theorem set_m {R : Hp → Prop} {n : Nat} (hp : H p = some (.lst xs)) (e : ixN xs.length i = some n) (h : R (upd H p (.lst (xs.set n v)))) : aSet (.ref p) (.int i) v H R := ⟨p, xs, i, n, rfl, rfl, hp, e, h⟩
theorem iadd_ii (h : Q (.int (i + j)) H) : iAdd (.int i) (.int j) H Q := ⟨i, j, rfl, rfl, h⟩
theorem v_augS {tget : V → V → Hp → VK → Prop} {ti : TIp} {tset : TSet} {D : Ends} {te : TE} (h : ta σ H fun o H1 => tb σ H1 fun a H2 => tget o a H2 fun x H3 => te σ H3 fun y H4 => ti x y H4 fun z H5 => tset o a z H5 fun H6 => D.nx σ H6) : tAugS ta tb te tget ti tset D σ H := h
theorem v_sub {tset : TSet} {R : L2.St → Hp → Prop} (h : ta σ H fun o H1 => tb σ H1 fun a H2 => tset o a v H2 fun H3 => R σ H3) : gSub ta tb tset v σ H R := h
theorem v_cons {R : List V → Hp → Prop} (h : ta σ H fun x H1 => t σ H1 fun ys H2 => R (x :: ys) H2) : tCons ta t σ H R := h
theorem v_nil {R : List V → Hp → Prop} (h : R [] H) : tNil σ H R := h
theorem v_cb {r : List V → Hp → VK → Prop} (h : t σ H fun vs H1 => r vs H1 Q) : tCB r t σ H Q := h
theorem v_call {sp : Sp} {E : XK} (h : t σ H fun vs H1 => sp vs H1 Q E) : tCall sp [] E t σ H Q := by
  show t σ H fun vs H1 => sp (vs ++ []) H1 Q E
  have e : (fun (vs : List V) (H1 : Hp) => sp (vs ++ []) H1 Q E) = fun vs H1 => sp vs H1 Q E := by
    funext vs H1
    rw [List.append_nil]
  rw [e]
  exact h
theorem c_and {c d : TT} (h : c σ H fun b H1 => if b = true then d σ H1 B else B false H1) : tAnd c d σ H B := h
theorem c_or {c d : TT} (h : c σ H fun b H1 => if b = true then B true H1 else d σ H1 B) : tOr c d σ H B := h
theorem c_not {c : TT} (h : c σ H fun b H1 => B (!b) H1) : tNot c σ H B := h
theorem if_d {c : Prop} {dc : Decidable c} {A A' : Prop} (h1 : c → A) (h2 : ¬ c → A') : if @decide c dc = true then A else A' := by
  by_cases q : c
  · rw [if_pos (decide_eq_true q)]; exact h1 q
  · rw [if_neg (fun z => q (of_decide_eq_true z))]; exact h2 q
theorem if_t {A A' : Prop} (h : A) : if true = true then A else A' := h
theorem if_f {A A' : Prop} (h : A') : if false = true then A else A' := h
theorem v_var0 (h : Q v H) : tVar 0 (some v :: σ) H Q := ⟨v, rfl, h⟩
theorem s_name0 {o : Option V} {R : L2.St → Hp → Prop} (h : R (some v :: σ) H) : gName 0 v (o :: σ) H R := h
theorem v_aug0 {ti : TIp} {D : Ends} (h : ta (some v :: σ) H fun y H1 => ti v y H1 fun z H2 => D.nx (some z :: σ) H2) : tAug 0 ta ti D (some v :: σ) H := ⟨v, rfl, h⟩
theorem v_var1 {a0 : Option V} (h : Q v H) : tVar 1 (a0 :: some v :: σ) H Q := ⟨v, rfl, h⟩
theorem s_name1 {a0 : Option V} {o : Option V} {R : L2.St → Hp → Prop} (h : R (a0 :: some v :: σ) H) : gName 1 v (a0 :: o :: σ) H R := h
theorem v_aug1 {a0 : Option V} {ti : TIp} {D : Ends} (h : ta (a0 :: some v :: σ) H fun y H1 => ti v y H1 fun z H2 => D.nx (a0 :: some z :: σ) H2) : tAug 1 ta ti D (a0 :: some v :: σ) H := ⟨v, rfl, h⟩
theorem v_var2 {a0 a1 : Option V} (h : Q v H) : tVar 2 (a0 :: a1 :: some v :: σ) H Q := ⟨v, rfl, h⟩
theorem s_name2 {a0 a1 : Option V} {o : Option V} {R : L2.St → Hp → Prop} (h : R (a0 :: a1 :: some v :: σ) H) : gName 2 v (a0 :: a1 :: o :: σ) H R := h
theorem v_aug2 {a0 a1 : Option V} {ti : TIp} {D : Ends} (h : ta (a0 :: a1 :: some v :: σ) H fun y H1 => ti v y H1 fun z H2 => D.nx (a0 :: a1 :: some z :: σ) H2) : tAug 2 ta ti D (a0 :: a1 :: some v :: σ) H := ⟨v, rfl, h⟩
theorem v_var3 {a0 a1 a2 : Option V} (h : Q v H) : tVar 3 (a0 :: a1 :: a2 :: some v :: σ) H Q := ⟨v, rfl, h⟩
theorem s_name3 {a0 a1 a2 : Option V} {o : Option V} {R : L2.St → Hp → Prop} (h : R (a0 :: a1 :: a2 :: some v :: σ) H) : gName 3 v (a0 :: a1 :: a2 :: o :: σ) H R := h
theorem v_aug3 {a0 a1 a2 : Option V} {ti : TIp} {D : Ends} (h : ta (a0 :: a1 :: a2 :: some v :: σ) H fun y H1 => ti v y H1 fun z H2 => D.nx (a0 :: a1 :: a2 :: some z :: σ) H2) : tAug 3 ta ti D (a0 :: a1 :: a2 :: some v :: σ) H := ⟨v, rfl, h⟩
theorem v_var4 {a0 a1 a2 a3 : Option V} (h : Q v H) : tVar 4 (a0 :: a1 :: a2 :: a3 :: some v :: σ) H Q := ⟨v, rfl, h⟩
theorem s_name4 {a0 a1 a2 a3 : Option V} {o : Option V} {R : L2.St → Hp → Prop} (h : R (a0 :: a1 :: a2 :: a3 :: some v :: σ) H) : gName 4 v (a0 :: a1 :: a2 :: a3 :: o :: σ) H R := h
theorem v_aug4 {a0 a1 a2 a3 : Option V} {ti : TIp} {D : Ends} (h : ta (a0 :: a1 :: a2 :: a3 :: some v :: σ) H fun y H1 => ti v y H1 fun z H2 => D.nx (a0 :: a1 :: a2 :: a3 :: some z :: σ) H2) : tAug 4 ta ti D (a0 :: a1 :: a2 :: a3 :: some v :: σ) H := ⟨v, rfl, h⟩
theorem v_var5 {a0 a1 a2 a3 a4 : Option V} (h : Q v H) : tVar 5 (a0 :: a1 :: a2 :: a3 :: a4 :: some v :: σ) H Q := ⟨v, rfl, h⟩
theorem s_name5 {a0 a1 a2 a3 a4 : Option V} {o : Option V} {R : L2.St → Hp → Prop} (h : R (a0 :: a1 :: a2 :: a3 :: a4 :: some v :: σ) H) : gName 5 v (a0 :: a1 :: a2 :: a3 :: a4 :: o :: σ) H R := h
theorem v_aug5 {a0 a1 a2 a3 a4 : Option V} {ti : TIp} {D : Ends} (h : ta (a0 :: a1 :: a2 :: a3 :: a4 :: some v :: σ) H fun y H1 => ti v y H1 fun z H2 => D.nx (a0 :: a1 :: a2 :: a3 :: a4 :: some z :: σ) H2) : tAug 5 ta ti D (a0 :: a1 :: a2 :: a3 :: a4 :: some v :: σ) H := ⟨v, rfl, h⟩
theorem v_var6 {a0 a1 a2 a3 a4 a5 : Option V} (h : Q v H) : tVar 6 (a0 :: a1 :: a2 :: a3 :: a4 :: a5 :: some v :: σ) H Q := ⟨v, rfl, h⟩
theorem s_name6 {a0 a1 a2 a3 a4 a5 : Option V} {o : Option V} {R : L2.St → Hp → Prop} (h : R (a0 :: a1 :: a2 :: a3 :: a4 :: a5 :: some v :: σ) H) : gName 6 v (a0 :: a1 :: a2 :: a3 :: a4 :: a5 :: o :: σ) H R := h
theorem v_aug6 {a0 a1 a2 a3 a4 a5 : Option V} {ti : TIp} {D : Ends} (h : ta (a0 :: a1 :: a2 :: a3 :: a4 :: a5 :: some v :: σ) H fun y H1 => ti v y H1 fun z H2 => D.nx (a0 :: a1 :: a2 :: a3 :: a4 :: a5 :: some z :: σ) H2) : tAug 6 ta ti D (a0 :: a1 :: a2 :: a3 :: a4 :: a5 :: some v :: σ) H := ⟨v, rfl, h⟩
theorem v_var7 {a0 a1 a2 a3 a4 a5 a6 : Option V} (h : Q v H) : tVar 7 (a0 :: a1 :: a2 :: a3 :: a4 :: a5 :: a6 :: some v :: σ) H Q := ⟨v, rfl, h⟩
theorem s_name7 {a0 a1 a2 a3 a4 a5 a6 : Option V} {o : Option V} {R : L2.St → Hp → Prop} (h : R (a0 :: a1 :: a2 :: a3 :: a4 :: a5 :: a6 :: some v :: σ) H) : gName 7 v (a0 :: a1 :: a2 :: a3 :: a4 :: a5 :: a6 :: o :: σ) H R := h
theorem v_aug7 {a0 a1 a2 a3 a4 a5 a6 : Option V} {ti : TIp} {D : Ends} (h : ta (a0 :: a1 :: a2 :: a3 :: a4 :: a5 :: a6 :: some v :: σ) H fun y H1 => ti v y H1 fun z H2 => D.nx (a0 :: a1 :: a2 :: a3 :: a4 :: a5 :: a6 :: some z :: σ) H2) : tAug 7 ta ti D (a0 :: a1 :: a2 :: a3 :: a4 :: a5 :: a6 :: some v :: σ) H := ⟨v, rfl, h⟩
theorem v_var8 {a0 a1 a2 a3 a4 a5 a6 a7 : Option V} (h : Q v H) : tVar 8 (a0 :: a1 :: a2 :: a3 :: a4 :: a5 :: a6 :: a7 :: some v :: σ) H Q := ⟨v, rfl, h⟩
theorem s_name8 {a0 a1 a2 a3 a4 a5 a6 a7 : Option V} {o : Option V} {R : L2.St → Hp → Prop} (h : R (a0 :: a1 :: a2 :: a3 :: a4 :: a5 :: a6 :: a7 :: some v :: σ) H) : gName 8 v (a0 :: a1 :: a2 :: a3 :: a4 :: a5 :: a6 :: a7 :: o :: σ) H R := h
theorem v_aug8 {a0 a1 a2 a3 a4 a5 a6 a7 : Option V} {ti : TIp} {D : Ends} (h : ta (a0 :: a1 :: a2 :: a3 :: a4 :: a5 :: a6 :: a7 :: some v :: σ) H fun y H1 => ti v y H1 fun z H2 => D.nx (a0 :: a1 :: a2 :: a3 :: a4 :: a5 :: a6 :: a7 :: some z :: σ) H2) : tAug 8 ta ti D (a0 :: a1 :: a2 :: a3 :: a4 :: a5 :: a6 :: a7 :: some v :: σ) H := ⟨v, rfl, h⟩
theorem v_var9 {a0 a1 a2 a3 a4 a5 a6 a7 a8 : Option V} (h : Q v H) : tVar 9 (a0 :: a1 :: a2 :: a3 :: a4 :: a5 :: a6 :: a7 :: a8 :: some v :: σ) H Q := ⟨v, rfl, h⟩
theorem s_name9 {a0 a1 a2 a3 a4 a5 a6 a7 a8 : Option V} {o : Option V} {R : L2.St → Hp → Prop} (h : R (a0 :: a1 :: a2 :: a3 :: a4 :: a5 :: a6 :: a7 :: a8 :: some v :: σ) H) : gName 9 v (a0 :: a1 :: a2 :: a3 :: a4 :: a5 :: a6 :: a7 :: a8 :: o :: σ) H R := h
theorem v_aug9 {a0 a1 a2 a3 a4 a5 a6 a7 a8 : Option V} {ti : TIp} {D : Ends} (h : ta (a0 :: a1 :: a2 :: a3 :: a4 :: a5 :: a6 :: a7 :: a8 :: some v :: σ) H fun y H1 => ti v y H1 fun z H2 => D.nx (a0 :: a1 :: a2 :: a3 :: a4 :: a5 :: a6 :: a7 :: a8 :: some z :: σ) H2) : tAug 9 ta ti D (a0 :: a1 :: a2 :: a3 :: a4 :: a5 :: a6 :: a7 :: a8 :: some v :: σ) H := ⟨v, rfl, h⟩
theorem v_var10 {a0 a1 a2 a3 a4 a5 a6 a7 a8 a9 : Option V} (h : Q v H) : tVar 10 (a0 :: a1 :: a2 :: a3 :: a4 :: a5 :: a6 :: a7 :: a8 :: a9 :: some v :: σ) H Q := ⟨v, rfl, h⟩
theorem s_name10 {a0 a1 a2 a3 a4 a5 a6 a7 a8 a9 : Option V} {o : Option V} {R : L2.St → Hp → Prop} (h : R (a0 :: a1 :: a2 :: a3 :: a4 :: a5 :: a6 :: a7 :: a8 :: a9 :: some v :: σ) H) : gName 10 v (a0 :: a1 :: a2 :: a3 :: a4 :: a5 :: a6 :: a7 :: a8 :: a9 :: o :: σ) H R := h
theorem v_aug10 {a0 a1 a2 a3 a4 a5 a6 a7 a8 a9 : Option V} {ti : TIp} {D : Ends} (h : ta (a0 :: a1 :: a2 :: a3 :: a4 :: a5 :: a6 :: a7 :: a8 :: a9 :: some v :: σ) H fun y H1 => ti v y H1 fun z H2 => D.nx (a0 :: a1 :: a2 :: a3 :: a4 :: a5 :: a6 :: a7 :: a8 :: a9 :: some z :: σ) H2) : tAug 10 ta ti D (a0 :: a1 :: a2 :: a3 :: a4 :: a5 :: a6 :: a7 :: a8 :: a9 :: some v :: σ) H := ⟨v, rfl, h⟩
theorem v_var11 {a0 a1 a2 a3 a4 a5 a6 a7 a8 a9 a10 : Option V} (h : Q v H) : tVar 11 (a0 :: a1 :: a2 :: a3 :: a4 :: a5 :: a6 :: a7 :: a8 :: a9 :: a10 :: some v :: σ) H Q := ⟨v, rfl, h⟩
theorem s_name11 {a0 a1 a2 a3 a4 a5 a6 a7 a8 a9 a10 : Option V} {o : Option V} {R : L2.St → Hp → Prop} (h : R (a0 :: a1 :: a2 :: a3 :: a4 :: a5 :: a6 :: a7 :: a8 :: a9 :: a10 :: some v :: σ) H) : gName 11 v (a0 :: a1 :: a2 :: a3 :: a4 :: a5 :: a6 :: a7 :: a8 :: a9 :: a10 :: o :: σ) H R := h
theorem v_aug11 {a0 a1 a2 a3 a4 a5 a6 a7 a8 a9 a10 : Option V} {ti : TIp} {D : Ends} (h : ta (a0 :: a1 :: a2 :: a3 :: a4 :: a5 :: a6 :: a7 :: a8 :: a9 :: a10 :: some v :: σ) H fun y H1 => ti v y H1 fun z H2 => D.nx (a0 :: a1 :: a2 :: a3 :: a4 :: a5 :: a6 :: a7 :: a8 :: a9 :: a10 :: some z :: σ) H2) : tAug 11 ta ti D (a0 :: a1 :: a2 :: a3 :: a4 :: a5 :: a6 :: a7 :: a8 :: a9 :: a10 :: some v :: σ) H := ⟨v, rfl, h⟩
theorem v_var12 {a0 a1 a2 a3 a4 a5 a6 a7 a8 a9 a10 a11 : Option V} (h : Q v H) : tVar 12 (a0 :: a1 :: a2 :: a3 :: a4 :: a5 :: a6 :: a7 :: a8 :: a9 :: a10 :: a11 :: some v :: σ) H Q := ⟨v, rfl, h⟩
theorem s_name12 {a0 a1 a2 a3 a4 a5 a6 a7 a8 a9 a10 a11 : Option V} {o : Option V} {R : L2.St → Hp → Prop} (h : R (a0 :: a1 :: a2 :: a3 :: a4 :: a5 :: a6 :: a7 :: a8 :: a9 :: a10 :: a11 :: some v :: σ) H) : gName 12 v (a0 :: a1 :: a2 :: a3 :: a4 :: a5 :: a6 :: a7 :: a8 :: a9 :: a10 :: a11 :: o :: σ) H R := h
theorem v_aug12 {a0 a1 a2 a3 a4 a5 a6 a7 a8 a9 a10 a11 : Option V} {ti : TIp} {D : Ends} (h : ta (a0 :: a1 :: a2 :: a3 :: a4 :: a5 :: a6 :: a7 :: a8 :: a9 :: a10 :: a11 :: some v :: σ) H fun y H1 => ti v y H1 fun z H2 => D.nx (a0 :: a1 :: a2 :: a3 :: a4 :: a5 :: a6 :: a7 :: a8 :: a9 :: a10 :: a11 :: some z :: σ) H2) : tAug 12 ta ti D (a0 :: a1 :: a2 :: a3 :: a4 :: a5 :: a6 :: a7 :: a8 :: a9 :: a10 :: a11 :: some v :: σ) H := ⟨v, rfl, h⟩
theorem v_var13 {a0 a1 a2 a3 a4 a5 a6 a7 a8 a9 a10 a11 a12 : Option V} (h : Q v H) : tVar 13 (a0 :: a1 :: a2 :: a3 :: a4 :: a5 :: a6 :: a7 :: a8 :: a9 :: a10 :: a11 :: a12 :: some v :: σ) H Q := ⟨v, rfl, h⟩
theorem s_name13 {a0 a1 a2 a3 a4 a5 a6 a7 a8 a9 a10 a11 a12 : Option V} {o : Option V} {R : L2.St → Hp → Prop} (h : R (a0 :: a1 :: a2 :: a3 :: a4 :: a5 :: a6 :: a7 :: a8 :: a9 :: a10 :: a11 :: a12 :: some v :: σ) H) : gName 13 v (a0 :: a1 :: a2 :: a3 :: a4 :: a5 :: a6 :: a7 :: a8 :: a9 :: a10 :: a11 :: a12 :: o :: σ) H R := h
theorem v_aug13 {a0 a1 a2 a3 a4 a5 a6 a7 a8 a9 a10 a11 a12 : Option V} {ti : TIp} {D : Ends} (h : ta (a0 :: a1 :: a2 :: a3 :: a4 :: a5 :: a6 :: a7 :: a8 :: a9 :: a10 :: a11 :: a12 :: some v :: σ) H fun y H1 => ti v y H1 fun z H2 => D.nx (a0 :: a1 :: a2 :: a3 :: a4 :: a5 :: a6 :: a7 :: a8 :: a9 :: a10 :: a11 :: a12 :: some z :: σ) H2) : tAug 13 ta ti D (a0 :: a1 :: a2 :: a3 :: a4 :: a5 :: a6 :: a7 :: a8 :: a9 :: a10 :: a11 :: a12 :: some v :: σ) H := ⟨v, rfl, h⟩
theorem v_var14 {a0 a1 a2 a3 a4 a5 a6 a7 a8 a9 a10 a11 a12 a13 : Option V} (h : Q v H) : tVar 14 (a0 :: a1 :: a2 :: a3 :: a4 :: a5 :: a6 :: a7 :: a8 :: a9 :: a10 :: a11 :: a12 :: a13 :: some v :: σ) H Q := ⟨v, rfl, h⟩
theorem s_name14 {a0 a1 a2 a3 a4 a5 a6 a7 a8 a9 a10 a11 a12 a13 : Option V} {o : Option V} {R : L2.St → Hp → Prop} (h : R (a0 :: a1 :: a2 :: a3 :: a4 :: a5 :: a6 :: a7 :: a8 :: a9 :: a10 :: a11 :: a12 :: a13 :: some v :: σ) H) : gName 14 v (a0 :: a1 :: a2 :: a3 :: a4 :: a5 :: a6 :: a7 :: a8 :: a9 :: a10 :: a11 :: a12 :: a13 :: o :: σ) H R := h
theorem v_aug14 {a0 a1 a2 a3 a4 a5 a6 a7 a8 a9 a10 a11 a12 a13 : Option V} {ti : TIp} {D : Ends} (h : ta (a0 :: a1 :: a2 :: a3 :: a4 :: a5 :: a6 :: a7 :: a8 :: a9 :: a10 :: a11 :: a12 :: a13 :: some v :: σ) H fun y H1 => ti v y H1 fun z H2 => D.nx (a0 :: a1 :: a2 :: a3 :: a4 :: a5 :: a6 :: a7 :: a8 :: a9 :: a10 :: a11 :: a12 :: a13 :: some z :: σ) H2) : tAug 14 ta ti D (a0 :: a1 :: a2 :: a3 :: a4 :: a5 :: a6 :: a7 :: a8 :: a9 :: a10 :: a11 :: a12 :: a13 :: some v :: σ) H := ⟨v, rfl, h⟩
theorem v_var15 {a0 a1 a2 a3 a4 a5 a6 a7 a8 a9 a10 a11 a12 a13 a14 : Option V} (h : Q v H) : tVar 15 (a0 :: a1 :: a2 :: a3 :: a4 :: a5 :: a6 :: a7 :: a8 :: a9 :: a10 :: a11 :: a12 :: a13 :: a14 :: some v :: σ) H Q := ⟨v, rfl, h⟩
theorem s_name15 {a0 a1 a2 a3 a4 a5 a6 a7 a8 a9 a10 a11 a12 a13 a14 : Option V} {o : Option V} {R : L2.St → Hp → Prop} (h : R (a0 :: a1 :: a2 :: a3 :: a4 :: a5 :: a6 :: a7 :: a8 :: a9 :: a10 :: a11 :: a12 :: a13 :: a14 :: some v :: σ) H) : gName 15 v (a0 :: a1 :: a2 :: a3 :: a4 :: a5 :: a6 :: a7 :: a8 :: a9 :: a10 :: a11 :: a12 :: a13 :: a14 :: o :: σ) H R := h
theorem v_aug15 {a0 a1 a2 a3 a4 a5 a6 a7 a8 a9 a10 a11 a12 a13 a14 : Option V} {ti : TIp} {D : Ends} (h : ta (a0 :: a1 :: a2 :: a3 :: a4 :: a5 :: a6 :: a7 :: a8 :: a9 :: a10 :: a11 :: a12 :: a13 :: a14 :: some v :: σ) H fun y H1 => ti v y H1 fun z H2 => D.nx (a0 :: a1 :: a2 :: a3 :: a4 :: a5 :: a6 :: a7 :: a8 :: a9 :: a10 :: a11 :: a12 :: a13 :: a14 :: some z :: σ) H2) : tAug 15 ta ti D (a0 :: a1 :: a2 :: a3 :: a4 :: a5 :: a6 :: a7 :: a8 :: a9 :: a10 :: a11 :: a12 :: a13 :: a14 :: some v :: σ) H := ⟨v, rfl, h⟩
theorem mod_r (h1 : 0 < j) (h : ∀ r, 0 ≤ r → r < j → r = i % j → Q (.int r) H) : aMod (.int i) (.int j) H Q := mod_ii h1 (h _ (Int.emod_nonneg _ (by omega)) (Int.emod_lt_of_pos _ h1) rfl)
theorem div_r (h1 : 0 < j) (h2 : j < 2 ^ 300) (h : ∀ r, r = i / j → Q (.int r) H) : aDiv (.int i) (.int j) H Q := div_ii h1 h2 (h _ rfl)
theorem ixN_lit {n k : Nat} (h0 : (0 : Int) ≤ (k : Int)) (h : (k : Int) < n) : ixN n (k : Int) = some k := by
  unfold ixN
  rw [if_pos h0, if_pos h]
  rfl
theorem ix_m0 {r : List V} (hp : H p = some (.lst (v :: r))) (h : Q v H) : aIx K (.ref p) (.int 0) H Q := ix_m hp (atI_nat (j := 0) rfl) h
theorem get_m0 {r : List V} (hp : H p = some (.lst (v :: r))) (h : Q v H) : gGetL K (.ref p) (.int 0) H Q := get_m hp (by decide) rfl h
theorem ix_m1 {a0 : V} {r : List V} (hp : H p = some (.lst (a0 :: v :: r))) (h : Q v H) : aIx K (.ref p) (.int 1) H Q := ix_m hp (atI_nat (j := 1) rfl) h
theorem get_m1 {a0 : V} {r : List V} (hp : H p = some (.lst (a0 :: v :: r))) (h : Q v H) : gGetL K (.ref p) (.int 1) H Q := get_m hp (by decide) rfl h
theorem set_m1 {a0 : V} {o : V} {r : List V} {R : Hp → Prop} (hp : H p = some (.lst (a0 :: o :: r))) (h : R (upd H p (.lst (a0 :: v :: r)))) : aSet (.ref p) (.int 1) v H R := set_m hp (n := 1) (ixN_lit (by decide) (by simp only [List.length_cons]; omega)) h
theorem ix_m2 {a0 a1 : V} {r : List V} (hp : H p = some (.lst (a0 :: a1 :: v :: r))) (h : Q v H) : aIx K (.ref p) (.int 2) H Q := ix_m hp (atI_nat (j := 2) rfl) h
theorem get_m2 {a0 a1 : V} {r : List V} (hp : H p = some (.lst (a0 :: a1 :: v :: r))) (h : Q v H) : gGetL K (.ref p) (.int 2) H Q := get_m hp (by decide) rfl h
theorem set_m2 {a0 a1 : V} {o : V} {r : List V} {R : Hp → Prop} (hp : H p = some (.lst (a0 :: a1 :: o :: r))) (h : R (upd H p (.lst (a0 :: a1 :: v :: r)))) : aSet (.ref p) (.int 2) v H R := set_m hp (n := 2) (ixN_lit (by decide) (by simp only [List.length_cons]; omega)) h
theorem ix_m3 {a0 a1 a2 : V} {r : List V} (hp : H p = some (.lst (a0 :: a1 :: a2 :: v :: r))) (h : Q v H) : aIx K (.ref p) (.int 3) H Q := ix_m hp (atI_nat (j := 3) rfl) h
theorem get_m3 {a0 a1 a2 : V} {r : List V} (hp : H p = some (.lst (a0 :: a1 :: a2 :: v :: r))) (h : Q v H) : gGetL K (.ref p) (.int 3) H Q := get_m hp (by decide) rfl h
theorem set_m3 {a0 a1 a2 : V} {o : V} {r : List V} {R : Hp → Prop} (hp : H p = some (.lst (a0 :: a1 :: a2 :: o :: r))) (h : R (upd H p (.lst (a0 :: a1 :: a2 :: v :: r)))) : aSet (.ref p) (.int 3) v H R := set_m hp (n := 3) (ixN_lit (by decide) (by simp only [List.length_cons]; omega)) h
theorem ix_m4 {a0 a1 a2 a3 : V} {r : List V} (hp : H p = some (.lst (a0 :: a1 :: a2 :: a3 :: v :: r))) (h : Q v H) : aIx K (.ref p) (.int 4) H Q := ix_m hp (atI_nat (j := 4) rfl) h
theorem get_m4 {a0 a1 a2 a3 : V} {r : List V} (hp : H p = some (.lst (a0 :: a1 :: a2 :: a3 :: v :: r))) (h : Q v H) : gGetL K (.ref p) (.int 4) H Q := get_m hp (by decide) rfl h
theorem set_m4 {a0 a1 a2 a3 : V} {o : V} {r : List V} {R : Hp → Prop} (hp : H p = some (.lst (a0 :: a1 :: a2 :: a3 :: o :: r))) (h : R (upd H p (.lst (a0 :: a1 :: a2 :: a3 :: v :: r)))) : aSet (.ref p) (.int 4) v H R := set_m hp (n := 4) (ixN_lit (by decide) (by simp only [List.length_cons]; omega)) h
theorem ix_m5 {a0 a1 a2 a3 a4 : V} {r : List V} (hp : H p = some (.lst (a0 :: a1 :: a2 :: a3 :: a4 :: v :: r))) (h : Q v H) : aIx K (.ref p) (.int 5) H Q := ix_m hp (atI_nat (j := 5) rfl) h
theorem get_m5 {a0 a1 a2 a3 a4 : V} {r : List V} (hp : H p = some (.lst (a0 :: a1 :: a2 :: a3 :: a4 :: v :: r))) (h : Q v H) : gGetL K (.ref p) (.int 5) H Q := get_m hp (by decide) rfl h
theorem set_m5 {a0 a1 a2 a3 a4 : V} {o : V} {r : List V} {R : Hp → Prop} (hp : H p = some (.lst (a0 :: a1 :: a2 :: a3 :: a4 :: o :: r))) (h : R (upd H p (.lst (a0 :: a1 :: a2 :: a3 :: a4 :: v :: r)))) : aSet (.ref p) (.int 5) v H R := set_m hp (n := 5) (ixN_lit (by decide) (by simp only [List.length_cons]; omega)) h
theorem st_set1 {st : Addr} {H0 : Hp} {c0 c1 c2 c3 c4 c5 v : V} {R : Hp → Prop} (hp : H st = some (.lst [c0, c1, c2, c3, c4, c5])) (k : Keep st H0 H) (h : ∀ H1, H1 st = some (.lst [c0, v, c2, c3, c4, c5]) → Keep st H0 H1 → R H1) : aSet (.ref st) (.int 1) v H R := set_m1 hp (h _ upd_same (k.upd hp))
theorem st_set2 {st : Addr} {H0 : Hp} {c0 c1 c2 c3 c4 c5 v : V} {R : Hp → Prop} (hp : H st = some (.lst [c0, c1, c2, c3, c4, c5])) (k : Keep st H0 H) (h : ∀ H1, H1 st = some (.lst [c0, c1, v, c3, c4, c5]) → Keep st H0 H1 → R H1) : aSet (.ref st) (.int 2) v H R := set_m2 hp (h _ upd_same (k.upd hp))
theorem st_set3 {st : Addr} {H0 : Hp} {c0 c1 c2 c3 c4 c5 v : V} {R : Hp → Prop} (hp : H st = some (.lst [c0, c1, c2, c3, c4, c5])) (k : Keep st H0 H) (h : ∀ H1, H1 st = some (.lst [c0, c1, c2, v, c4, c5]) → Keep st H0 H1 → R H1) : aSet (.ref st) (.int 3) v H R := set_m3 hp (h _ upd_same (k.upd hp))
theorem st_set4 {st : Addr} {H0 : Hp} {c0 c1 c2 c3 c4 c5 v : V} {R : Hp → Prop} (hp : H st = some (.lst [c0, c1, c2, c3, c4, c5])) (k : Keep st H0 H) (h : ∀ H1, H1 st = some (.lst [c0, c1, c2, c3, v, c5]) → Keep st H0 H1 → R H1) : aSet (.ref st) (.int 4) v H R := set_m4 hp (h _ upd_same (k.upd hp))
theorem st_set5 {st : Addr} {H0 : Hp} {c0 c1 c2 c3 c4 c5 v : V} {R : Hp → Prop} (hp : H st = some (.lst [c0, c1, c2, c3, c4, c5])) (k : Keep st H0 H) (h : ∀ H1, H1 st = some (.lst [c0, c1, c2, c3, c4, v]) → Keep st H0 H1 → R H1) : aSet (.ref st) (.int 5) v H R := set_m5 hp (h _ upd_same (k.upd hp))
theorem s_next {D : Ends} (h : D.nx σ H) : tNext D σ H := h
theorem s_break {D : Ends} (h : D.bk σ H) : tBreak D σ H := h
theorem s_cont {D : Ends} (h : D.ct σ H) : tCont D σ H := h
theorem s_cut {D : Ends} {t1 t2 : TS} (Mid : L2.St → Hp → Prop) (h1 : t1 { D with nx := Mid } σ H) (h2 : ∀ σ' H', Mid σ' H' → t2 D σ' H') : tCut t1 t2 D σ H := ⟨Mid, h1, h2⟩
end
theorem atI_ints {ns : List Int} {k : Int} (h0 : 0 ≤ k) (h : k < ((ns.map V.int).length : Nat)) : ∃ c : Int, atI (ns.map V.int) k = some (.int c) := by
  rw [List.length_map] at h
  have hk : k.toNat < ns.length := by omega
  have ek : k = ((k.toNat : Nat) : Int) := by omega
  refine ⟨ns[k.toNat], ?_⟩
  have q : atI (ns.map V.int) ((k.toNat : Nat) : Int) = some (.int ns[k.toNat]) := atI_nat (by rw [List.getElem?_map, List.getElem?_eq_getElem hk] <;> rfl)
  rw [← ek] at q
  exact q
/-- what a for owes where its iterator J stands -/
def LoopI (J : It) (g : TG) (tb : TS) (D : Ends) (σ : L2.St) (H : Hp) : Prop := ∃ W : Nat → Nat → L2.St → Hp → Prop, (∃ m, W 0 m σ H) ∧ ∀ i m σ H, W i m σ H →
  (J.stop i H ∧ D.nx σ H) ∨ (J.go i H ∧ ∃ N : L2.St → Hp → Prop, (∀ σ' H', N σ' H' → ∃ m', m' < m ∧ W (i + 1) m' σ' H') ∧ ∀ x H', J.yld i H x H' → g x σ H' fun σ2 H2 => tb { D with nx := N, ct := N, bk := D.nx } σ2 H2)
section
variable {K : PySem.W.Frag} {H : Hp} {σ : L2.St} {D : Ends} {g : TG} {tb : TS} {ta : TA} {te : TE}
theorem s_for1 (h : ta σ H fun vs H1 => ∃ j : Int, vs = [.int j] ∧ -(2 ^ 62) ≤ j ∧ j < 2 ^ 62 ∧ LoopI (Itr 0 j.toNat) g tb D σ H1) : tFor (iRng1 ta) g tb D σ H := h
theorem rng1 {j : Int} {R : Int → Prop} (h1 : -(2 ^ 62) ≤ j) (h2 : j < 2 ^ 62) (h : R j) : ∃ j' : Int, [V.int j] = [.int j'] ∧ -(2 ^ 62) ≤ j' ∧ j' < 2 ^ 62 ∧ R j' := ⟨j, rfl, h1, h2, h⟩
theorem loop_rng {n : Nat} (Pv : Nat → L2.St → Hp → Prop) (h0 : Pv 0 σ H) (hs : ∀ i σ H, i < n → Pv i σ H → g (.int (i : Int)) σ H fun σ2 H2 => tb { D with nx := Pv (i + 1), ct := Pv (i + 1), bk := D.nx } σ2 H2)
    (hd : ∀ σ H, Pv n σ H → D.nx σ H) : LoopI (Itr 0 n) g tb D σ H := for_range Pv h0 (fun i σ H hi hp => by rw [Int.zero_add]; exact hs i σ H hi hp) hd
theorem s_forL (h : te σ H fun x H1 => ∃ a, x = .ref a ∧ (∃ xs, SqL K H1 a xs) ∧ LoopI (Itl K a) g tb D σ H1) : tFor (iList K te) g tb D σ H := h
end
end NW
namespace NW
open PySem PySem.Spec PyProof.Rows L2
open C8 (tCut pss_cut)
local macro_rules | `(tactic| walk_at "nw") => `(tactic| first
  | with_reducible refine s_seq ?_
  | with_reducible refine s_asg ?_
  | with_reducible refine s_if ?_
  | with_reducible refine s_ret ?_
  | with_reducible refine s_drop ?_
  | with_reducible refine v_var0 ?_
  | with_reducible refine s_name0 ?_
  | with_reducible refine v_aug0 ?_
  | with_reducible refine v_var1 ?_
  | with_reducible refine s_name1 ?_
  | with_reducible refine v_aug1 ?_
  | with_reducible refine v_var2 ?_
  | with_reducible refine s_name2 ?_
  | with_reducible refine v_aug2 ?_
  | with_reducible refine v_var3 ?_
  | with_reducible refine s_name3 ?_
  | with_reducible refine v_aug3 ?_
  | with_reducible refine v_var4 ?_
  | with_reducible refine s_name4 ?_
  | with_reducible refine v_aug4 ?_
  | with_reducible refine v_var5 ?_
  | with_reducible refine s_name5 ?_
  | with_reducible refine v_aug5 ?_
  | with_reducible refine v_var6 ?_
  | with_reducible refine s_name6 ?_
  | with_reducible refine v_aug6 ?_
  | with_reducible refine v_var7 ?_
  | with_reducible refine s_name7 ?_
  | with_reducible refine v_aug7 ?_
  | with_reducible refine v_var8 ?_
  | with_reducible refine s_name8 ?_
  | with_reducible refine v_aug8 ?_
  | with_reducible refine v_var9 ?_
  | with_reducible refine s_name9 ?_
  | with_reducible refine v_aug9 ?_
  | with_reducible refine v_var10 ?_
  | with_reducible refine s_name10 ?_
  | with_reducible refine v_aug10 ?_
  | with_reducible refine v_var11 ?_
  | with_reducible refine s_name11 ?_
  | with_reducible refine v_aug11 ?_
  | with_reducible refine v_var12 ?_
  | with_reducible refine s_name12 ?_
  | with_reducible refine v_aug12 ?_
  | with_reducible refine v_var13 ?_
  | with_reducible refine s_name13 ?_
  | with_reducible refine v_aug13 ?_
  | with_reducible refine v_var14 ?_
  | with_reducible refine s_name14 ?_
  | with_reducible refine v_aug14 ?_
  | with_reducible refine v_var15 ?_
  | with_reducible refine s_name15 ?_
  | with_reducible refine v_aug15 ?_
  | with_reducible refine v_c ?_
  | with_reducible refine v_op ?_
  | with_reducible refine v_cons ?_
  | with_reducible refine v_nil ?_
  | with_reducible refine v_cb ?_
  | with_reducible refine v_call ?_
  | with_reducible refine c_test ?_
  | with_reducible refine c_bl ?_
  | with_reducible refine c_and ?_
  | with_reducible refine c_or ?_
  | with_reducible refine c_not ?_
  | with_reducible refine v_augS ?_
  | with_reducible refine v_sub ?_
  | with_reducible refine add_ii ?_
  | with_reducible refine sub_ii ?_
  | with_reducible refine iadd_ii ?_
  | with_reducible refine lt_ii ?_
  | with_reducible refine le_ii ?_
  | with_reducible refine gt_ii ?_
  | with_reducible refine ge_ii ?_
  | with_reducible refine eq_ii ?_
  | with_reducible refine ne_ii ?_
  | with_reducible refine int_i ?_
  | with_reducible refine abs_i ?_
  | with_reducible refine max_i ?_
  | with_reducible refine min_i ?_
  | with_reducible refine mul_r (by omega) (by omega) ?_
  | with_reducible refine mul_l (by omega) (by omega) ?_
  | with_reducible refine ix_m0 (by assumption) ?_
  | with_reducible refine get_m0 (by assumption) ?_
  | with_reducible refine ix_m1 (by assumption) ?_
  | with_reducible refine get_m1 (by assumption) ?_
  | with_reducible refine ix_m2 (by assumption) ?_
  | with_reducible refine get_m2 (by assumption) ?_
  | with_reducible refine ix_m3 (by assumption) ?_
  | with_reducible refine get_m3 (by assumption) ?_
  | with_reducible refine ix_m4 (by assumption) ?_
  | with_reducible refine get_m4 (by assumption) ?_
  | with_reducible refine ix_m5 (by assumption) ?_
  | with_reducible refine get_m5 (by assumption) ?_
  | (with_reducible refine st_set1 (by assumption) (by assumption) ?_; intro H1 hs1 kp1)
  | (with_reducible refine st_set2 (by assumption) (by assumption) ?_; intro H1 hs1 kp1)
  | (with_reducible refine st_set3 (by assumption) (by assumption) ?_; intro H1 hs1 kp1)
  | (with_reducible refine st_set4 (by assumption) (by assumption) ?_; intro H1 hs1 kp1)
  | (with_reducible refine st_set5 (by assumption) (by assumption) ?_; intro H1 hs1 kp1)
  | with_reducible refine len_m (by assumption) ?_
  | with_reducible refine s_for1 ?_
  | with_reducible refine s_forL ?_
  | with_reducible refine rng1 (by omega) (by omega) ?_
  | with_reducible refine s_next ?_
  | with_reducible refine s_break ?_
  | with_reducible refine s_cont ?_
  | with_reducible refine if_t ?_
  | with_reducible refine if_f ?_)
def sp_mix : Sp := fun vs H Q _ => ∃ a b : Int, vs = [.int a, .int b] ∧ ∀ r : Int, 0 ≤ r → r < 9967 → Q (.int r) H
def t_mix (K : PySem.W.Frag) : TS :=
  (tSeq (tAsg (tOp aMod (tOp aAdd (tOp aAdd (tOp aMul (tCB aInt (tCons (tVar 0) tNil)) (tC (.int 29))) (tOp aMul (tCB aInt (tCons (tVar 1) tNil)) (tC (.int 4001)))) (tC (.int 17))) (tC (.int 10007))) (gName 2))
    (tSeq (tAsg (tOp aMod (tOp aAdd (tOp aAdd (tOp aAdd (tOp aMul (tVar 2) (tVar 2)) (tVar 2)) (tCB aInt (tCons (tVar 0) tNil))) (tCB aInt (tCons (tVar 1) tNil))) (tC (.int 9973))) (gName 3))
    (tRet (tOp aMod (tOp aAdd (tOp aAdd (tOp aMul (tVar 3) (tVar 3)) (tOp aMul (tC (.int 3)) (tVar 3))) (tVar 2)) (tC (.int 9967))))))
theorem p_mix (K : PySem.W.Frag) (vs : List V) (H : Hp) (Q : VK) (E : XK) (h : sp_mix vs H Q E) : t_mix K { nx := fun _ H' => Q .non H', rt := Q } (start ["seed", "turn", "one", "two"] vs) H := by
  obtain ⟨a, b, e, q⟩ := h
  subst e
  show t_mix K _ [some (.int a), some (.int b), none, none] H
  unfold t_mix
  repeat walk_at "nw"
  refine mod_r (by omega) fun one h0 h1 _ => ?_
  repeat walk_at "nw"
  refine mod_r (by omega) fun two h2 h3 _ => ?_
  repeat walk_at "nw"
  refine mod_r (by omega) fun r h4 h5 _ => ?_
  repeat walk_at "nw"
  exact q r h4 h5
def sp_take : Sp := fun vs H Q _ => ∃ (st : Addr) (many : Int), vs = [.ref st, .int many] ∧ Sto H st ∧ many < 2 ^ 300 ∧ ∀ (r : Int) (H' : Hp), Sto H' st → Keep st H H' → 0 ≤ r → (r < many ∨ r = 0) → Q (.int r) H'
def t_take (K : PySem.W.Frag) : TS :=
  (tSeq (tIfS (tTest (tOp aLt (tVar 1) (tC (.int 2)))) (tRet (tC (.int 0))) tNext)
    (tCut (tIfS (tAnd (tTest (tOp aEq (tOp (aIx K) (tVar 0) (tC (.int 2))) (tC (.int 0)))) (tAnd (tTest (tOp aEq (tOp (aIx K) (tVar 0) (tC (.int 3))) (tC (.int 0)))) (tTest (tOp aLt (tOp (aIx K) (tVar 0) (tC (.int 1))) (tCB (aLen K) (tCons (tOp (aIx K) (tVar 0) (tC (.int 0))) tNil)))))) (tSeq (tAsg (tCB aInt (tCons (tOp (aIx K) (tOp (aIx K) (tVar 0) (tC (.int 0))) (tOp (aIx K) (tVar 0) (tC (.int 1)))) tNil)) (gName 2))
    (tSeq (tAugS (tVar 0) (tC (.int 1)) (tC (.int 1)) (gGetL K) iAdd aSet)
    (tSeq (tAsg (tOp aMod (tCB aInt (tCons (tOp aAdd (tOp aMul (tOp (aIx K) (tVar 0) (tC (.int 4))) (tC (.int 31))) (tVar 2)) tNil)) (tC (.int 100000007))) (gSub (tVar 0) (tC (.int 4)) aSet))
    (tIfS (tTest (tOp aGe (tCB aAbs (tCons (tVar 2) tNil)) (tC (.int 1000000000000000000)))) (tAsg (tCB aAbs (tCons (tVar 2) tNil)) (gSub (tVar 0) (tC (.int 2)) aSet)) (tAsg (tC (.int 2)) (gSub (tVar 0) (tC (.int 3)) aSet)))))) tNext)
    (tSeq (tAugS (tVar 0) (tC (.int 5)) (tC (.int 1)) (gGetL K) iAdd aSet)
    (tSeq (tIfS (tTest (tOp aGt (tOp (aIx K) (tVar 0) (tC (.int 2))) (tC (.int 0)))) (tSeq (tAsg (tCB aInt (tCons (tOp (aIx K) (tVar 0) (tC (.int 2))) tNil)) (gName 3))
    (tSeq (tAsg (tOp aDiv (tVar 3) (tVar 1)) (gSub (tVar 0) (tC (.int 2)) aSet))
    (tRet (tOp aMod (tVar 3) (tVar 1))))) tNext)
    (tSeq (tAsg (tCB aMax (tCons (tC (.int 0)) (tCons (tOp aSub (tOp (aIx K) (tVar 0) (tC (.int 3))) (tC (.int 1))) tNil))) (gSub (tVar 0) (tC (.int 3)) aSet))
    (tSeq (tAsg (tC (.int 0)) (gName 4))
    (tSeq (tAsg (tC (.int 1)) (gName 5))
    (tSeq (tFor (iRng1 (tCons (tC (.int 60)) tNil)) (gName 6) (tSeq (tIfS (tTest (tOp aGe (tVar 5) (tVar 1))) tBreak tNext)
    (tSeq (tAsg (tOp aAdd (tOp aMul (tVar 4) (tC (.int 9967))) (tCall sp_mix [] E0 (tCons (tOp (aIx K) (tVar 0) (tC (.int 4))) (tCons (tOp aAdd (tOp (aIx K) (tVar 0) (tC (.int 5))) (tOp aMul (tC (.int 977)) (tVar 6))) tNil)))) (gName 4))
    (tAsg (tOp aMul (tVar 5) (tC (.int 9967))) (gName 5)))))
    (tRet (tOp aMod (tCB aInt (tCons (tVar 4) tNil)) (tVar 1)))))))))))
theorem p_take (K : PySem.W.Frag) (vs : List V) (H : Hp) (Q : VK) (E : XK) (h : sp_take vs H Q E) : t_take K { nx := fun _ H' => Q .non H', rt := Q } (start ["store", "many", "cell", "digits", "number", "room", "k"] vs) H := by
  obtain ⟨st, many, e, ⟨cl, ns, at_, left, small, seed, turn, hs, hc, h0⟩, hm, q⟩ := h
  subst e
  show t_take K _ [some (.ref st), some (.int many), none, none, none, none, none] H
  have hne : cl ≠ st := fun z => by
    rw [z, hs] at hc
    cases ns with
    | nil => cases hc
    | cons a r => cases hc
  have kp := Keep.refl st H
  unfold t_take
  repeat walk_at "nw"
  refine if_d (fun c => ?_) (fun c => ?_)
  · repeat walk_at "nw"
    exact q 0 H ⟨cl, ns, at_, left, small, seed, turn, hs, hc, h0⟩ (Keep.refl _ _) (by omega) (.inr rfl)
  have kc : ∀ {H2 : Hp}, Keep st H H2 → H2 cl = some (.lst (ns.map V.int)) := fun k => k.o cl _ hc hne
  refine s_cut (fun σ' H' => ∃ (o : Option V) (at_ left small seed turn : Int), σ' = [some (.ref st), some (.int many), o, none, none, none, none] ∧
    H' st = some (.lst [.ref cl, .int at_, .int left, .int small, .int seed, .int turn]) ∧ 0 ≤ at_ ∧ Keep st H H') ?_ ?_
  · -- the store's cells: the next one is begun, or nothing is done
    have stay : ∃ (o : Option V) (at_ left small seed turn : Int), [some (V.ref st), some (V.int many), none, none, none, none, none] = [some (.ref st), some (.int many), o, none, none, none, none] ∧
      H st = some (.lst [.ref cl, .int at_, .int left, .int small, .int seed, .int turn]) ∧ 0 ≤ at_ ∧ Keep st H H := ⟨none, at_, left, small, seed, turn, rfl, hs, h0, kp⟩
    repeat walk_at "nw"
    refine if_d (fun _ => ?_) (fun _ => ?_)
    rotate_left
    · repeat walk_at "nw"
      exact stay
    repeat walk_at "nw"
    refine if_d (fun _ => ?_) (fun _ => ?_)
    rotate_left
    · repeat walk_at "nw"
      exact stay
    repeat walk_at "nw"
    refine if_d (fun c3 => ?_) (fun _ => ?_)
    rotate_left
    · repeat walk_at "nw"
      exact stay
    obtain ⟨cell, hcell⟩ := atI_ints h0 c3
    repeat walk_at "nw"
    refine ix_m hc hcell ?_
    repeat walk_at "nw"
    refine mod_r (by omega) fun seed' _ _ _ => ?_
    repeat walk_at "nw"
    refine if_d (fun _ => ?_) (fun _ => ?_)
    · repeat walk_at "nw"
      exact ⟨_, _, _, _, _, _, rfl, by assumption, by omega, by assumption⟩
    · repeat walk_at "nw"
      exact ⟨_, _, _, _, _, _, rfl, by assumption, by omega, by assumption⟩
  · clear hs kp
    rintro σ' H' ⟨o, at_, left, small, seed, turn, rfl, hs, h0, kp⟩
    repeat walk_at "nw"
    refine if_d (fun c2 => ?_) (fun _ => ?_)
    · repeat walk_at "nw"
      refine div_r (by omega) hm fun d _ => ?_
      repeat walk_at "nw"
      refine mod_r (by omega) fun r h4 h5 _ => ?_
      exact q r _ ⟨cl, ns, _, _, _, _, _, by assumption, kc (by assumption), h0⟩ (by assumption) h4 (.inl h5)
    · repeat walk_at "nw"
      rename_i H1 hs1 kp1
      have fin : ∀ number : Int, aMod (.int number) (.int many) H1 Q := fun number => mod_r (by omega) fun r h4 h5 _ => q r _ ⟨cl, ns, _, _, _, _, _, hs1, kc kp1, h0⟩ kp1 h4 (.inl h5)
      refine loop_rng (fun _ σ' H' => ∃ (number room : Int) (kk : Option V), σ' = [some (.ref st), some (.int many), o, none, some (.int number), some (.int room), kk] ∧ H' = H1) ⟨0, 1, none, rfl, rfl⟩ ?_ ?_
      · rintro i σ' H' _ ⟨number, room, kk, rfl, rfl⟩
        repeat walk_at "nw"
        refine if_d (fun _ => ?_) (fun _ => ?_)
        · repeat walk_at "nw"
          exact fin _
        · repeat walk_at "nw"
          refine ⟨_, _, rfl, fun r _ _ => ?_⟩
          repeat walk_at "nw"
          exact ⟨_, _, _, rfl, rfl⟩
      · rintro σ' H' ⟨number, room, kk, rfl, rfl⟩
        repeat walk_at "nw"
        exact fin _
theorem l_mix : ∀ vs H Q E, sp_mix vs H Q E → vs.length = 2 := fun _ _ _ _ ⟨_, _, e, _⟩ => by rw [e]; rfl
theorem l_take : ∀ vs H Q E, sp_take vs H Q E → vs.length = 2 := fun _ _ _ _ ⟨_, _, e, _⟩ => by rw [e]; rfl
end NW
namespace NW
open PySem PySem.Spec PyProof.Rows L2
open C8 (tCut pss_cut)
def aIsi (K : PySem.W.Frag) : List V → Hp → VK → Prop := fun xs H Q => rIsi K xs H Q ∨ rIsiT K xs H Q
theorem cIsi {X : Cx} : CallR X (.builtin "isinstance") (aIsi X.K) := orCall call_isi call_isiT
section
variable {K : PySem.W.Frag} {H : Hp} {Q : VK} {x : V} {T a : String} {b : Bool}
theorem isi_of (ht : TyX K H x (.type a)) (hb : kitB a T = some b) (h : Q (.bl b) H) : aIsi K [x, .ty T] H Q := .inl ⟨x, _, _, _, b, rfl, .ty T, ht, kit_ty hb, h⟩
theorem isi_two {p : Addr} {T U : String} {b c : Bool} (ht : TyX K H x (.type a)) (hp : H p = some (.tup [.ty T, .ty U])) (hb : kitB a T = some b) (hc : kitB a U = some c) (h : Q (.bl (b || c)) H) : aIsi K [x, .ref p] H Q :=
  .inr ⟨x, p, _, _, _, b || c, rfl, hp, .cons (.ty T) (.cons (.ty U) .nil), ht, kitAny_cons (kit_ty hb) (fun e => by rw [e]; exact kitAny_cons (kit_ty hc) (fun e2 => by rw [e2]; rfl) (fun e2 => by rw [e2]; rfl)) (fun e => by rw [e]; rfl), h⟩
end
section
variable {K : PySem.W.Frag} {H H0 : Hp} {Q : VK} {i : Int} {k : Bool} {s : Str} {p t : Addr} {xs : List V} {kvs : List (Key × V)}
theorem isi_non_bool (h : Q (.bl false) H) : aIsi K [.non, .ty "bool"] H Q := isi_of (.base .non) (by decide +kernel) h
theorem isi_non_int (h : Q (.bl false) H) : aIsi K [.non, .ty "int"] H Q := isi_of (.base .non) (by decide +kernel) h
theorem isi_non_str (h : Q (.bl false) H) : aIsi K [.non, .ty "str"] H Q := isi_of (.base .non) (by decide +kernel) h
theorem isi_non_list (h : Q (.bl false) H) : aIsi K [.non, .ty "list"] H Q := isi_of (.base .non) (by decide +kernel) h
theorem isi_non_tuple (h : Q (.bl false) H) : aIsi K [.non, .ty "tuple"] H Q := isi_of (.base .non) (by decide +kernel) h
theorem isi_non_dict (h : Q (.bl false) H) : aIsi K [.non, .ty "dict"] H Q := isi_of (.base .non) (by decide +kernel) h
theorem isi_non_seq (ht : H t = some (.tup [.ty "list", .ty "tuple"])) (h : Q (.bl false) H) : aIsi K [.non, .ref t] H Q := isi_two (b := false) (c := false) (.base .non) ht (by decide +kernel) (by decide +kernel) h
theorem isi_bl_bool (h : Q (.bl true) H) : aIsi K [(.bl k), .ty "bool"] H Q := isi_of (.base (.bl _)) (by decide +kernel) h
theorem isi_bl_int (h : Q (.bl true) H) : aIsi K [(.bl k), .ty "int"] H Q := isi_of (.base (.bl _)) (by decide +kernel) h
theorem isi_bl_str (h : Q (.bl false) H) : aIsi K [(.bl k), .ty "str"] H Q := isi_of (.base (.bl _)) (by decide +kernel) h
theorem isi_bl_list (h : Q (.bl false) H) : aIsi K [(.bl k), .ty "list"] H Q := isi_of (.base (.bl _)) (by decide +kernel) h
theorem isi_bl_tuple (h : Q (.bl false) H) : aIsi K [(.bl k), .ty "tuple"] H Q := isi_of (.base (.bl _)) (by decide +kernel) h
theorem isi_bl_dict (h : Q (.bl false) H) : aIsi K [(.bl k), .ty "dict"] H Q := isi_of (.base (.bl _)) (by decide +kernel) h
theorem isi_bl_seq (ht : H t = some (.tup [.ty "list", .ty "tuple"])) (h : Q (.bl false) H) : aIsi K [(.bl k), .ref t] H Q := isi_two (b := false) (c := false) (.base (.bl _)) ht (by decide +kernel) (by decide +kernel) h
theorem isi_int_bool (h : Q (.bl false) H) : aIsi K [(.int i), .ty "bool"] H Q := isi_of (.base (.int _)) (by decide +kernel) h
theorem isi_int_int (h : Q (.bl true) H) : aIsi K [(.int i), .ty "int"] H Q := isi_of (.base (.int _)) (by decide +kernel) h
theorem isi_int_str (h : Q (.bl false) H) : aIsi K [(.int i), .ty "str"] H Q := isi_of (.base (.int _)) (by decide +kernel) h
theorem isi_int_list (h : Q (.bl false) H) : aIsi K [(.int i), .ty "list"] H Q := isi_of (.base (.int _)) (by decide +kernel) h
theorem isi_int_tuple (h : Q (.bl false) H) : aIsi K [(.int i), .ty "tuple"] H Q := isi_of (.base (.int _)) (by decide +kernel) h
theorem isi_int_dict (h : Q (.bl false) H) : aIsi K [(.int i), .ty "dict"] H Q := isi_of (.base (.int _)) (by decide +kernel) h
theorem isi_int_seq (ht : H t = some (.tup [.ty "list", .ty "tuple"])) (h : Q (.bl false) H) : aIsi K [(.int i), .ref t] H Q := isi_two (b := false) (c := false) (.base (.int _)) ht (by decide +kernel) (by decide +kernel) h
theorem isi_str_bool (h : Q (.bl false) H) : aIsi K [(.str s), .ty "bool"] H Q := isi_of (.base (.str _)) (by decide +kernel) h
theorem isi_str_int (h : Q (.bl false) H) : aIsi K [(.str s), .ty "int"] H Q := isi_of (.base (.str _)) (by decide +kernel) h
theorem isi_str_str (h : Q (.bl true) H) : aIsi K [(.str s), .ty "str"] H Q := isi_of (.base (.str _)) (by decide +kernel) h
theorem isi_str_list (h : Q (.bl false) H) : aIsi K [(.str s), .ty "list"] H Q := isi_of (.base (.str _)) (by decide +kernel) h
theorem isi_str_tuple (h : Q (.bl false) H) : aIsi K [(.str s), .ty "tuple"] H Q := isi_of (.base (.str _)) (by decide +kernel) h
theorem isi_str_dict (h : Q (.bl false) H) : aIsi K [(.str s), .ty "dict"] H Q := isi_of (.base (.str _)) (by decide +kernel) h
theorem isi_str_seq (ht : H t = some (.tup [.ty "list", .ty "tuple"])) (h : Q (.bl false) H) : aIsi K [(.str s), .ref t] H Q := isi_two (b := false) (c := false) (.base (.str _)) ht (by decide +kernel) (by decide +kernel) h
theorem isi_lst_bool (hs : Same H0 H) (hp : H0 p = some (.lst xs)) (h : Q (.bl false) H) : aIsi K [(.ref p), .ty "bool"] H Q := isi_of (.base (.lst (hs _ _ hp))) (by decide +kernel) h
theorem isi_lst_int (hs : Same H0 H) (hp : H0 p = some (.lst xs)) (h : Q (.bl false) H) : aIsi K [(.ref p), .ty "int"] H Q := isi_of (.base (.lst (hs _ _ hp))) (by decide +kernel) h
theorem isi_lst_str (hs : Same H0 H) (hp : H0 p = some (.lst xs)) (h : Q (.bl false) H) : aIsi K [(.ref p), .ty "str"] H Q := isi_of (.base (.lst (hs _ _ hp))) (by decide +kernel) h
theorem isi_lst_list (hs : Same H0 H) (hp : H0 p = some (.lst xs)) (h : Q (.bl true) H) : aIsi K [(.ref p), .ty "list"] H Q := isi_of (.base (.lst (hs _ _ hp))) (by decide +kernel) h
theorem isi_lst_tuple (hs : Same H0 H) (hp : H0 p = some (.lst xs)) (h : Q (.bl false) H) : aIsi K [(.ref p), .ty "tuple"] H Q := isi_of (.base (.lst (hs _ _ hp))) (by decide +kernel) h
theorem isi_lst_dict (hs : Same H0 H) (hp : H0 p = some (.lst xs)) (h : Q (.bl false) H) : aIsi K [(.ref p), .ty "dict"] H Q := isi_of (.base (.lst (hs _ _ hp))) (by decide +kernel) h
theorem isi_lst_seq (hs : Same H0 H) (hp : H0 p = some (.lst xs)) (ht : H t = some (.tup [.ty "list", .ty "tuple"])) (h : Q (.bl true) H) : aIsi K [(.ref p), .ref t] H Q := isi_two (b := true) (c := false) (.base (.lst (hs _ _ hp))) ht (by decide +kernel) (by decide +kernel) h
theorem isi_tup_bool (hs : Same H0 H) (hp : H0 p = some (.tup xs)) (h : Q (.bl false) H) : aIsi K [(.ref p), .ty "bool"] H Q := isi_of (.base (.tup (hs _ _ hp))) (by decide +kernel) h
theorem isi_tup_int (hs : Same H0 H) (hp : H0 p = some (.tup xs)) (h : Q (.bl false) H) : aIsi K [(.ref p), .ty "int"] H Q := isi_of (.base (.tup (hs _ _ hp))) (by decide +kernel) h
theorem isi_tup_str (hs : Same H0 H) (hp : H0 p = some (.tup xs)) (h : Q (.bl false) H) : aIsi K [(.ref p), .ty "str"] H Q := isi_of (.base (.tup (hs _ _ hp))) (by decide +kernel) h
theorem isi_tup_list (hs : Same H0 H) (hp : H0 p = some (.tup xs)) (h : Q (.bl false) H) : aIsi K [(.ref p), .ty "list"] H Q := isi_of (.base (.tup (hs _ _ hp))) (by decide +kernel) h
theorem isi_tup_tuple (hs : Same H0 H) (hp : H0 p = some (.tup xs)) (h : Q (.bl true) H) : aIsi K [(.ref p), .ty "tuple"] H Q := isi_of (.base (.tup (hs _ _ hp))) (by decide +kernel) h
theorem isi_tup_dict (hs : Same H0 H) (hp : H0 p = some (.tup xs)) (h : Q (.bl false) H) : aIsi K [(.ref p), .ty "dict"] H Q := isi_of (.base (.tup (hs _ _ hp))) (by decide +kernel) h
theorem isi_tup_seq (hs : Same H0 H) (hp : H0 p = some (.tup xs)) (ht : H t = some (.tup [.ty "list", .ty "tuple"])) (h : Q (.bl true) H) : aIsi K [(.ref p), .ref t] H Q := isi_two (b := false) (c := true) (.base (.tup (hs _ _ hp))) ht (by decide +kernel) (by decide +kernel) h
theorem isi_dK_bool (hs : Same H0 H) (hp : H0 p = some (.dK kvs)) (h : Q (.bl false) H) : aIsi K [(.ref p), .ty "bool"] H Q := isi_of (.base (.dK (hs _ _ hp))) (by decide +kernel) h
theorem isi_dK_int (hs : Same H0 H) (hp : H0 p = some (.dK kvs)) (h : Q (.bl false) H) : aIsi K [(.ref p), .ty "int"] H Q := isi_of (.base (.dK (hs _ _ hp))) (by decide +kernel) h
theorem isi_dK_str (hs : Same H0 H) (hp : H0 p = some (.dK kvs)) (h : Q (.bl false) H) : aIsi K [(.ref p), .ty "str"] H Q := isi_of (.base (.dK (hs _ _ hp))) (by decide +kernel) h
theorem isi_dK_list (hs : Same H0 H) (hp : H0 p = some (.dK kvs)) (h : Q (.bl false) H) : aIsi K [(.ref p), .ty "list"] H Q := isi_of (.base (.dK (hs _ _ hp))) (by decide +kernel) h
theorem isi_dK_tuple (hs : Same H0 H) (hp : H0 p = some (.dK kvs)) (h : Q (.bl false) H) : aIsi K [(.ref p), .ty "tuple"] H Q := isi_of (.base (.dK (hs _ _ hp))) (by decide +kernel) h
theorem isi_dK_dict (hs : Same H0 H) (hp : H0 p = some (.dK kvs)) (h : Q (.bl true) H) : aIsi K [(.ref p), .ty "dict"] H Q := isi_of (.base (.dK (hs _ _ hp))) (by decide +kernel) h
theorem isi_dK_seq (hs : Same H0 H) (hp : H0 p = some (.dK kvs)) (ht : H t = some (.tup [.ty "list", .ty "tuple"])) (h : Q (.bl false) H) : aIsi K [(.ref p), .ref t] H Q := isi_two (b := false) (c := false) (.base (.dK (hs _ _ hp))) ht (by decide +kernel) (by decide +kernel) h
/-- a new tuple -/
theorem tup_new {σ : L2.St} {ta : TA} (h : ta σ H fun ys H1 => ys.length ≤ sizeLine ∧ NewR (.tup ys) H1 Q) : tTup ta σ H Q := h
theorem lst_new {σ : L2.St} {ta : TA} (h : ta σ H fun ys H1 => ys.length ≤ sizeLine ∧ NewR (.lst ys) H1 Q) : tLst ta σ H Q := h
theorem lit_len {ys : List V} {A : Prop} (hl : ys.length ≤ 1000000) (h : A) : ys.length ≤ sizeLine ∧ A := ⟨Nat.le_trans hl (by decide), h⟩
theorem new_same {o : HO} (hs : Same H0 H) (h : ∀ q H1, H q = none → H1 q = some o → Same H H1 → Same H0 H1 → Q (.ref q) H1) : NewR o H Q :=
  fun q hq => h q _ hq upd_same (fun b o e => by rw [upd_ne (ne_of_none e hq)]; exact e) (fun b o e => by rw [upd_ne (ne_of_none (hs b o e) hq)]; exact hs b o e)
theorem ev_isN {σ : L2.St} {te : TE} (h : te σ H fun x H1 => Q (.bl (decide (x = .non))) H1) : tIsN te σ H Q := h
theorem ev_tB {σ : L2.St} {te : TE} {B : Bool → Hp → Prop} (h : te σ H fun x H1 => ∃ c, x = .bl c ∧ B c H1) : tB te σ H B := h
theorem ev_and {σ : L2.St} {ta tb : TE} (h : ta σ H fun x H1 => ∃ c, x = .bl c ∧ if c = true then tb σ H1 Q else Q (.bl false) H1) : tAndV ta tb σ H Q := h
theorem ev_or {σ : L2.St} {ta tb : TE} (h : ta σ H fun x H1 => ∃ c, x = .bl c ∧ if c = true then Q (.bl true) H1 else tb σ H1 Q) : tOrV ta tb σ H Q := h
theorem ev_not {σ : L2.St} {ta : TE} (h : ta σ H fun x H1 => ∃ c, x = .bl c ∧ Q (.bl (!c)) H1) : tNotV ta σ H Q := h
def tTru (K : PySem.W.Frag) (ta : TE) : TT := fun σ H Q => ta σ H fun x H' => ∃ k, TruV K x H' k ∧ Q k H'
theorem c_tru {σ : L2.St} {te : TE} {B : Bool → Hp → Prop} (h : te σ H fun x H' => ∃ k, TruV K x H' k ∧ B k H') : tTru K te σ H B := h
theorem tru_bl {b : Bool} {B : Bool → Prop} (h : B b) : ∃ k, TruV K (.bl b) H k ∧ B k := ⟨b, rfl, h⟩
theorem if_dT {c : Prop} {dc : Decidable c} {A A' : Prop} (hc : c) (h : A) : if @decide c dc = true then A else A' := by rw [if_pos (decide_eq_true hc)]; exact h
theorem if_dF {c : Prop} {dc : Decidable c} {A A' : Prop} (hc : ¬ c) (h : A') : if @decide c dc = true then A else A' := by rw [if_neg (fun z => hc (of_decide_eq_true z))]; exact h
theorem eq_bb {b c : Bool} (h : Q (.bl (decide (b = c))) H) : aEq (.bl b) (.bl c) H Q := eq_sc rfl (by rw [dec_bl, Bool.beq_eq_decide_eq]; exact h)
theorem eq_ss {b c : Str} (h : Q (.bl (decide (b = c))) H) : aEq (.str b) (.str c) H Q := eq_sc rfl (by
  have e : decide (V.str b = V.str c) = decide (b = c) := decide_eq_decide.mpr ⟨fun z => V.str.inj z, fun z => by rw [z]⟩
  rw [e]; exact h)
theorem if_nt {A A' : Prop} (h : A') : if (!true) = true then A else A' := h
theorem if_nf {A A' : Prop} (h : A) : if (!false) = true then A else A' := h
theorem if_nd {c : Prop} {dc : Decidable c} {A A' : Prop} (h1 : c → A') (h2 : ¬ c → A) : if (!@decide c dc) = true then A else A' := by
  by_cases q : c
  · rw [decide_eq_true q]; exact h1 q
  · rw [decide_eq_false q]; exact h2 q
theorem len_ms (hs : Same H0 H) (hp : H0 p = some (.lst xs)) (h : Q (.int (xs.length : Nat)) H) : aLen K [.ref p] H Q := len_m (hs _ _ hp) h
theorem len_ts (hs : Same H0 H) (hp : H0 p = some (.tup xs)) (h : Q (.int (xs.length : Nat)) H) : aLen K [.ref p] H Q := len_t (SqT.of (hs _ _ hp)) h
end
inductive DT where
  | non
  | bl (b : Bool)
  | int (i : Int)
  | str (s : Str)
  | lst (xs : List DT)
  | tup (xs : List DT)
mutual
inductive Is (H : Hp) : V → DT → Prop where
  | non : Is H .non .non
  | bl (b : Bool) : Is H (.bl b) (.bl b)
  | int (i : Int) : Is H (.int i) (.int i)
  | str (s : Str) : Is H (.str s) (.str s)
  | lst {a : Addr} {vs : List V} {xs : List DT} : H a = some (.lst vs) → Iss H vs xs → vs.length ≤ 1000000 → Is H (.ref a) (.lst xs)
  | tup {a : Addr} {vs : List V} {xs : List DT} : H a = some (.tup vs) → Iss H vs xs → vs.length ≤ 1000000 → Is H (.ref a) (.tup xs)
inductive Iss (H : Hp) : List V → List DT → Prop where
  | nil : Iss H [] []
  | cons {v : V} {vs : List V} {x : DT} {xs : List DT} : Is H v x → Iss H vs xs → Iss H (v :: vs) (x :: xs)
end
mutual
def DT.dep : DT → Nat
  | .lst xs => depL xs + 1
  | .tup xs => depL xs + 1
  | _ => 0
def depL : List DT → Nat
  | [] => 0
  | x :: xs => max x.dep (depL xs)
end
theorem Iss.len {H : Hp} : ∀ {vs : List V} {xs : List DT}, Iss H vs xs → vs.length = xs.length
  | _, _, .nil => rfl
  | _, _, .cons _ t => congrArg (· + 1) (Iss.len t)
theorem Iss.at {H : Hp} : ∀ {vs : List V} {xs : List DT} {i : Nat}, Iss H vs xs → i < vs.length → ∃ v x, vs[i]? = some v ∧ xs[i]? = some x ∧ Is H v x
  | _, _, _, .nil, h => absurd h (Nat.not_lt_zero _)
  | _, _, 0, .cons a _, _ => ⟨_, _, rfl, rfl, a⟩
  | _, _, i + 1, .cons _ t, h => by
    obtain ⟨v, x, h1, h2, h3⟩ := Iss.at (i := i) t (Nat.lt_of_succ_lt_succ h)
    exact ⟨v, x, h1, h2, h3⟩
theorem depL_at : ∀ {xs : List DT} {i : Nat} {x : DT}, xs[i]? = some x → x.dep ≤ depL xs
  | [], _, _, h => by simp at h
  | y :: ys, 0, x, h => by
    have e : y = x := Option.some.inj h
    subst e
    exact Nat.le_max_left _ _
  | y :: ys, i + 1, x, h => Nat.le_trans (depL_at (xs := ys) (i := i) h) (Nat.le_max_right _ _)
mutual
theorem Is.mono {H H' : Hp} (s : Same H H') : ∀ {v : V} {d : DT}, Is H v d → Is H' v d
  | _, _, .non => .non
  | _, _, .bl b => .bl b
  | _, _, .int i => .int i
  | _, _, .str x => .str x
  | _, _, .lst h t l => .lst (s _ _ h) (Iss.mono s t) l
  | _, _, .tup h t l => .tup (s _ _ h) (Iss.mono s t) l
theorem Iss.mono {H H' : Hp} (s : Same H H') : ∀ {vs : List V} {ds : List DT}, Iss H vs ds → Iss H' vs ds
  | _, _, .nil => .nil
  | _, _, .cons a t => .cons (Is.mono s a) (Iss.mono s t)
end
/-- one and other, of depth less than n: True exactly if they are the same through and through -/
def sp_same : Nat → Sp
  | 0 => fun _ _ _ _ => False
  | n + 1 => fun vs H Q _ => ∃ (x y : V) (d e : DT), vs = [x, y] ∧ Is H x d ∧ Is H y e ∧ d.dep ≤ n ∧ ∀ (b : Bool) (H' : Hp), Same H H' → (b = true ↔ d = e) → Q (.bl b) H'
theorem l_same : ∀ n vs H Q E, sp_same n vs H Q E → vs.length = 2
  | 0, _, _, _, _, h => h.elim
  | n + 1, _, _, _, _, ⟨_, _, _, _, e, _⟩ => by rw [e]; rfl
def t_same (K : PySem.W.Frag) (n : Nat) : TS :=
  (tSeq (tIfS (tOr (tB (tIsN (tVar 0))) (tB (tIsN (tVar 1)))) (tRet (tAndV (tIsN (tVar 0)) (tIsN (tVar 1)))) tNext)
    (tSeq (tIfS (tOr (tTru K (tCB (aIsi K) (tCons (tVar 0) (tCons (tC (.ty "bool")) tNil)))) (tTru K (tCB (aIsi K) (tCons (tVar 1) (tCons (tC (.ty "bool")) tNil))))) (tRet (tAndV (tCB (aIsi K) (tCons (tVar 0) (tCons (tC (.ty "bool")) tNil))) (tAndV (tCB (aIsi K) (tCons (tVar 1) (tCons (tC (.ty "bool")) tNil))) (tOp aEq (tVar 0) (tVar 1))))) tNext)
    (tSeq (tIfS (tTru K (tCB (aIsi K) (tCons (tVar 0) (tCons (tC (.ty "int")) tNil)))) (tRet (tAndV (tCB (aIsi K) (tCons (tVar 1) (tCons (tC (.ty "int")) tNil))) (tOp aEq (tVar 0) (tVar 1)))) tNext)
    (tSeq (tIfS (tTru K (tCB (aIsi K) (tCons (tVar 0) (tCons (tC (.ty "str")) tNil)))) (tRet (tAndV (tCB (aIsi K) (tCons (tVar 1) (tCons (tC (.ty "str")) tNil))) (tOp aEq (tVar 0) (tVar 1)))) tNext)
    (tSeq (tIfS (tTru K (tCB (aIsi K) (tCons (tVar 0) (tCons (tC (.ty "dict")) tNil)))) tNever tNext)
    (tSeq (tIfS (tAnd (tTru K (tCB (aIsi K) (tCons (tVar 0) (tCons (tC (.ty "list")) tNil)))) (tNot (tTru K (tCB (aIsi K) (tCons (tVar 1) (tCons (tC (.ty "list")) tNil)))))) (tRet (tC (.bl false))) tNext)
    (tSeq (tIfS (tAnd (tTru K (tCB (aIsi K) (tCons (tVar 0) (tCons (tC (.ty "tuple")) tNil)))) (tNot (tTru K (tCB (aIsi K) (tCons (tVar 1) (tCons (tC (.ty "tuple")) tNil)))))) (tRet (tC (.bl false))) tNext)
    (tSeq (tIfS (tOr (tNot (tTru K (tCB (aIsi K) (tCons (tVar 0) (tCons (tTup (tCons (tC (.ty "list")) (tCons (tC (.ty "tuple")) tNil))) tNil))))) (tTest (tOp aNe (tCB (aLen K) (tCons (tVar 0) tNil)) (tCB (aLen K) (tCons (tVar 1) tNil))))) (tRet (tC (.bl false))) tNext)
    (tSeq (tFor (iRng1 (tCons (tCB (aLen K) (tCons (tVar 0) tNil)) tNil)) (gName 2) (tIfS (tNot (tTru K (tCall (sp_same n) [] E0 (tCons (tOp (aIx K) (tVar 0) (tVar 2)) (tCons (tOp (aIx K) (tVar 1) (tVar 2)) tNil))))) (tRet (tC (.bl false))) tNext))
    (tRet (tC (.bl true))))))))))))
local macro_rules | `(tactic| walk_at "nw") => `(tactic| first
  | with_reducible refine s_seq ?_
  | with_reducible refine s_asg ?_
  | with_reducible refine s_if ?_
  | with_reducible refine s_ret ?_
  | with_reducible refine s_drop ?_
  | with_reducible refine v_var0 ?_
  | with_reducible refine s_name0 ?_
  | with_reducible refine v_aug0 ?_
  | with_reducible refine v_var1 ?_
  | with_reducible refine s_name1 ?_
  | with_reducible refine v_aug1 ?_
  | with_reducible refine v_var2 ?_
  | with_reducible refine s_name2 ?_
  | with_reducible refine v_aug2 ?_
  | with_reducible refine v_var3 ?_
  | with_reducible refine s_name3 ?_
  | with_reducible refine v_aug3 ?_
  | with_reducible refine v_var4 ?_
  | with_reducible refine s_name4 ?_
  | with_reducible refine v_aug4 ?_
  | with_reducible refine v_var5 ?_
  | with_reducible refine s_name5 ?_
  | with_reducible refine v_aug5 ?_
  | with_reducible refine v_var6 ?_
  | with_reducible refine s_name6 ?_
  | with_reducible refine v_aug6 ?_
  | with_reducible refine v_var7 ?_
  | with_reducible refine s_name7 ?_
  | with_reducible refine v_aug7 ?_
  | with_reducible refine v_var8 ?_
  | with_reducible refine s_name8 ?_
  | with_reducible refine v_aug8 ?_
  | with_reducible refine v_var9 ?_
  | with_reducible refine s_name9 ?_
  | with_reducible refine v_aug9 ?_
  | with_reducible refine v_var10 ?_
  | with_reducible refine s_name10 ?_
  | with_reducible refine v_aug10 ?_
  | with_reducible refine v_var11 ?_
  | with_reducible refine s_name11 ?_
  | with_reducible refine v_aug11 ?_
  | with_reducible refine v_var12 ?_
  | with_reducible refine s_name12 ?_
  | with_reducible refine v_aug12 ?_
  | with_reducible refine v_var13 ?_
  | with_reducible refine s_name13 ?_
  | with_reducible refine v_aug13 ?_
  | with_reducible refine v_var14 ?_
  | with_reducible refine s_name14 ?_
  | with_reducible refine v_aug14 ?_
  | with_reducible refine v_var15 ?_
  | with_reducible refine s_name15 ?_
  | with_reducible refine v_aug15 ?_
  | with_reducible refine v_c ?_
  | with_reducible refine v_op ?_
  | with_reducible refine v_cons ?_
  | with_reducible refine v_nil ?_
  | with_reducible refine v_cb ?_
  | with_reducible refine v_call ?_
  | with_reducible refine c_test ?_
  | with_reducible refine c_bl ?_
  | with_reducible refine c_and ?_
  | with_reducible refine c_or ?_
  | with_reducible refine c_not ?_
  | with_reducible refine v_augS ?_
  | with_reducible refine v_sub ?_
  | with_reducible refine add_ii ?_
  | with_reducible refine sub_ii ?_
  | with_reducible refine iadd_ii ?_
  | with_reducible refine lt_ii ?_
  | with_reducible refine le_ii ?_
  | with_reducible refine gt_ii ?_
  | with_reducible refine ge_ii ?_
  | with_reducible refine eq_ii ?_
  | with_reducible refine ne_ii ?_
  | with_reducible refine int_i ?_
  | with_reducible refine abs_i ?_
  | with_reducible refine max_i ?_
  | with_reducible refine min_i ?_
  | with_reducible refine mul_r (by omega) (by omega) ?_
  | with_reducible refine mul_l (by omega) (by omega) ?_
  | with_reducible refine ix_m0 (by assumption) ?_
  | with_reducible refine get_m0 (by assumption) ?_
  | with_reducible refine ix_m1 (by assumption) ?_
  | with_reducible refine get_m1 (by assumption) ?_
  | with_reducible refine ix_m2 (by assumption) ?_
  | with_reducible refine get_m2 (by assumption) ?_
  | with_reducible refine ix_m3 (by assumption) ?_
  | with_reducible refine get_m3 (by assumption) ?_
  | with_reducible refine ix_m4 (by assumption) ?_
  | with_reducible refine get_m4 (by assumption) ?_
  | with_reducible refine ix_m5 (by assumption) ?_
  | with_reducible refine get_m5 (by assumption) ?_
  | (with_reducible refine st_set1 (by assumption) (by assumption) ?_; intro H1 hs1 kp1)
  | (with_reducible refine st_set2 (by assumption) (by assumption) ?_; intro H1 hs1 kp1)
  | (with_reducible refine st_set3 (by assumption) (by assumption) ?_; intro H1 hs1 kp1)
  | (with_reducible refine st_set4 (by assumption) (by assumption) ?_; intro H1 hs1 kp1)
  | (with_reducible refine st_set5 (by assumption) (by assumption) ?_; intro H1 hs1 kp1)
  | with_reducible refine len_m (by assumption) ?_
  | with_reducible refine s_for1 ?_
  | with_reducible refine s_forL ?_
  | with_reducible refine rng1 (by omega) (by omega) ?_
  | with_reducible refine s_next ?_
  | with_reducible refine s_break ?_
  | with_reducible refine s_cont ?_
  | with_reducible refine isi_non_bool ?_
  | with_reducible refine isi_non_int ?_
  | with_reducible refine isi_non_str ?_
  | with_reducible refine isi_non_list ?_
  | with_reducible refine isi_non_tuple ?_
  | with_reducible refine isi_non_dict ?_
  | with_reducible refine isi_non_seq (by assumption) ?_
  | with_reducible refine isi_bl_bool ?_
  | with_reducible refine isi_bl_int ?_
  | with_reducible refine isi_bl_str ?_
  | with_reducible refine isi_bl_list ?_
  | with_reducible refine isi_bl_tuple ?_
  | with_reducible refine isi_bl_dict ?_
  | with_reducible refine isi_bl_seq (by assumption) ?_
  | with_reducible refine isi_int_bool ?_
  | with_reducible refine isi_int_int ?_
  | with_reducible refine isi_int_str ?_
  | with_reducible refine isi_int_list ?_
  | with_reducible refine isi_int_tuple ?_
  | with_reducible refine isi_int_dict ?_
  | with_reducible refine isi_int_seq (by assumption) ?_
  | with_reducible refine isi_str_bool ?_
  | with_reducible refine isi_str_int ?_
  | with_reducible refine isi_str_str ?_
  | with_reducible refine isi_str_list ?_
  | with_reducible refine isi_str_tuple ?_
  | with_reducible refine isi_str_dict ?_
  | with_reducible refine isi_str_seq (by assumption) ?_
  | with_reducible refine isi_lst_bool (by assumption) (by assumption) ?_
  | with_reducible refine isi_lst_int (by assumption) (by assumption) ?_
  | with_reducible refine isi_lst_str (by assumption) (by assumption) ?_
  | with_reducible refine isi_lst_list (by assumption) (by assumption) ?_
  | with_reducible refine isi_lst_tuple (by assumption) (by assumption) ?_
  | with_reducible refine isi_lst_dict (by assumption) (by assumption) ?_
  | with_reducible refine isi_lst_seq (by assumption) (by assumption) (by assumption) ?_
  | with_reducible refine isi_tup_bool (by assumption) (by assumption) ?_
  | with_reducible refine isi_tup_int (by assumption) (by assumption) ?_
  | with_reducible refine isi_tup_str (by assumption) (by assumption) ?_
  | with_reducible refine isi_tup_list (by assumption) (by assumption) ?_
  | with_reducible refine isi_tup_tuple (by assumption) (by assumption) ?_
  | with_reducible refine isi_tup_dict (by assumption) (by assumption) ?_
  | with_reducible refine isi_tup_seq (by assumption) (by assumption) (by assumption) ?_
  | with_reducible refine isi_dK_bool (by assumption) (by assumption) ?_
  | with_reducible refine isi_dK_int (by assumption) (by assumption) ?_
  | with_reducible refine isi_dK_str (by assumption) (by assumption) ?_
  | with_reducible refine isi_dK_list (by assumption) (by assumption) ?_
  | with_reducible refine isi_dK_tuple (by assumption) (by assumption) ?_
  | with_reducible refine isi_dK_dict (by assumption) (by assumption) ?_
  | with_reducible refine isi_dK_seq (by assumption) (by assumption) (by assumption) ?_
  | with_reducible refine eq_bb ?_
  | with_reducible refine eq_ss ?_
  | with_reducible refine ev_isN ?_
  | with_reducible refine ev_tB ?_
  | with_reducible refine ev_and ?_
  | with_reducible refine ev_or ?_
  | with_reducible refine ev_not ?_
  | with_reducible refine c_tru ?_
  | with_reducible refine tru_bl ?_
  | with_reducible refine if_nt ?_
  | with_reducible refine if_nf ?_
  | with_reducible refine tup_new ?_
  | with_reducible refine lst_new ?_
  | with_reducible refine len_ms (by assumption) (by assumption) ?_
  | with_reducible refine len_ts (by assumption) (by assumption) ?_
  | ((with_reducible refine lit_len ?_ ?_); (focus (first | decide | (simp; done) | (simp; omega))))
  | (with_reducible refine new_same (by assumption) ?_; intro q1 H1 hq1 he1 sm1 hs1)
  | with_reducible refine if_dT rfl ?_
  | ((with_reducible refine if_dF ?_ ?_); focus (intro z; cases z; done))
  | with_reducible refine if_t ?_
  | with_reducible refine if_f ?_)
set_option maxHeartbeats 8000000 in
theorem p_same (K : PySem.W.Frag) (n : Nat) (vs : List V) (H : Hp) (Q : VK) (E : XK) (h : sp_same (n + 1) vs H Q E) : t_same K n { nx := fun _ H' => Q .non H', rt := Q } (start ["one", "other", "k"] vs) H := by
  obtain ⟨x, y, d, e, ev, hx, hy, hd, q⟩ := h
  subst ev
  show t_same K n _ [some x, some y, none] H
  have hs := Same.refl H
  unfold t_same
  cases hx with
  | @lst a vs xs h1 h2 hl =>
    cases hy with
    | @lst a' vs' xs' g1 g2 gl =>
      obtain ⟨m, rfl⟩ : ∃ m, n = m + 1 := by
        simp only [DT.dep] at hd
        exact ⟨n - 1, by omega⟩
      simp only [DT.dep] at hd
      have el := Iss.len h2
      have el' := Iss.len g2
      repeat walk_at "nw"
      refine if_nd (fun c => ?_) (fun c => ?_)
      · repeat walk_at "nw"
        refine loop_rng (fun i σ' H' => ∃ kk : Option V, σ' = [some (.ref a), some (.ref a'), kk] ∧ Same H H' ∧ ∀ j, j < i → xs[j]? = xs'[j]?) ⟨none, rfl, by assumption, fun j z => absurd z (Nat.not_lt_zero _)⟩ ?_ ?_
        · rintro i σ' H' hi ⟨kk, rfl, hs', hj⟩
          have hi' : i < vs.length := by omega
          obtain ⟨v, x, hv, hx, isx⟩ := Iss.at h2 hi'
          obtain ⟨v', x', hv', hx', isx'⟩ := Iss.at g2 (show i < vs'.length by omega)
          have dx := depL_at hx
          repeat walk_at "nw"
          refine ix_l (SqL.of (hs' _ _ h1)) (atI_nat hv) ?_
          repeat walk_at "nw"
          refine ix_l (SqL.of (hs' _ _ g1)) (atI_nat hv') ?_
          repeat walk_at "nw"
          refine ⟨v, v', x, x', rfl, isx.mono hs', isx'.mono hs', by omega, fun b H2 hs2 e => ?_⟩
          repeat walk_at "nw"
          cases b with
          | false =>
            repeat walk_at "nw"
            refine q false H2 (hs'.trans hs2) ⟨fun z => absurd z Bool.false_ne_true, fun z => ?_⟩
            injection z with z
            rw [z, hx'] at hx
            exact e.mpr (Option.some.inj hx).symm
          | true =>
            repeat walk_at "nw"
            refine ⟨_, rfl, hs'.trans hs2, fun j hlt => ?_⟩
            by_cases ej : j = i
            · rw [ej, hx, hx', e.mp rfl]
            · exact hj j (by omega)
        · rintro σ' H' ⟨kk, rfl, hs', hj⟩
          repeat walk_at "nw"
          refine q true H' hs' ⟨fun _ => ?_, fun _ => rfl⟩
          have z : xs = xs' := List.ext_getElem? fun j => by
            by_cases hlt : j < vs.length
            · exact hj j (by omega)
            · rw [List.getElem?_eq_none (by omega), List.getElem?_eq_none (by omega)]
          rw [z]
      · repeat walk_at "nw"
        refine q false _ (by assumption) ⟨fun z => absurd z Bool.false_ne_true, fun z => ?_⟩
        injection z with z
        rw [z] at el
        exact absurd (by rw [el, el']) c
    | _ =>
      repeat walk_at "nw"
      refine q _ _ ?_ ?_ <;> first | assumption | simp
  | @tup a vs xs h1 h2 hl =>
    cases hy with
    | @tup a' vs' xs' g1 g2 gl =>
      obtain ⟨m, rfl⟩ : ∃ m, n = m + 1 := by
        simp only [DT.dep] at hd
        exact ⟨n - 1, by omega⟩
      simp only [DT.dep] at hd
      have el := Iss.len h2
      have el' := Iss.len g2
      repeat walk_at "nw"
      refine if_nd (fun c => ?_) (fun c => ?_)
      · repeat walk_at "nw"
        refine loop_rng (fun i σ' H' => ∃ kk : Option V, σ' = [some (.ref a), some (.ref a'), kk] ∧ Same H H' ∧ ∀ j, j < i → xs[j]? = xs'[j]?) ⟨none, rfl, by assumption, fun j z => absurd z (Nat.not_lt_zero _)⟩ ?_ ?_
        · rintro i σ' H' hi ⟨kk, rfl, hs', hj⟩
          have hi' : i < vs.length := by omega
          obtain ⟨v, x, hv, hx, isx⟩ := Iss.at h2 hi'
          obtain ⟨v', x', hv', hx', isx'⟩ := Iss.at g2 (show i < vs'.length by omega)
          have dx := depL_at hx
          repeat walk_at "nw"
          refine ix_t (SqT.of (hs' _ _ h1)) (atI_nat hv) ?_
          repeat walk_at "nw"
          refine ix_t (SqT.of (hs' _ _ g1)) (atI_nat hv') ?_
          repeat walk_at "nw"
          refine ⟨v, v', x, x', rfl, isx.mono hs', isx'.mono hs', by omega, fun b H2 hs2 e => ?_⟩
          repeat walk_at "nw"
          cases b with
          | false =>
            repeat walk_at "nw"
            refine q false H2 (hs'.trans hs2) ⟨fun z => absurd z Bool.false_ne_true, fun z => ?_⟩
            injection z with z
            rw [z, hx'] at hx
            exact e.mpr (Option.some.inj hx).symm
          | true =>
            repeat walk_at "nw"
            refine ⟨_, rfl, hs'.trans hs2, fun j hlt => ?_⟩
            by_cases ej : j = i
            · rw [ej, hx, hx', e.mp rfl]
            · exact hj j (by omega)
        · rintro σ' H' ⟨kk, rfl, hs', hj⟩
          repeat walk_at "nw"
          refine q true H' hs' ⟨fun _ => ?_, fun _ => rfl⟩
          have z : xs = xs' := List.ext_getElem? fun j => by
            by_cases hlt : j < vs.length
            · exact hj j (by omega)
            · rw [List.getElem?_eq_none (by omega), List.getElem?_eq_none (by omega)]
          rw [z]
      · repeat walk_at "nw"
        refine q false _ (by assumption) ⟨fun z => absurd z Bool.false_ne_true, fun z => ?_⟩
        injection z with z
        rw [z] at el
        exact absurd (by rw [el, el']) c
    | _ =>
      repeat walk_at "nw"
      refine q _ _ ?_ ?_ <;> first | assumption | simp
  | _ =>
    cases hy with
    | _ =>
      repeat walk_at "nw"
      refine q _ _ ?_ ?_ <;> first | assumption | simp
end NW
namespace NW
open PySem PySem.Spec PyProof.Rows L2
open C8 (tCut pss_cut)
theorem c_take {H H0 : Hp} {Q : VK} {E : XK} {st : Addr} {many : Int} (hs : Sto H st) (kp : Keep st H0 H) (hm : many < 2 ^ 300) (h : ∀ (r : Int) (H' : Hp), Sto H' st → Keep st H0 H' → 0 ≤ r → (r < many ∨ r = 0) → Q (.int r) H') : sp_take [.ref st, .int many] H Q E :=
  ⟨st, many, rfl, hs, hm, fun r H' s k h0 h1 => h r H' s (kp.trans k) h0 h1⟩
theorem Sto.mono {H H' : Hp} {st : Addr} (s : Same H H') (h : Sto H st) : Sto H' st := by
  obtain ⟨cl, ns, a, b, c, d, e, h1, h2, h3⟩ := h
  exact ⟨cl, ns, a, b, c, d, e, s _ _ h1, s _ _ h2, h3⟩
theorem Sto.ne {H : Hp} {st q : Addr} (h : Sto H st) (hq : H q = none) : q ≠ st := by
  obtain ⟨cl, ns, a, b, c, d, e, h1, h2, h3⟩ := h
  exact Ne.symm (ne_of_none h1 hq)
theorem same_new {H : Hp} {q : Addr} {o : HO} (hq : H q = none) : Same H (upd H q o) := fun b o e => by
  rw [upd_ne (ne_of_none e hq)]
  exact e
theorem new_st {H H0 : Hp} {Q : VK} {o : HO} {st : Addr} (hS : Sto H st) (hs : Keep st H0 H) (h : ∀ q H1, H q = none → H1 q = some o → q ≠ st → Keep st H0 H1 → Sto H1 st → Same H H1 → Q (.ref q) H1) : NewR o H Q :=
  fun q hq => h q _ hq upd_same (hS.ne hq) (hs.new hq) (hS.mono (same_new hq)) (same_new hq)
theorem ev_chain {σ : L2.St} {H : Hp} {Q : VK} {r r' : R2} {ta tb tc : TE} (h : ta σ H fun x H1 => tb σ H1 fun y H2 => r x y H2 fun z H3 => ∃ k, z = .bl k ∧ if k = true then tc σ H3 fun z' H4 => r' y z' H4 Q else Q (.bl false) H3) : tChain r r' ta tb tc σ H Q := h
/-- a number from low to high; low if high is less -/
def sp_number : Sp := fun vs H Q _ => ∃ (st : Addr) (lo hi : Int), vs = [.ref st, .int lo, .int hi] ∧ Sto H st ∧ hi - lo + 1 < 2 ^ 300 ∧ ∀ (r : Int) (H' : Hp), Sto H' st → Keep st H H' → lo ≤ r → (r ≤ hi ∨ r = lo) → Q (.int r) H'
theorem l_number : ∀ vs H Q E, sp_number vs H Q E → vs.length = 3 := fun _ _ _ _ h => by
  obtain ⟨_, _, _, e, _⟩ := h
  rw [e]; rfl
local macro_rules | `(tactic| walk_at "nw") => `(tactic| first
  | with_reducible refine s_seq ?_
  | with_reducible refine s_asg ?_
  | with_reducible refine s_if ?_
  | with_reducible refine s_ret ?_
  | with_reducible refine s_drop ?_
  | with_reducible refine v_var0 ?_
  | with_reducible refine s_name0 ?_
  | with_reducible refine v_aug0 ?_
  | with_reducible refine v_var1 ?_
  | with_reducible refine s_name1 ?_
  | with_reducible refine v_aug1 ?_
  | with_reducible refine v_var2 ?_
  | with_reducible refine s_name2 ?_
  | with_reducible refine v_aug2 ?_
  | with_reducible refine v_var3 ?_
  | with_reducible refine s_name3 ?_
  | with_reducible refine v_aug3 ?_
  | with_reducible refine v_var4 ?_
  | with_reducible refine s_name4 ?_
  | with_reducible refine v_aug4 ?_
  | with_reducible refine v_var5 ?_
  | with_reducible refine s_name5 ?_
  | with_reducible refine v_aug5 ?_
  | with_reducible refine v_var6 ?_
  | with_reducible refine s_name6 ?_
  | with_reducible refine v_aug6 ?_
  | with_reducible refine v_var7 ?_
  | with_reducible refine s_name7 ?_
  | with_reducible refine v_aug7 ?_
  | with_reducible refine v_var8 ?_
  | with_reducible refine s_name8 ?_
  | with_reducible refine v_aug8 ?_
  | with_reducible refine v_var9 ?_
  | with_reducible refine s_name9 ?_
  | with_reducible refine v_aug9 ?_
  | with_reducible refine v_var10 ?_
  | with_reducible refine s_name10 ?_
  | with_reducible refine v_aug10 ?_
  | with_reducible refine v_var11 ?_
  | with_reducible refine s_name11 ?_
  | with_reducible refine v_aug11 ?_
  | with_reducible refine v_var12 ?_
  | with_reducible refine s_name12 ?_
  | with_reducible refine v_aug12 ?_
  | with_reducible refine v_var13 ?_
  | with_reducible refine s_name13 ?_
  | with_reducible refine v_aug13 ?_
  | with_reducible refine v_var14 ?_
  | with_reducible refine s_name14 ?_
  | with_reducible refine v_aug14 ?_
  | with_reducible refine v_var15 ?_
  | with_reducible refine s_name15 ?_
  | with_reducible refine v_aug15 ?_
  | with_reducible refine v_c ?_
  | with_reducible refine v_op ?_
  | with_reducible refine v_cons ?_
  | with_reducible refine v_nil ?_
  | with_reducible refine v_cb ?_
  | with_reducible refine v_call ?_
  | with_reducible refine c_test ?_
  | with_reducible refine c_bl ?_
  | with_reducible refine c_and ?_
  | with_reducible refine c_or ?_
  | with_reducible refine c_not ?_
  | with_reducible refine v_augS ?_
  | with_reducible refine v_sub ?_
  | with_reducible refine add_ii ?_
  | with_reducible refine sub_ii ?_
  | with_reducible refine iadd_ii ?_
  | with_reducible refine lt_ii ?_
  | with_reducible refine le_ii ?_
  | with_reducible refine gt_ii ?_
  | with_reducible refine ge_ii ?_
  | with_reducible refine eq_ii ?_
  | with_reducible refine ne_ii ?_
  | with_reducible refine int_i ?_
  | with_reducible refine abs_i ?_
  | with_reducible refine max_i ?_
  | with_reducible refine min_i ?_
  | with_reducible refine mul_r (by omega) (by omega) ?_
  | with_reducible refine mul_l (by omega) (by omega) ?_
  | with_reducible refine ix_m0 (by assumption) ?_
  | with_reducible refine get_m0 (by assumption) ?_
  | with_reducible refine ix_m1 (by assumption) ?_
  | with_reducible refine get_m1 (by assumption) ?_
  | with_reducible refine ix_m2 (by assumption) ?_
  | with_reducible refine get_m2 (by assumption) ?_
  | with_reducible refine ix_m3 (by assumption) ?_
  | with_reducible refine get_m3 (by assumption) ?_
  | with_reducible refine ix_m4 (by assumption) ?_
  | with_reducible refine get_m4 (by assumption) ?_
  | with_reducible refine ix_m5 (by assumption) ?_
  | with_reducible refine get_m5 (by assumption) ?_
  | (with_reducible refine st_set1 (by assumption) (by assumption) ?_; intro H1 hs1 kp1)
  | (with_reducible refine st_set2 (by assumption) (by assumption) ?_; intro H1 hs1 kp1)
  | (with_reducible refine st_set3 (by assumption) (by assumption) ?_; intro H1 hs1 kp1)
  | (with_reducible refine st_set4 (by assumption) (by assumption) ?_; intro H1 hs1 kp1)
  | (with_reducible refine st_set5 (by assumption) (by assumption) ?_; intro H1 hs1 kp1)
  | with_reducible refine len_m (by assumption) ?_
  | with_reducible refine s_for1 ?_
  | with_reducible refine s_forL ?_
  | with_reducible refine rng1 (by omega) (by omega) ?_
  | with_reducible refine s_next ?_
  | with_reducible refine s_break ?_
  | with_reducible refine s_cont ?_
  | with_reducible refine isi_non_bool ?_
  | with_reducible refine isi_non_int ?_
  | with_reducible refine isi_non_str ?_
  | with_reducible refine isi_non_list ?_
  | with_reducible refine isi_non_tuple ?_
  | with_reducible refine isi_non_dict ?_
  | with_reducible refine isi_non_seq (by assumption) ?_
  | with_reducible refine isi_bl_bool ?_
  | with_reducible refine isi_bl_int ?_
  | with_reducible refine isi_bl_str ?_
  | with_reducible refine isi_bl_list ?_
  | with_reducible refine isi_bl_tuple ?_
  | with_reducible refine isi_bl_dict ?_
  | with_reducible refine isi_bl_seq (by assumption) ?_
  | with_reducible refine isi_int_bool ?_
  | with_reducible refine isi_int_int ?_
  | with_reducible refine isi_int_str ?_
  | with_reducible refine isi_int_list ?_
  | with_reducible refine isi_int_tuple ?_
  | with_reducible refine isi_int_dict ?_
  | with_reducible refine isi_int_seq (by assumption) ?_
  | with_reducible refine isi_str_bool ?_
  | with_reducible refine isi_str_int ?_
  | with_reducible refine isi_str_str ?_
  | with_reducible refine isi_str_list ?_
  | with_reducible refine isi_str_tuple ?_
  | with_reducible refine isi_str_dict ?_
  | with_reducible refine isi_str_seq (by assumption) ?_
  | with_reducible refine isi_lst_bool (by assumption) (by assumption) ?_
  | with_reducible refine isi_lst_int (by assumption) (by assumption) ?_
  | with_reducible refine isi_lst_str (by assumption) (by assumption) ?_
  | with_reducible refine isi_lst_list (by assumption) (by assumption) ?_
  | with_reducible refine isi_lst_tuple (by assumption) (by assumption) ?_
  | with_reducible refine isi_lst_dict (by assumption) (by assumption) ?_
  | with_reducible refine isi_lst_seq (by assumption) (by assumption) (by assumption) ?_
  | with_reducible refine isi_tup_bool (by assumption) (by assumption) ?_
  | with_reducible refine isi_tup_int (by assumption) (by assumption) ?_
  | with_reducible refine isi_tup_str (by assumption) (by assumption) ?_
  | with_reducible refine isi_tup_list (by assumption) (by assumption) ?_
  | with_reducible refine isi_tup_tuple (by assumption) (by assumption) ?_
  | with_reducible refine isi_tup_dict (by assumption) (by assumption) ?_
  | with_reducible refine isi_tup_seq (by assumption) (by assumption) (by assumption) ?_
  | with_reducible refine isi_dK_bool (by assumption) (by assumption) ?_
  | with_reducible refine isi_dK_int (by assumption) (by assumption) ?_
  | with_reducible refine isi_dK_str (by assumption) (by assumption) ?_
  | with_reducible refine isi_dK_list (by assumption) (by assumption) ?_
  | with_reducible refine isi_dK_tuple (by assumption) (by assumption) ?_
  | with_reducible refine isi_dK_dict (by assumption) (by assumption) ?_
  | with_reducible refine isi_dK_seq (by assumption) (by assumption) (by assumption) ?_
  | with_reducible refine eq_bb ?_
  | with_reducible refine eq_ss ?_
  | with_reducible refine ev_isN ?_
  | with_reducible refine ev_tB ?_
  | with_reducible refine ev_and ?_
  | with_reducible refine ev_or ?_
  | with_reducible refine ev_not ?_
  | with_reducible refine c_tru ?_
  | with_reducible refine tru_bl ?_
  | with_reducible refine if_nt ?_
  | with_reducible refine if_nf ?_
  | with_reducible refine tup_new ?_
  | with_reducible refine lst_new ?_
  | with_reducible refine len_ms (by assumption) (by assumption) ?_
  | with_reducible refine len_ts (by assumption) (by assumption) ?_
  | ((with_reducible refine lit_len ?_ ?_); (focus (first | decide | (simp; done) | (simp; omega))))
  | (with_reducible refine new_same (by assumption) ?_; intro q1 H1 hq1 he1 sm1 hs1)
  | with_reducible refine if_dT rfl ?_
  | ((with_reducible refine if_dF ?_ ?_); focus (intro z; cases z; done))
  | with_reducible refine if_t ?_
  | with_reducible refine if_f ?_
  | ((with_reducible refine c_take (by assumption) (by assumption) ?_ ?_); (focus omega); intro r1 H1 hS1 kp1 h01 h11))
local macro_rules | `(tactic| walk_at "go") => `(tactic| repeat' (first | walk_at "nw" | ((with_reducible refine if_d ?_ ?_) <;> intro c1) | ((with_reducible refine if_nd ?_ ?_) <;> intro c1)))
theorem c_number {H H0 : Hp} {Q : VK} {E : XK} {st : Addr} {lo hi : Int} (hs : Sto H st) (kp : Keep st H0 H) (hm : hi - lo + 1 < 2 ^ 300) (h : ∀ (r : Int) (H' : Hp), Sto H' st → Keep st H0 H' → lo ≤ r → (r ≤ hi ∨ r = lo) → Q (.int r) H') : sp_number [.ref st, .int lo, .int hi] H Q E :=
  ⟨st, lo, hi, rfl, hs, hm, fun r H' s k h0 h1 => h r H' s (kp.trans k) h0 h1⟩
/-- an item of a row -/
def sp_pick : Sp := fun vs H Q _ => ∃ (st row : Addr), vs = [.ref st, .ref row] ∧ Sto H st ∧ ∃ (xs : List V), H row = some (.lst xs) ∧ row ≠ st ∧ 0 < xs.length ∧ xs.length ≤ 1000000 ∧ ∀ (v : V) (H' : Hp), Sto H' st → Keep st H H' → v ∈ xs → Q v H'
theorem l_pick : ∀ vs H Q E, sp_pick vs H Q E → vs.length = 2 := fun _ _ _ _ h => by
  obtain ⟨_, _, e, _⟩ := h
  rw [e]; rfl
theorem c_pick {H H0 : Hp} {Q : VK} {E : XK} {st row : Addr} {xs : List V} (hs : Sto H st) (kp : Keep st H0 H) (hr : H row = some (.lst xs)) (hne : row ≠ st) (hn : 0 < xs.length ∧ xs.length ≤ 1000000) (h : ∀ (v : V) (H' : Hp), Sto H' st → Keep st H0 H' → Keep st H H' → v ∈ xs → Q v H') : sp_pick [.ref st, .ref row] H Q E :=
  ⟨st, row, rfl, hs, xs, hr, hne, hn.1, hn.2, fun v H' s k hv => h v H' s (kp.trans k) k hv⟩
local macro_rules | `(tactic| walk_at "nw") => `(tactic| first
  | with_reducible refine s_seq ?_
  | with_reducible refine s_asg ?_
  | with_reducible refine s_if ?_
  | with_reducible refine s_ret ?_
  | with_reducible refine s_drop ?_
  | with_reducible refine v_var0 ?_
  | with_reducible refine s_name0 ?_
  | with_reducible refine v_aug0 ?_
  | with_reducible refine v_var1 ?_
  | with_reducible refine s_name1 ?_
  | with_reducible refine v_aug1 ?_
  | with_reducible refine v_var2 ?_
  | with_reducible refine s_name2 ?_
  | with_reducible refine v_aug2 ?_
  | with_reducible refine v_var3 ?_
  | with_reducible refine s_name3 ?_
  | with_reducible refine v_aug3 ?_
  | with_reducible refine v_var4 ?_
  | with_reducible refine s_name4 ?_
  | with_reducible refine v_aug4 ?_
  | with_reducible refine v_var5 ?_
  | with_reducible refine s_name5 ?_
  | with_reducible refine v_aug5 ?_
  | with_reducible refine v_var6 ?_
  | with_reducible refine s_name6 ?_
  | with_reducible refine v_aug6 ?_
  | with_reducible refine v_var7 ?_
  | with_reducible refine s_name7 ?_
  | with_reducible refine v_aug7 ?_
  | with_reducible refine v_var8 ?_
  | with_reducible refine s_name8 ?_
  | with_reducible refine v_aug8 ?_
  | with_reducible refine v_var9 ?_
  | with_reducible refine s_name9 ?_
  | with_reducible refine v_aug9 ?_
  | with_reducible refine v_var10 ?_
  | with_reducible refine s_name10 ?_
  | with_reducible refine v_aug10 ?_
  | with_reducible refine v_var11 ?_
  | with_reducible refine s_name11 ?_
  | with_reducible refine v_aug11 ?_
  | with_reducible refine v_var12 ?_
  | with_reducible refine s_name12 ?_
  | with_reducible refine v_aug12 ?_
  | with_reducible refine v_var13 ?_
  | with_reducible refine s_name13 ?_
  | with_reducible refine v_aug13 ?_
  | with_reducible refine v_var14 ?_
  | with_reducible refine s_name14 ?_
  | with_reducible refine v_aug14 ?_
  | with_reducible refine v_var15 ?_
  | with_reducible refine s_name15 ?_
  | with_reducible refine v_aug15 ?_
  | with_reducible refine v_c ?_
  | with_reducible refine v_op ?_
  | with_reducible refine v_cons ?_
  | with_reducible refine v_nil ?_
  | with_reducible refine v_cb ?_
  | with_reducible refine v_call ?_
  | with_reducible refine c_test ?_
  | with_reducible refine c_bl ?_
  | with_reducible refine c_and ?_
  | with_reducible refine c_or ?_
  | with_reducible refine c_not ?_
  | with_reducible refine v_augS ?_
  | with_reducible refine v_sub ?_
  | with_reducible refine add_ii ?_
  | with_reducible refine sub_ii ?_
  | with_reducible refine iadd_ii ?_
  | with_reducible refine lt_ii ?_
  | with_reducible refine le_ii ?_
  | with_reducible refine gt_ii ?_
  | with_reducible refine ge_ii ?_
  | with_reducible refine eq_ii ?_
  | with_reducible refine ne_ii ?_
  | with_reducible refine int_i ?_
  | with_reducible refine abs_i ?_
  | with_reducible refine max_i ?_
  | with_reducible refine min_i ?_
  | with_reducible refine mul_r (by omega) (by omega) ?_
  | with_reducible refine mul_l (by omega) (by omega) ?_
  | with_reducible refine ix_m0 (by assumption) ?_
  | with_reducible refine get_m0 (by assumption) ?_
  | with_reducible refine ix_m1 (by assumption) ?_
  | with_reducible refine get_m1 (by assumption) ?_
  | with_reducible refine ix_m2 (by assumption) ?_
  | with_reducible refine get_m2 (by assumption) ?_
  | with_reducible refine ix_m3 (by assumption) ?_
  | with_reducible refine get_m3 (by assumption) ?_
  | with_reducible refine ix_m4 (by assumption) ?_
  | with_reducible refine get_m4 (by assumption) ?_
  | with_reducible refine ix_m5 (by assumption) ?_
  | with_reducible refine get_m5 (by assumption) ?_
  | (with_reducible refine st_set1 (by assumption) (by assumption) ?_; intro H1 hs1 kp1)
  | (with_reducible refine st_set2 (by assumption) (by assumption) ?_; intro H1 hs1 kp1)
  | (with_reducible refine st_set3 (by assumption) (by assumption) ?_; intro H1 hs1 kp1)
  | (with_reducible refine st_set4 (by assumption) (by assumption) ?_; intro H1 hs1 kp1)
  | (with_reducible refine st_set5 (by assumption) (by assumption) ?_; intro H1 hs1 kp1)
  | with_reducible refine len_m (by assumption) ?_
  | with_reducible refine s_for1 ?_
  | with_reducible refine s_forL ?_
  | with_reducible refine rng1 (by omega) (by omega) ?_
  | with_reducible refine s_next ?_
  | with_reducible refine s_break ?_
  | with_reducible refine s_cont ?_
  | with_reducible refine isi_non_bool ?_
  | with_reducible refine isi_non_int ?_
  | with_reducible refine isi_non_str ?_
  | with_reducible refine isi_non_list ?_
  | with_reducible refine isi_non_tuple ?_
  | with_reducible refine isi_non_dict ?_
  | with_reducible refine isi_non_seq (by assumption) ?_
  | with_reducible refine isi_bl_bool ?_
  | with_reducible refine isi_bl_int ?_
  | with_reducible refine isi_bl_str ?_
  | with_reducible refine isi_bl_list ?_
  | with_reducible refine isi_bl_tuple ?_
  | with_reducible refine isi_bl_dict ?_
  | with_reducible refine isi_bl_seq (by assumption) ?_
  | with_reducible refine isi_int_bool ?_
  | with_reducible refine isi_int_int ?_
  | with_reducible refine isi_int_str ?_
  | with_reducible refine isi_int_list ?_
  | with_reducible refine isi_int_tuple ?_
  | with_reducible refine isi_int_dict ?_
  | with_reducible refine isi_int_seq (by assumption) ?_
  | with_reducible refine isi_str_bool ?_
  | with_reducible refine isi_str_int ?_
  | with_reducible refine isi_str_str ?_
  | with_reducible refine isi_str_list ?_
  | with_reducible refine isi_str_tuple ?_
  | with_reducible refine isi_str_dict ?_
  | with_reducible refine isi_str_seq (by assumption) ?_
  | with_reducible refine isi_lst_bool (by assumption) (by assumption) ?_
  | with_reducible refine isi_lst_int (by assumption) (by assumption) ?_
  | with_reducible refine isi_lst_str (by assumption) (by assumption) ?_
  | with_reducible refine isi_lst_list (by assumption) (by assumption) ?_
  | with_reducible refine isi_lst_tuple (by assumption) (by assumption) ?_
  | with_reducible refine isi_lst_dict (by assumption) (by assumption) ?_
  | with_reducible refine isi_lst_seq (by assumption) (by assumption) (by assumption) ?_
  | with_reducible refine isi_tup_bool (by assumption) (by assumption) ?_
  | with_reducible refine isi_tup_int (by assumption) (by assumption) ?_
  | with_reducible refine isi_tup_str (by assumption) (by assumption) ?_
  | with_reducible refine isi_tup_list (by assumption) (by assumption) ?_
  | with_reducible refine isi_tup_tuple (by assumption) (by assumption) ?_
  | with_reducible refine isi_tup_dict (by assumption) (by assumption) ?_
  | with_reducible refine isi_tup_seq (by assumption) (by assumption) (by assumption) ?_
  | with_reducible refine isi_dK_bool (by assumption) (by assumption) ?_
  | with_reducible refine isi_dK_int (by assumption) (by assumption) ?_
  | with_reducible refine isi_dK_str (by assumption) (by assumption) ?_
  | with_reducible refine isi_dK_list (by assumption) (by assumption) ?_
  | with_reducible refine isi_dK_tuple (by assumption) (by assumption) ?_
  | with_reducible refine isi_dK_dict (by assumption) (by assumption) ?_
  | with_reducible refine isi_dK_seq (by assumption) (by assumption) (by assumption) ?_
  | with_reducible refine eq_bb ?_
  | with_reducible refine eq_ss ?_
  | with_reducible refine ev_isN ?_
  | with_reducible refine ev_tB ?_
  | with_reducible refine ev_and ?_
  | with_reducible refine ev_or ?_
  | with_reducible refine ev_not ?_
  | with_reducible refine c_tru ?_
  | with_reducible refine tru_bl ?_
  | with_reducible refine if_nt ?_
  | with_reducible refine if_nf ?_
  | with_reducible refine tup_new ?_
  | with_reducible refine lst_new ?_
  | with_reducible refine len_ms (by assumption) (by assumption) ?_
  | with_reducible refine len_ts (by assumption) (by assumption) ?_
  | ((with_reducible refine lit_len ?_ ?_); (focus (first | decide | (simp; done) | (simp; omega))))
  | (with_reducible refine new_st (by assumption) (by assumption) ?_; intro q1 H1 hq1 he1 hn1 kp1 hS1 sm1)
  | (with_reducible refine new_same (by assumption) ?_; intro q1 H1 hq1 he1 sm1 hs1)
  | with_reducible refine if_dT rfl ?_
  | ((with_reducible refine if_dF ?_ ?_); focus (intro z; cases z; done))
  | with_reducible refine if_t ?_
  | with_reducible refine if_f ?_
  | ((with_reducible refine c_take (by assumption) (by assumption) ?_ ?_); (focus omega); intro r1 H1 hS1 kp1 h01 h11)
  | with_reducible refine ev_chain ?_
  | ((with_reducible refine c_number (by assumption) (by assumption) ?_ ?_); (focus omega); intro r1 H1 hS1 kp1 h01 h11)
  | ((with_reducible refine c_pick (by assumption) (by assumption) (by assumption) (by assumption) ?_ ?_); (focus (simp; done)); intro r1 H1 hS1 kp1 kk1 h01))
local macro_rules | `(tactic| walk_at "go") => `(tactic| repeat' (first | walk_at "nw" | ((with_reducible refine if_d ?_ ?_) <;> intro c1) | ((with_reducible refine if_nd ?_ ?_) <;> intro c1)))
end NW
namespace NW
open PySem PySem.Spec PyProof.Rows L2
open C8 (tCut pss_cut)
section
variable {X : Cx} {CX : CXT} {x : Str} {C fI : Addr} {k : Nat} {fd : FuncData} {ps : List Str} {sp : Sp} {e : Expr} {es : List Expr} {ta : TA} {p pos : Pos}
theorem pmkN (T : OexC X.K C) (iC : PySem.W.findIn X.K (.ref C) "__init__" = some (some (.ref fI))) (tI : PySem.W.typeIn X.K (.ref fI) = some (.type "function")) (F1 : FnOk X.prog X.w X.K X.mg X.base CX k fI fd ps sp)
    (hr : Room (k + 1) X.A) (hb : Binds X.K fd ps []) (hx : Passes CX X (fun _ _ _ => False)) (hg : Gl X x) (hm : X.mg x = some (.ref C)) (ha : PA X (e :: es) ta) (hdb : (x == ("__debug__" : Str)) = false := by decide)
    (he : starEach (e :: es) X.env = (false, eval e X.env) :: starEach es X.env := by rfl) (hpl : (backTo pos (starEach es X.env)).any (·.1) = false := by rfl) : L2N.PMk X (.Call (.Name x p) (e :: es) [] pos) (tMkO C sp [] ta) := by
  intro pn s0 ρ H0 W I0 h0
  obtain ⟨nm, q, N, bs, bm, sn, sub, ab, col, dd, k0, k1, k2, k3, k5, lC, rb⟩ := T.cls
  refine wpAny_Call_Name_kw (ld_glob I0 hg hm ?_ hdb)
  refine PySem.W.callWith_K (h₀ := X.base) I0.ok.mod.kin T.kC (thn (ha.run pos pn s0 ρ H0 _ I0 h0) fun us s1 hh => ?_) he hpl
  obtain ⟨vs, H1, I1, r1, hz, q1⟩ := hh
  refine ⟨I1.kIn, ?_⟩
  show wpAny _ _ (call (.ref C) us) _ _ _
  obtain ⟨hp, gs, dr, tk, os⟩ := s1
  let a : Addr := hp.objs.size + 1
  have le : hp.objs.size ≤ a := Nat.le_succ _
  have na : H1 a = none := I1.hok.fresh le
  have q2 := q1 a na
  rw [List.append_nil] at q2
  let h2 : Heap := (hp.push (PySem.W.kdv_tup us)).push (PySem.HandSPX.excO C hp.objs.size)
  have up : ∀ b o, hp.get? b = some o → h2.get? b = some o := fun b o z =>
    Heap.get?_push_of_some _ (Heap.get?_push_of_some _ z)
  have ga : h2.get? a = some (PySem.HandSPX.excO C hp.objs.size) := by
    show ((hp.push (PySem.W.kdv_tup us)).push (PySem.HandSPX.excO C hp.objs.size)).get? (hp.objs.size + 1) = _
    heap_get
  have I2 : Inv X pn ρ (upd H1 a (exo a C none)) ⟨h2, gs, dr, tk, os⟩ := I1.laid (t' := tk) up le (exo_ok ga)
  have r2 : Vals (V.ref a :: vs) (Value.ref a :: us) := .cons rfl r1
  have l2 : (Value.ref a :: us).length = ps.length := by
    have z := r2.length
    rw [F1.len _ _ _ _ q2] at z
    exact z.symm
  have lu : us.length ≤ sizeLine := by
    rw [← Paired.length r1, sizeLine_eq]; omega
  have b2 := hb ⟨h2, gs, dr, tk, os⟩ (Value.ref a :: us) I2.kIn (by rw [List.append_nil]; exact l2)
  rw [List.append_nil] at b2
  have run := F1.run _ X.stack _ _ ⟨Value.ref a :: us, []⟩ (Value.ref a :: us) _ _ (fun _ _ _ => False) (hr.make C us []) (I2.env0.make C us []) b2 r2 q2
  refine wpAny_call (PySem.HandSPX.call_own F.excBase_ValueError (fun Y => PySem.HandSPX.refsVE_contains Y bm rb) (I1.kIn _ _ lC) (PySem.W.looks_findIn I1.kIn iC)
    (fun self => PySem.W.bind_fn I1.kIn self tI) lu (codeAny_mono run fun r s3 q3 => ?_))
  cases r with
  | error er => exact hx pn ρ _ _ er s3 I2 q3
  | ok fl =>
    cases fl with
    | ret u =>
      obtain ⟨v, H2, o3, b3, u3, k3', rv, ev, d, fs, ea, ed, nd, q4⟩ := q3
      subst ev
      obtain ⟨h3, g3, d3, t3, os'⟩ := s3
      obtain ⟨t0, G, J, kG, ge, hoe, na2⟩ := mk_end0 (d2 := d3) (t2 := t3) I1 le up u3 k3' o3 b3 ea ed nd
      refine ⟨rv, a, _, _, ⟨G, g3, d3, t3, os'⟩, _, .ref C, some d, rfl, J, kG, ge, hoe, ⟨rfl, rfl, fun vs hv => ?_⟩, rfl, rfl, na2, rfl, b3, raises_own T.exC T.tyC, q4⟩
      cases hv
      rfl
    | next => exact False.elim q3
    | brk => exact False.elim q3
    | cont => exact False.elim q3
end
structure FnHp (P : Program) (w : World) (K : PySem.W.Frag) (mg : Str → Option Value) (base : Heap) (p : Addr × Obj) (k : Nat) (f : Addr) (fd : FuncData) (ps : List Str) (sp : Sp) : Prop where
  len : ∀ vs H Q E, sp vs H Q E → vs.length = ps.length
  run : ∀ (A : Around) (outer : List Env) (s : Shared) (H : Hp) (args : Args) (us : List Value) (vs : List V) (Q : VK), L2H.RoomH k A → L2H.Hot1 A p → L2H.PinOk outer H s p → Env0 P w K mg base A outer s H →
    BindsTo s fd args (ps.zip us) → Vals vs us → sp vs H Q E0 → codeAny (model P w) A (.call (.ref f) args) (CR (L2N.CX P w) outer P w H s Q E0) s
/-- the context of such a body -/
abbrev cxP (P : Program) (w : World) (K : PySem.W.Frag) (mg : Str → Option Value) (base : Heap) (N : List Str) (qual : Str) (scope : Scope) (f : Addr) (cd : Value) (A : Around) (outer : List Env) (s : Shared) (H : Hp) (p : Addr × Obj) : Cx :=
  L2H.cxH (L2N.CX P w) P w K mg base N qual scope f cd A outer s H E0 p
structure HotP (X : Cx) (p : Addr × Obj) : Prop where
  hot : L2H.Hot1 X.A p
  mem : p ∈ X.pn
theorem HotP.c {X : Cx} {p : Addr × Obj} (h : HotP X p) : L2H.HotC X := ⟨p, h.hot, h.mem⟩
structure HasHAt (P : Program) (w : World) (K : PySem.W.Frag) (mg : Str → Option Value) (base : Heap) (p : Addr × Obj) (x : Str) (k : Nat) (ps : List Str) (sp : Sp) (f : Addr) (fd : FuncData) : Prop where
  g : mg x = some (.ref f)
  kp : PySem.W.keepIn K (.ref f) = true
  b : Binds K fd ps []
  ok : FnHp P w K mg base p k f fd ps sp
def HasH (P : Program) (w : World) (K : PySem.W.Frag) (mg : Str → Option Value) (base : Heap) (p : Addr × Obj) (x : Str) (k : Nat) (ps : List Str) (sp : Sp) : Prop := ∃ f fd, HasHAt P w K mg base p x k ps sp f fd
section
variable {P : Program} {w : World} {K : PySem.W.Frag} {mg : Str → Option Value} {base : Heap} {x : Str} {params : Arguments} {body : List Stmt} {scope : Scope} {f : Addr} {N ps : List Str} {k : Nat} {sp : Sp} {p : Addr × Obj}
theorem hasH_of {t : TS} (g : mg x = some (.ref f)) (F : ∃ fd, FunD K x x params body scope [] [] f fd) (S : FnScope N ps scope) (len : ∀ vs H Q E, sp vs H Q E → vs.length = ps.length)
    (bn : ∀ (kV doc pm : Value) (an : Option Addr) (cdv ct : Value) (us : List Value), us.length = ps.length → bindArgs (PySem.W.fnOf x x params body scope .none kV doc pm an cdv ct) ⟨us, []⟩ = pure (ps.zip us))
    (d : ∀ (cdv : Value) (A : Around) (outer : List Env) (s : Shared) (H : Hp), L2H.RoomH k (A.deeper (envOfC x scope s.heap.objs.size f cdv)) → HotP (cxP P w K mg base N x scope f cdv A outer s H p).nox p → PSs (cxP P w K mg base N x scope f cdv A outer s H p).nox body t)
    (pure_ : ∀ vs H Q E, sp vs H Q E → t { nx := fun _ H' => Q .non H', rt := Q } (start N vs) H) : HasH P w K mg base p x (k + 1) ps sp := by
  obtain ⟨fd, F⟩ := F
  have b := F.bindsN bn
  have kp := F.kp
  obtain ⟨oc, od, dV, kV, doc, pm, an, cdv, ct, osl, efd, lk, hcd, dflt, _⟩ := F.ex
  subst efd
  refine ⟨f, _, g, kp, b, len, fun A outer s H args us vs Q room hot pin e0 bt rv hsp => ?_⟩
  have n1 := len _ _ _ _ hsp
  have KX : K.In s.heap := e0.mod.kin.keeps fun b o z => (e0.bs b o z).1
  have nol : s.heap.NoLimit := e0.mod.nolimit.keeps fun b o z => (e0.bs b o z).1
  have kinds : ∀ y ∈ ps.zip us, scope.names.lookup y.1 = some .local ∨
      (scope.names.lookup y.1 = some .cell ∧ ((cellsFrom (s.heap.objs.size + 1) scope.names []).lookup y.1).isSome = true) := fun ⟨n, v⟩ hy => by
    cases S.par n (List.of_mem_zip hy).1 with
    | inl z => exact .inl z
    | inr z => exact .inr ⟨z, PySem.W.cellsFrom_some _ _ _ (.inl z)⟩
  have crec := PySem.W.codeRec_of KX hcd
  refine codeAny_call_function room.depth (KX _ _ lk) rfl S.co S.gen rfl crec (bt _ _ _ _ ?_)
  refine wpAny_newFunctionEnv_cells S.kind kinds fun env henv s1 ic => ?_
  subst henv
  refine ⟨nol.keeps ic.toInCall.keep, codeAny_func ?_⟩
  have I : Inv (cxP P w K mg base N x scope f cdv A outer s H p) [] (start N vs) H s1 := L2H.inv_startH S pin e0 n1 rv ic
  have q := pure_ vs H Q E0 hsp
  have body_ := (d cdv A outer s H (room.deeper _) ⟨hot, List.mem_singleton.mpr rfl⟩).nox
  refine wpAny_mono (body_.run [] s1 (start N vs) H _ I q) (fun fl s' z => ?_) fun _ _ z => z
  cases fl with
  | ret u =>
    obtain ⟨v, σ', H', J, r, q'⟩ := z
    exact ⟨v, H', J.os, J.bare, J.base, J.hok, r, q'⟩
  | next =>
    obtain ⟨σ', H', J, q'⟩ := z
    exact ⟨V.non, H', J.os, J.bare, J.base, J.hok, rfl, q'⟩
  | brk =>
    obtain ⟨_, _, _, z⟩ := z
    exact z.elim
  | cont =>
    obtain ⟨_, _, _, z⟩ := z
    exact z.elim
end
section
variable {X : Cx} {k j : Nat} {ps : List Str} {sp : Sp} {x : Str} {q pos : Pos} {e : Expr} {es : List Expr} {t : TA} {p : Addr × Obj}
theorem pe_hc (h : HasH X.prog X.w X.K X.mg X.base p x k ps sp) (hr : L2H.RoomH j X.A) (hp : HotP X p) (ha : PA X (e :: es) t) (hk : k ≤ j := by decide) (hg : Gl X x := by rfl) (hdb : (x == ("__debug__" : Str)) = false := by decide)
    (he : starEach (e :: es) X.env = (false, eval e X.env) :: starEach es X.env := by rfl) (hpl : (backTo pos (starEach es X.env)).any (·.1) = false := by rfl) : PE X (.Call (.Name x q) (e :: es) [] pos) (tCall sp [] E0 t) := by
  obtain ⟨f, fd, F⟩ := h
  refine ⟨fun pn s0 ρ H0 W I0 h0 => ?_⟩
  refine wpAny_Call_Name_kw (ld_glob I0 hg F.g ?_ hdb)
  refine PySem.W.callWith_K (h₀ := X.base) I0.ok.mod.kin F.kp (thn (ha.run pos pn s0 ρ H0 _ I0 h0) fun us s1 hh => ?_) he hpl
  obtain ⟨vs, H1, I1, r1, q1⟩ := hh
  refine ⟨I1.kIn, ?_⟩
  have q2 : sp vs H1 W E0 := by
    have z : sp (vs ++ []) H1 W E0 := q1
    rwa [List.append_nil] at z
  have n1 : us.length = ps.length := by
    rw [← r1.length]
    exact F.ok.len _ _ _ _ q2
  have b := F.b s1 us I1.kIn (by rw [List.append_nil]; exact n1)
  rw [List.append_nil] at b
  obtain ⟨p1, p2, p3, p4, p5⟩ := I1.pin p (List.mem_append_left _ hp.mem)
  have pin : L2H.PinOk X.stack H1 s1 p := ⟨p1, p2, fun z => by
    cases List.mem_cons.mp (I1.stkSub p.1 z) with
    | inl z => exact p3 z
    | inr z => exact p4 z, p5⟩
  refine wpAny_call (codeAny_mono (F.ok.run X.A X.stack s1 H1 ⟨us, []⟩ us vs W (hr.mono hk) hp.hot pin I1.env0 b r1 q2) fun r s3 q3 => ?_)
  cases r with
  | error er => exact passN pn ρ H1 s1 er s3 I1 q3
  | ok fl =>
    cases fl with
    | ret u => exact I1.after q3
    | next => exact q3.elim
    | brk => exact q3.elim
    | cont => exact q3.elim
end
end NW
namespace NW
open PySem PySem.Spec PyProof.Rows L2
open C8 (tCut pss_cut)
section
variable {prog : Program} {w : World} {A : Around} {E : Value → Shared → Prop} {s : Shared}
theorem end_hot {I l x1 : Addr} {i : Nat} {items : Array Value} {Q : Option Value → Shared → Prop} (hot : HotX.HotAt A x1 s.heap) (hI : s.heap.IsListIter I l i) (hl : s.heap.IsList l items) (he : items[i]? = none) (hne : x1 ≠ I)
    (hQ : ∀ h', (∀ b o, b ≠ I → s.heap.get? b = some o → h'.get? b = some o) → Q none { s with heap := h' }) : wpAny (model prog w) A (pyNext (.ref I)) Q E s := by
  obtain ⟨hh, o1, v1, a1, a2, a3⟩ := hot
  obtain ⟨oi, gi, ci, di⟩ := id hI
  obtain ⟨ol, gl, cl, nl, dl⟩ := hl
  unfold pyNext
  refine wpAny_bind (wpAny_attempt (wpAny_callSpecial?_slot (name := Str.ofString "__next__") hI.typeIs slot_listiter_next (wpAny_call_entry slot_listiter_next hI.typeIs entry_listiter_next ?_ (args_listiter_next _))))
  show wpAny _ _ (field (.ref I) 0 >>= _) _ _ s
  refine wpAny_bind (wpAny_field gi di (x := .ref l) rfl ?_)
  show wpAny _ _ (if (Value.ref l == Value.none) = true then _ else _) _ _ s
  rw [if_neg (by exact Bool.false_ne_true)]
  show wpAny _ _ (field (.ref I) 1 >>= _) _ _ s
  refine wpAny_bind (wpAny_field gi di (x := .int i 0) rfl ?_)
  show wpAny _ _ (seqItems? (.ref l) >>= _) _ _ s
  refine wpAny_bind (wpAny_seqItems gl dl ?_)
  simp only [Int.toNat_natCast, he]
  refine wpAny_bind (wpAny_rule (wpAny_bind (wpAny_setField gi di (by simp) ?_)))
  show wpAny _ _ (newExc (.type "StopIteration") [] >>= _) _ _ _
  refine wpAny_bind ?_
  simp only [newExc, newTuple]
  refine wpAny_bind (wpAny_newObj_type ?_ (by size_fits))
  refine wpAny_bind (m := firstArgMember _ _) (wpAny_of_eq (a := Value.none) (by first | rfl | (simp only [firstArgMember]; rfl)) ?_)
  refine wpAny_newObj_type ?_ (by size_fits)
  have keep : ∀ {b : Addr} {o : Obj}, b ≠ I → s.heap.get? b = some o → (s.heap.update I (Obj.mapFields (·.setIfInBounds 0 .none))).get? b = some o := fun {b o} n z => by
    rw [Heap.get?_update_other _ _ (Ne.symm n)]; exact z
  have lt1 : x1 < (s.heap.update I (Obj.mapFields (·.setIfInBounds 0 .none))).objs.size := Heap.lt_size (keep hne a1)
  refine HotX.raiseNew_hot ⟨hh, o1, v1, Heap.get?_push_of_some _ (Heap.get?_push_of_some _ (keep hne a1)), a2, a3⟩ (Nat.ne_of_lt (Heap.lt_size (Heap.get?_push_of_some _ (keep hne a1)))) (Heap.get?_push_size _ rfl) rfl
    (by first | (simp; done) | (simp; omega)) ?_
  refine wpAny_bind (wpAny_isInstance (T := "StopIteration") (b := true) ⟨_, Heap.get?_update_self _ (Heap.get?_push_size _ rfl) rfl, rfl⟩ isSubtype_stop ?_)
  refine wpAny_pure (hQ _ fun b o n z => ?_)
  have z2 := Heap.get?_push_of_some ({ cls := .type "tuple", data := .seq ([] : List Value).toArray } : Obj) (keep n z)
  rw [Heap.get?_update_other _ _ (Nat.ne_of_gt (Heap.lt_size (Heap.get?_push_of_some _ (keep n z))))]
  exact Heap.get?_push_of_some _ (Heap.get?_push_of_some _ (keep n z))
end
section
variable {prog : Program} {w : World} {A : Around} {target : Expr}
/-- a list's iterator while the error at p is handled -/
theorem goesHot {p : Addr × Obj} (hot : L2H.Hot1 A p) (I l : Addr) (hne : l ≠ I) (hp : p.1 ≠ I) (items : Array Value) :
    Goes prog w A target I [I, l, p.1] [I] items.size (fun i v _ => items[i]? = some v) (fun i h => h.IsListIter I l i ∧ h.IsList l items ∧ h.get? p.1 = some p.2) where
  sub := fun b hb => by
    rw [List.mem_singleton.mp hb]
    exact List.mem_cons_self
  frame := fun i h h' st k => ⟨st.1.at fun o z => k _ (by simp) o z, st.2.1.at fun o z => k _ (by simp) o z, k _ (by simp) _ st.2.2⟩
  goes := fun i s Q E hi st hQ => by
    have hx : items[i]? = some items[i] := Array.getElem?_eq_getElem hi
    refine wpAny_pyNext_list_item st.1 st.2.1 hx fun h' st' sb => ⟨_, rfl, ?_⟩
    obtain ⟨o, ho, hc, hd⟩ := id st'
    refine letGo_of_cls ho hc hd (by decide) ?_
    refine hQ _ h' s.toks hx ⟨st', st.2.1.at fun o z => (sb.2 _ hne).trans z, (sb.2 _ hp).trans st.2.2⟩ (fun b o hb z => (sb.2 b (fun e => hb (by rw [e]; exact List.mem_singleton.mpr rfl))).trans z) (Nat.le_refl _)
  stops := fun s Q E st hQ => by
    obtain ⟨hh, vs, e1, e2⟩ := hot
    refine end_hot ⟨hh, p.2, vs, st.2.2, e1, e2⟩ st.1 st.2.1 (Array.getElem?_eq_none (Nat.le_refl _)) hp fun h' k => ⟨rfl, ?_⟩
    exact hQ h' s.toks (fun b o hb z => k b o (fun e => hb (by rw [e]; exact List.mem_singleton.mpr rfl)) z) (Nat.le_refl _)
  self := fun i s Q E st h => by
    obtain ⟨o, ho, hc, hd⟩ := id st.1
    exact wpAny_pyIter_listiter st.1 h
end
end NW
namespace NW
open PySem PySem.Spec PyProof.Rows L2
open C8 (tCut pss_cut)
/-- rows: pairs of a text and a bool -/
inductive RowsAt (H : Hp) : List V → List (Str × Bool) → Prop where
  | nil : RowsAt H [] []
  | cons {t : Addr} {n : Str} {b : Bool} {vs : List V} {rs : List (Str × Bool)} : H t = some (.tup [.str n, .bl b]) → RowsAt H vs rs → RowsAt H (.ref t :: vs) ((n, b) :: rs)
theorem RowsAt.mono {H H' : Hp} (s : Same H H') : ∀ {vs : List V} {rs : List (Str × Bool)}, RowsAt H vs rs → RowsAt H' vs rs
  | _, _, .nil => .nil
  | _, _, .cons h t => .cons (s _ _ h) (RowsAt.mono s t)
theorem RowsAt.append {H : Hp} : ∀ {vs vs' : List V} {rs rs' : List (Str × Bool)}, RowsAt H vs rs → RowsAt H vs' rs' → RowsAt H (vs ++ vs') (rs ++ rs')
  | _, _, _, _, .nil, b => b
  | _, _, _, _, .cons h t, b => .cons h (RowsAt.append t b)
theorem RowsAt.at {H : Hp} : ∀ {vs : List V} {rs : List (Str × Bool)} {i : Nat} {v : V}, RowsAt H vs rs → vs[i]? = some v → ∃ t n b, v = .ref t ∧ rs[i]? = some (n, b) ∧ H t = some (.tup [.str n, .bl b])
  | _, _, _, _, .nil, h => by simp at h
  | _, _, 0, _, .cons h _, e => by
    have z := Option.some.inj e
    exact ⟨_, _, _, z.symm, rfl, h⟩
  | _, _, i + 1, _, .cons _ t, e => RowsAt.at (i := i) t e
theorem RowsAt.len {H : Hp} : ∀ {vs : List V} {rs : List (Str × Bool)}, RowsAt H vs rs → vs.length = rs.length
  | _, _, .nil => rfl
  | _, _, .cons _ t => congrArg (· + 1) (RowsAt.len t)
/-- the texts whose bool is True -/
def sel (rs : List (Str × Bool)) : List V := (rs.filter (·.2)).map fun r => .str r.1
def tSel (tl : TE) : TE := fun σ H Q => tl σ H fun x H1 => ∃ (l : Addr) (vs : List V) (rs : List (Str × Bool)), x = .ref l ∧ H1 l = some (.lst vs) ∧ RowsAt H1 vs rs ∧ ∀ D, H1 D = none → Q (.ref D) (upd H1 D (.lst (sel rs)))
theorem sel_snoc {rs : List (Str × Bool)} {i : Nat} {n : Str} {b : Bool} (h : rs[i]? = some (n, b)) : sel (rs.take (i + 1)) = if b = true then sel (rs.take i) ++ [.str n] else sel (rs.take i) := by
  have e : rs.take (i + 1) = rs.take i ++ [(n, b)] := by
    rw [List.take_add_one, h]; rfl
  unfold sel
  rw [e, List.filter_append, List.map_append]
  cases b <;> simp
theorem neA {b N C : Nat} (hb : b < N + 1) (hC : N + 1 ≤ C) : b ≠ C := by omega
theorem offA {b N C D : Nat} (hb : b < N ∨ b = C) (hC : N + 1 ≤ C) (hD : N + 1 ≤ D) (h : D ≠ C) : ¬ (b = D ∨ b = N) := by omega
section
variable {X : Cx} {p : Addr × Obj} {iter : Expr} {tl : TE} {scope : Scope} {pos p1 p2 p3 p4 p5 p6 p7 : Pos} {k1 k2 : Nat}
theorem pe_sel (hp : HotP X p) (hi : PE X iter tl) (hclos : ∀ env : Env, closureFor scope env = pure []) (hcell : ∀ y ∈ scope.names, y.2 ≠ .cell) (hkind : scope.kind = .function) (hnames : ∀ y ∈ scope.names, y.2 = .local → scope.names.lookup y.1 = some .local)
    (hx : scope.names.lookup ("row" : Str) = some .local) (hs : ∀ x, foldedSetIterable iter X.env x = pure x := by intro _; rfl) :
    PE X (.ListComp (.Subscript (.Name "row" p1) (.Constant (.int 0) k1 p2) p3) [⟨.Name "row" p4, iter, [.Subscript (.Name "row" p5) (.Constant (.int 1) k2 p6) p7], 0⟩] scope pos) (tSel tl) := by
  refine ⟨fun pn s0 σ H0 Q I0 h0 => ?_⟩
  refine ListComp_goes (cl := []) (hclos X.env) hcell hkind hnames (thn (hi.run pn s0 σ H0 _ I0 h0) fun xv s hh => ?_) hs
  obtain ⟨x, H, I, rx, l, vs, rs, ex, hl, hr, q⟩ := hh
  subst ex
  obtain rfl : xv = Value.ref l := rx
  obtain ⟨its, rv, pl, hz⟩ := I.list (SqL.of hl)
  have lenI := rv.length
  refine wpAny_pyIter_list pl.isList ?_
  have hll : l < s.heap.objs.size := by
    obtain ⟨o, n, ho, _⟩ := pl
    exact Heap.lt_size ho
  obtain ⟨gp, fp, _, _, _⟩ := I.pin p (List.mem_append_left _ hp.mem)
  have hpp : p.1 < s.heap.objs.size := Heap.lt_size gp
  have hsz : its.toArray.size = its.length := List.size_toArray ..
  refine ⟨s.heap.objs.size, _, _, its.toArray.size, _, _, rfl, goesHot hp.hot s.heap.objs.size l (Nat.ne_of_lt hll) (Nat.ne_of_lt hpp) its.toArray, by omega, ⟨⟨_, Heap.get?_push_size _ rfl, rfl, rfl⟩, pl.isList.push _, Heap.get?_push_of_some _ gp⟩, ?_, fun D C s₃ hB => ?_⟩
  · intro b hb
    show b < (s.heap.push _).objs.size
    rw [Heap.size_push]
    rcases List.mem_cons.mp hb with e | hb
    · rw [e]; exact Nat.lt_succ_self _
    rcases List.mem_cons.mp hb with e | hb
    · rw [e]; exact Nat.lt_succ_of_lt hll
    rw [List.mem_singleton.mp hb]; exact Nat.lt_succ_of_lt hpp
  · obtain ⟨⟨h₃, tk₃, rfl⟩, old, nD, nC, hDC, hnm⟩ := hB
    have nC' : (s.heap.objs.size + 1 : Nat) ≤ C := by
      have z : (s.heap.push { cls := .type "list_iterator", data := .fields #[.ref l, .int 0 0] }).objs.size ≤ C := nC
      rwa [Heap.size_push] at z
    have nD' : (s.heap.objs.size + 1 : Nat) ≤ D := by
      have z : (s.heap.push { cls := .type "list_iterator", data := .fields #[.ref l, .int 0 0] }).objs.size ≤ D := nD
      rwa [Heap.size_push] at z
    have kx : (compEnvC scope [] C X.env).kindOf "row" = some .local := lookup_relabel_local hx
    have hpc : ((compEnvC scope [] C X.env).scope.kind == .class || ((compEnvC scope [] C X.env).scope.kind == .module && (compEnvC scope [] C X.env).locals != (compEnvC scope [] C X.env).globals)) = false := by
      show (scope.kind == .class || (scope.kind == .module && _)) = false
      rw [hkind]; rfl
    have offC : ∀ b : Addr, b < s.heap.objs.size + 1 → b ≠ C := fun b hb => neA hb nC'
    refine ⟨fun i ys s₁ => ∃ h' tk m, s₁ = { s with heap := h', toks := tk } ∧ h'.Ns C m ∧ Vals (sel (rs.take i)) ys ∧ ∀ b o, s.heap.get? b = some o → h'.get? b = some o,
      ⟨h₃, tk₃, _, rfl, hnm, by simpa [sel] using Paired.nil, fun b o e => old b o (Heap.get?_push_of_some _ e)⟩, ?_, ?_, ?_⟩
    · rintro i ys s₁ h' tk ⟨h₄, tk₄, m, rfl, n₄, e₄, k₄⟩ hk' _
      have off : ∀ b : Addr, (b < s.heap.objs.size ∨ b = C) → b ∉ D :: [s.heap.objs.size] := fun b hb hm => offA hb nC' nD' hDC (by simpa using hm)
      exact ⟨h', tk, m, rfl, n₄.at' fun o e => hk' _ o (off _ (.inr rfl)) e, e₄, fun b o e => hk' b o (off _ (.inl (Heap.lt_size e))) (k₄ b o e)⟩
    · rintro i v ys s₁ hi' hv st ⟨h₄, tk₄, m, rfl, n₄, e₄, k₄⟩ hpl
      have hv' : its[i]? = some v := by simpa using hv
      have hvx : vs[i]? = some vs[i] := List.getElem?_eq_getElem (by omega)
      obtain ⟨u, hu, ru⟩ := rv.get hvx
      rw [hv'] at hu
      obtain rfl : v = u := Option.some.inj hu
      obtain ⟨t, n, b, et, hrs, ht⟩ := hr.at hvx
      rw [et] at ru
      obtain rfl : v = Value.ref t := ru
      obtain ⟨tz, tits, tv, tt⟩ : [V.str n, V.bl b].length ≤ sizeLine ∧ ∃ its : List Value, Vals [V.str n, V.bl b] its ∧ IsTup s.heap t its.toArray := I.hok t _ ht
      obtain ⟨u0, u1, rfl, ⟨tk0, rfl⟩, rfl⟩ : ∃ u0 u1, tits = [u0, u1] ∧ (∃ k, u0 = Value.str n k) ∧ u1 = Value.bool b := by
        cases tv with
        | cons r1 r2 =>
          cases r2 with
          | cons r2 r3 =>
            cases r3
            exact ⟨_, _, rfl, r1, r2⟩
      have htl : t < s.heap.objs.size := tt.lt
      refine wpAny_assign_Name (wpAny_storeName_local kx n₄ (fun h₅ n₅ s₅ => ?_) hpc)
      have keep5 : ∀ b o, s.heap.get? b = some o → h₅.get? b = some o := fun b o e => s₅.extBut b o (offC b (Nat.lt_succ_of_lt (Heap.lt_size e))) (k₄ b o e)
      have t5 : IsTup h₅ t #[.str n tk0, .bool b] := by
        obtain ⟨o, ho, c1, c2⟩ := tt
        exact ⟨o, keep5 _ _ ho, c1, c2⟩
      have st5 : (h₅.IsListIter s.heap.objs.size l (i + 1) ∧ h₅.IsList l its.toArray ∧ h₅.get? p.1 = some p.2) :=
        ⟨st.1.at fun o e => s₅.extBut _ o (offC _ (Nat.lt_succ_self _)) e, st.2.1.at fun o e => s₅.extBut _ o (offC _ (Nat.lt_succ_of_lt hll)) e, s₅.extBut _ _ (offC _ (Nat.lt_succ_of_lt hpp)) st.2.2⟩
      have pl5 : h₅.PlainList D ys.toArray := hpl.extBut s₅.extBut hDC
      have item : ∀ {E : Value → Shared → Prop} {Q' : Value → Shared → Prop} {q1 q2 q3 : Pos} {kk : Nat} (j : Nat) (r : Value) (tk : Nat), j < 2 → [Value.str n tk0, Value.bool b][j]? = some r → (∀ tk', Q' r { s with heap := h₅, toks := tk' }) →
          wpAny (model X.prog X.w) X.A (eval (.Subscript (.Name "row" q1) (.Constant (.int (j : Int)) kk q2) q3) (compEnvC scope [] C X.env)) Q' E { s with heap := h₅, toks := tk } := by
        intro E Q' q1 q2 q3 kk j r tk hj hr' hq
        refine Subscript_ ?_
        rw [eval_Name _ _ _ (by decide)]
        refine wpAny_bind (wpAny_standAt (wpAny_loadName_local hkind kx n₅ (v := Value.ref t) (if_pos rfl) ?_))
        refine wpAny_Constant_int ?_
        refine item_tuple (j := j) t5 (by omega) (by omega) ?_ (by simpa using hr') (hq _)
        rw [seqIndex_of (by omega) (by simpa using (by omega : (j : Int) < 2))]
        rfl
      refine wpAny_tests_one (isTrue_plain (item 1 _ _ (by decide) rfl fun tk1 => wpAny_truthy_bool ?_))
      have snoc := sel_snoc hrs
      cases b with
      | false =>
        rw [if_neg Bool.false_ne_true] at snoc ⊢
        exact ⟨⟨h₅, _, _, rfl, n₅, by rw [snoc]; exact e₄, keep5⟩, st5, pl5⟩
      | true =>
        rw [if_pos rfl] at snoc ⊢
        refine item 0 _ _ (by decide) rfl fun tk2 => ⟨⟨h₅, _, _, rfl, n₅, ?_, keep5⟩, st5, pl5⟩
        rw [snoc]
        exact e₄.append (.cons ⟨_, rfl⟩ .nil)
    · rintro ys s₁ ⟨h₄, tk₄, m, rfl, n₄, e₄, k₄⟩ hpl
      refine ⟨m, n₄, fun h' hs' => ?_⟩
      have keep6 : ∀ b o, s.heap.get? b = some o → h'.get? b = some o := fun b o e => hs'.extBut b o (offC b (Nat.lt_succ_of_lt (Heap.lt_size e))) (k₄ b o e)
      have pl6 : h'.PlainList D ys.toArray := hpl.extBut hs'.extBut hDC
      have full : rs.take its.toArray.size = rs := List.take_of_length_le (by rw [hsz, ← lenI, hr.len]; exact Nat.le_refl _)
      rw [full] at e₄
      have nd : s.heap.objs.size ≤ D := Nat.le_trans (Nat.le_succ _) nD'
      obtain ⟨nn, gD⟩ := pl6
      refine ⟨.ref D, _, I.laid (t' := tk₄) (a := D) (o := .lst (sel rs)) keep6 nd ⟨?_, ys, nn, e₄, gD⟩, rfl, q D (I.hok.fresh nd)⟩
      have z : (sel rs).length ≤ rs.length := by
        unfold sel
        rw [List.length_map]
        exact List.length_filter_le _ _
      rw [← hr.len] at z
      omega
end
def rIsP (K : PySem.W.Frag) (D a : Addr) (d : Option Addr) : List V → Hp → VK → Prop := fun xs H Q => ∃ (c : V) (cv : Value) (b : Bool), xs = [.ref a, c] ∧ ClsV c cv ∧ (∀ dd, d = some dd → ∃ fs, H dd = some (.xd fs)) ∧ PySem.W.kitOne K (.ref D) cv = some b ∧ Q (.bl b) H
theorem call_isP {X : Cx} {D : Addr} {d : Option Addr} {p : Addr × Obj} (C : ExcC X.K D) (hp : p ∈ X.pn) (hz : Zc (.ref D) d p.2) (hf : ∃ vs, p.2.data = .fields vs) : CallR X (.builtin "isinstance") (rIsP X.K D p.1 d) := by
  intro pn s ρ H xs us Q I r h
  obtain ⟨c, cv, b, ex, hc, hd, e, q⟩ := h
  subst ex
  cases r with
  | cons rx rr =>
    cases rr with
    | cons rt rr =>
      cases rr
      cases rx
      have ec := hc.eq rt
      subst ec
      obtain ⟨g, _⟩ := I.pin p (List.mem_append_left _ hp)
      obtain ⟨vs, hv⟩ := hf
      have od : ∃ od : Option Obj, PySem.W.InstAt s.heap p.1 p.2 D od := by
        cases d with
        | none => exact ⟨none, g, hz.1, by unfold PySem.W.notCls; rw [hv] <;> rfl, by rw [hz.2]; trivial⟩
        | some dd =>
          obtain ⟨fs, hfs⟩ := hd dd rfl
          obtain ⟨mA, hns, _⟩ : ∃ mA, s.heap.Ns1 dd mA ∧ ∀ f, RelO (fs.lookup f) (mA f) := I.hok dd _ hfs
          obtain ⟨o, ho, _⟩ := lookIn_ns hns
          exact ⟨some o, g, hz.1, by unfold PySem.W.notCls; rw [hv] <;> rfl, by rw [hz.2]; exact ho⟩
      obtain ⟨od, J⟩ := od
      obtain ⟨cdD, hcD, _⟩ := PySem.W.any_some C.hd
      exact PySem.W.kia_one (PySem.W.kitx_exc (by rw [hcD]; rfl) C.hg C.hk C.hs C.ha C.hn C.ht C.hm) I.kIn J e (fun z => nomatch z) fun tk => ⟨.bl b, H, I.kept (t' := tk) fun _ _ z => z, rfl, q⟩
end NW
namespace NW
open PySem PySem.Spec PyProof.Rows L2
open C8 (tCut pss_cut)
/-- what isinstance says of an error of the class at E -/
structure KitF (K : PySem.W.Frag) (E : Addr) (b : Str → Bool) : Prop where
  v : PySem.W.kitOne K (.ref E) (.type "ValueError") = some (b "ValueError")
  c : ∀ n ∈ errN1 ++ errN2, PySem.W.kitOne K (.ref E) (.ref (He.ga K n)) = some (b n)
def t_kinds (K : PySem.W.Frag) (E a : Addr) (d : Option Addr) : TS :=
  (tSeq (tAsg (tLst (tCons (tTup (tCons (tC (.str "ValueError")) (tCons (tCB (rIsP K E a d) (tCons (tVar 0) (tCons (tC (.ty "ValueError")) tNil))) tNil))) (tCons (tTup (tCons (tC (.str "NestError")) (tCons (tCB (rIsP K E a d) (tCons (tVar 0) (tCons (tC (.ref (He.ga K "NestError"))) tNil))) tNil))) tNil))) (gName 1))
    (tSeq (tAsg (tOp aAdd (tVar 1) (tLst (tCons (tTup (tCons (tC (.str "Refusal")) (tCons (tCB (rIsP K E a d) (tCons (tVar 0) (tCons (tC (.ref (He.ga K "Refusal"))) tNil))) tNil))) (tCons (tTup (tCons (tC (.str "BadName")) (tCons (tCB (rIsP K E a d) (tCons (tVar 0) (tCons (tC (.ref (He.ga K "BadName"))) tNil))) tNil))) tNil)))) (gName 1))
    (tSeq (tAsg (tOp aAdd (tVar 1) (tLst (tCons (tTup (tCons (tC (.str "BadWeight")) (tCons (tCB (rIsP K E a d) (tCons (tVar 0) (tCons (tC (.ref (He.ga K "BadWeight"))) tNil))) tNil))) (tCons (tTup (tCons (tC (.str "BadNumber")) (tCons (tCB (rIsP K E a d) (tCons (tVar 0) (tCons (tC (.ref (He.ga K "BadNumber"))) tNil))) tNil))) tNil)))) (gName 1))
    (tSeq (tAsg (tOp aAdd (tVar 1) (tLst (tCons (tTup (tCons (tC (.str "BadCount")) (tCons (tCB (rIsP K E a d) (tCons (tVar 0) (tCons (tC (.ref (He.ga K "BadCount"))) tNil))) tNil))) (tCons (tTup (tCons (tC (.str "Twice")) (tCons (tCB (rIsP K E a d) (tCons (tVar 0) (tCons (tC (.ref (He.ga K "Twice"))) tNil))) tNil))) tNil)))) (gName 1))
    (tSeq (tAsg (tOp aAdd (tVar 1) (tLst (tCons (tTup (tCons (tC (.str "Unknown")) (tCons (tCB (rIsP K E a d) (tCons (tVar 0) (tCons (tC (.ref (He.ga K "Unknown"))) tNil))) tNil))) (tCons (tTup (tCons (tC (.str "NoHolder")) (tCons (tCB (rIsP K E a d) (tCons (tVar 0) (tCons (tC (.ref (He.ga K "NoHolder"))) tNil))) tNil))) tNil)))) (gName 1))
    (tSeq (tAsg (tOp aAdd (tVar 1) (tLst (tCons (tTup (tCons (tC (.str "Loop")) (tCons (tCB (rIsP K E a d) (tCons (tVar 0) (tCons (tC (.ref (He.ga K "Loop"))) tNil))) tNil))) (tCons (tTup (tCons (tC (.str "Short")) (tCons (tCB (rIsP K E a d) (tCons (tVar 0) (tCons (tC (.ref (He.ga K "Short"))) tNil))) tNil))) tNil)))) (gName 1))
    (tSeq (tAsg (tOp aAdd (tVar 1) (tLst (tCons (tTup (tCons (tC (.str "BadText")) (tCons (tCB (rIsP K E a d) (tCons (tVar 0) (tCons (tC (.ref (He.ga K "BadText"))) tNil))) tNil))) (tCons (tTup (tCons (tC (.str "OtherYard")) (tCons (tCB (rIsP K E a d) (tCons (tVar 0) (tCons (tC (.ref (He.ga K "OtherYard"))) tNil))) tNil))) tNil)))) (gName 1))
    (tSeq (tAsg (tOp aAdd (tVar 1) (tLst (tCons (tTup (tCons (tC (.str "Same")) (tCons (tCB (rIsP K E a d) (tCons (tVar 0) (tCons (tC (.ref (He.ga K "Same"))) tNil))) tNil))) (tCons (tTup (tCons (tC (.str "Inside")) (tCons (tCB (rIsP K E a d) (tCons (tVar 0) (tCons (tC (.ref (He.ga K "Inside"))) tNil))) tNil))) tNil)))) (gName 1))
    (tSeq (tAsg (tOp aAdd (tVar 1) (tLst (tCons (tTup (tCons (tC (.str "Unlike")) (tCons (tCB (rIsP K E a d) (tCons (tVar 0) (tCons (tC (.ref (He.ga K "Unlike"))) tNil))) tNil))) (tCons (tTup (tCons (tC (.str "Nailed")) (tCons (tCB (rIsP K E a d) (tCons (tVar 0) (tCons (tC (.ref (He.ga K "Nailed"))) tNil))) tNil))) tNil)))) (gName 1))
    (tSeq (tAsg (tOp aAdd (tVar 1) (tLst (tCons (tTup (tCons (tC (.str "Sealed")) (tCons (tCB (rIsP K E a d) (tCons (tVar 0) (tCons (tC (.ref (He.ga K "Sealed"))) tNil))) tNil))) (tCons (tTup (tCons (tC (.str "Idle")) (tCons (tCB (rIsP K E a d) (tCons (tVar 0) (tCons (tC (.ref (He.ga K "Idle"))) tNil))) tNil))) tNil)))) (gName 1))
    (tSeq (tAsg (tOp aAdd (tVar 1) (tLst (tCons (tTup (tCons (tC (.str "Broken")) (tCons (tCB (rIsP K E a d) (tCons (tVar 0) (tCons (tC (.ref (He.ga K "Broken"))) tNil))) tNil))) (tCons (tTup (tCons (tC (.str "NotComing")) (tCons (tCB (rIsP K E a d) (tCons (tVar 0) (tCons (tC (.ref (He.ga K "NotComing"))) tNil))) tNil))) tNil)))) (gName 1))
    (tSeq (tAsg (tOp aAdd (tVar 1) (tLst (tCons (tTup (tCons (tC (.str "Unbalanced")) (tCons (tCB (rIsP K E a d) (tCons (tVar 0) (tCons (tC (.ref (He.ga K "Unbalanced"))) tNil))) tNil))) (tCons (tTup (tCons (tC (.str "TooMany")) (tCons (tCB (rIsP K E a d) (tCons (tVar 0) (tCons (tC (.ref (He.ga K "TooMany"))) tNil))) tNil))) tNil)))) (gName 1))
    (tSeq (tAsg (tOp aAdd (tVar 1) (tLst (tCons (tTup (tCons (tC (.str "BadWish")) (tCons (tCB (rIsP K E a d) (tCons (tVar 0) (tCons (tC (.ref (He.ga K "BadWish"))) tNil))) tNil))) (tCons (tTup (tCons (tC (.str "Clash")) (tCons (tCB (rIsP K E a d) (tCons (tVar 0) (tCons (tC (.ref (He.ga K "Clash"))) tNil))) tNil))) tNil)))) (gName 1))
    (tSeq (tAsg (tOp aAdd (tVar 1) (tLst (tCons (tTup (tCons (tC (.str "OtherDoors")) (tCons (tCB (rIsP K E a d) (tCons (tVar 0) (tCons (tC (.ref (He.ga K "OtherDoors"))) tNil))) tNil))) (tCons (tTup (tCons (tC (.str "NoStory")) (tCons (tCB (rIsP K E a d) (tCons (tVar 0) (tCons (tC (.ref (He.ga K "NoStory"))) tNil))) tNil))) tNil)))) (gName 1))
    (tSeq (tAsg (tOp aAdd (tVar 1) (tLst (tCons (tTup (tCons (tC (.str "BadOrder")) (tCons (tCB (rIsP K E a d) (tCons (tVar 0) (tCons (tC (.ref (He.ga K "BadOrder"))) tNil))) tNil))) (tCons (tTup (tCons (tC (.str "OrderRefused")) (tCons (tCB (rIsP K E a d) (tCons (tVar 0) (tCons (tC (.ref (He.ga K "OrderRefused"))) tNil))) tNil))) tNil)))) (gName 1))
    (tSeq (tAsg (tOp aAdd (tVar 1) (tLst (tCons (tTup (tCons (tC (.str "OutOfSteps")) (tCons (tCB (rIsP K E a d) (tCons (tVar 0) (tCons (tC (.ref (He.ga K "OutOfSteps"))) tNil))) tNil))) (tCons (tTup (tCons (tC (.str "NotEmpty")) (tCons (tCB (rIsP K E a d) (tCons (tVar 0) (tCons (tC (.ref (He.ga K "NotEmpty"))) tNil))) tNil))) tNil)))) (gName 1))
    (tSeq (tAsg (tOp aAdd (tVar 1) (tLst (tCons (tTup (tCons (tC (.str "NoChange")) (tCons (tCB (rIsP K E a d) (tCons (tVar 0) (tCons (tC (.ref (He.ga K "NoChange"))) tNil))) tNil))) (tCons (tTup (tCons (tC (.str "NothingDone")) (tCons (tCB (rIsP K E a d) (tCons (tVar 0) (tCons (tC (.ref (He.ga K "NothingDone"))) tNil))) tNil))) tNil)))) (gName 1))
    (tSeq (tAsg (tOp aAdd (tVar 1) (tLst (tCons (tTup (tCons (tC (.str "BadClaim")) (tCons (tCB (rIsP K E a d) (tCons (tVar 0) (tCons (tC (.ref (He.ga K "BadClaim"))) tNil))) tNil))) tNil))) (gName 1))
    (tRet (tSel (tVar 1)))))))))))))))))))))
section
variable {K : PySem.W.Frag} {E a r : Addr} {d : Option Addr} {H0 H : Hp} {D : Ends} {o : Option V} {vs : List V} {rs : List (Str × Bool)} {n1 n2 : Str} {c1 c2 : V} {v1 v2 : Value} {b1 b2 : Bool} {Q : VK}
theorem isP (hc : ClsV c1 v1) (hk : PySem.W.kitOne K (.ref E) v1 = some b1) (hd : ∀ dd, d = some dd → ∃ fs, H dd = some (.xd fs)) (h : Q (.bl b1) H) : rIsP K E a d [.ref a, c1] H Q := ⟨c1, v1, b1, rfl, hc, hd, hk, h⟩
theorem xd_mono (hd : ∀ dd, d = some dd → ∃ fs, H0 dd = some (.xd fs)) (s : Same H0 H) : ∀ dd, d = some dd → ∃ fs, H dd = some (.xd fs) := fun dd e => by
  obtain ⟨fs, z⟩ := hd dd e
  exact ⟨fs, s _ _ z⟩
local macro_rules | `(tactic| walk_at "nw") => `(tactic| first
  | with_reducible refine s_seq ?_
  | with_reducible refine s_asg ?_
  | with_reducible refine s_if ?_
  | with_reducible refine s_ret ?_
  | with_reducible refine s_drop ?_
  | with_reducible refine v_var0 ?_
  | with_reducible refine s_name0 ?_
  | with_reducible refine v_aug0 ?_
  | with_reducible refine v_var1 ?_
  | with_reducible refine s_name1 ?_
  | with_reducible refine v_aug1 ?_
  | with_reducible refine v_var2 ?_
  | with_reducible refine s_name2 ?_
  | with_reducible refine v_aug2 ?_
  | with_reducible refine v_var3 ?_
  | with_reducible refine s_name3 ?_
  | with_reducible refine v_aug3 ?_
  | with_reducible refine v_var4 ?_
  | with_reducible refine s_name4 ?_
  | with_reducible refine v_aug4 ?_
  | with_reducible refine v_var5 ?_
  | with_reducible refine s_name5 ?_
  | with_reducible refine v_aug5 ?_
  | with_reducible refine v_var6 ?_
  | with_reducible refine s_name6 ?_
  | with_reducible refine v_aug6 ?_
  | with_reducible refine v_var7 ?_
  | with_reducible refine s_name7 ?_
  | with_reducible refine v_aug7 ?_
  | with_reducible refine v_var8 ?_
  | with_reducible refine s_name8 ?_
  | with_reducible refine v_aug8 ?_
  | with_reducible refine v_var9 ?_
  | with_reducible refine s_name9 ?_
  | with_reducible refine v_aug9 ?_
  | with_reducible refine v_var10 ?_
  | with_reducible refine s_name10 ?_
  | with_reducible refine v_aug10 ?_
  | with_reducible refine v_var11 ?_
  | with_reducible refine s_name11 ?_
  | with_reducible refine v_aug11 ?_
  | with_reducible refine v_var12 ?_
  | with_reducible refine s_name12 ?_
  | with_reducible refine v_aug12 ?_
  | with_reducible refine v_var13 ?_
  | with_reducible refine s_name13 ?_
  | with_reducible refine v_aug13 ?_
  | with_reducible refine v_var14 ?_
  | with_reducible refine s_name14 ?_
  | with_reducible refine v_aug14 ?_
  | with_reducible refine v_var15 ?_
  | with_reducible refine s_name15 ?_
  | with_reducible refine v_aug15 ?_
  | with_reducible refine v_c ?_
  | with_reducible refine v_op ?_
  | with_reducible refine v_cons ?_
  | with_reducible refine v_nil ?_
  | with_reducible refine v_cb ?_
  | with_reducible refine v_call ?_
  | with_reducible refine c_test ?_
  | with_reducible refine c_bl ?_
  | with_reducible refine c_and ?_
  | with_reducible refine c_or ?_
  | with_reducible refine c_not ?_
  | with_reducible refine v_augS ?_
  | with_reducible refine v_sub ?_
  | with_reducible refine add_ii ?_
  | with_reducible refine sub_ii ?_
  | with_reducible refine iadd_ii ?_
  | with_reducible refine lt_ii ?_
  | with_reducible refine le_ii ?_
  | with_reducible refine gt_ii ?_
  | with_reducible refine ge_ii ?_
  | with_reducible refine eq_ii ?_
  | with_reducible refine ne_ii ?_
  | with_reducible refine int_i ?_
  | with_reducible refine abs_i ?_
  | with_reducible refine max_i ?_
  | with_reducible refine min_i ?_
  | with_reducible refine mul_r (by omega) (by omega) ?_
  | with_reducible refine mul_l (by omega) (by omega) ?_
  | with_reducible refine ix_m0 (by assumption) ?_
  | with_reducible refine get_m0 (by assumption) ?_
  | with_reducible refine ix_m1 (by assumption) ?_
  | with_reducible refine get_m1 (by assumption) ?_
  | with_reducible refine ix_m2 (by assumption) ?_
  | with_reducible refine get_m2 (by assumption) ?_
  | with_reducible refine ix_m3 (by assumption) ?_
  | with_reducible refine get_m3 (by assumption) ?_
  | with_reducible refine ix_m4 (by assumption) ?_
  | with_reducible refine get_m4 (by assumption) ?_
  | with_reducible refine ix_m5 (by assumption) ?_
  | with_reducible refine get_m5 (by assumption) ?_
  | (with_reducible refine st_set1 (by assumption) (by assumption) ?_; intro H1 hs1 kp1)
  | (with_reducible refine st_set2 (by assumption) (by assumption) ?_; intro H1 hs1 kp1)
  | (with_reducible refine st_set3 (by assumption) (by assumption) ?_; intro H1 hs1 kp1)
  | (with_reducible refine st_set4 (by assumption) (by assumption) ?_; intro H1 hs1 kp1)
  | (with_reducible refine st_set5 (by assumption) (by assumption) ?_; intro H1 hs1 kp1)
  | with_reducible refine len_m (by assumption) ?_
  | with_reducible refine s_for1 ?_
  | with_reducible refine s_forL ?_
  | with_reducible refine rng1 (by omega) (by omega) ?_
  | with_reducible refine s_next ?_
  | with_reducible refine s_break ?_
  | with_reducible refine s_cont ?_
  | with_reducible refine isi_non_bool ?_
  | with_reducible refine isi_non_int ?_
  | with_reducible refine isi_non_str ?_
  | with_reducible refine isi_non_list ?_
  | with_reducible refine isi_non_tuple ?_
  | with_reducible refine isi_non_dict ?_
  | with_reducible refine isi_non_seq (by assumption) ?_
  | with_reducible refine isi_bl_bool ?_
  | with_reducible refine isi_bl_int ?_
  | with_reducible refine isi_bl_str ?_
  | with_reducible refine isi_bl_list ?_
  | with_reducible refine isi_bl_tuple ?_
  | with_reducible refine isi_bl_dict ?_
  | with_reducible refine isi_bl_seq (by assumption) ?_
  | with_reducible refine isi_int_bool ?_
  | with_reducible refine isi_int_int ?_
  | with_reducible refine isi_int_str ?_
  | with_reducible refine isi_int_list ?_
  | with_reducible refine isi_int_tuple ?_
  | with_reducible refine isi_int_dict ?_
  | with_reducible refine isi_int_seq (by assumption) ?_
  | with_reducible refine isi_str_bool ?_
  | with_reducible refine isi_str_int ?_
  | with_reducible refine isi_str_str ?_
  | with_reducible refine isi_str_list ?_
  | with_reducible refine isi_str_tuple ?_
  | with_reducible refine isi_str_dict ?_
  | with_reducible refine isi_str_seq (by assumption) ?_
  | with_reducible refine isi_lst_bool (by assumption) (by assumption) ?_
  | with_reducible refine isi_lst_int (by assumption) (by assumption) ?_
  | with_reducible refine isi_lst_str (by assumption) (by assumption) ?_
  | with_reducible refine isi_lst_list (by assumption) (by assumption) ?_
  | with_reducible refine isi_lst_tuple (by assumption) (by assumption) ?_
  | with_reducible refine isi_lst_dict (by assumption) (by assumption) ?_
  | with_reducible refine isi_lst_seq (by assumption) (by assumption) (by assumption) ?_
  | with_reducible refine isi_tup_bool (by assumption) (by assumption) ?_
  | with_reducible refine isi_tup_int (by assumption) (by assumption) ?_
  | with_reducible refine isi_tup_str (by assumption) (by assumption) ?_
  | with_reducible refine isi_tup_list (by assumption) (by assumption) ?_
  | with_reducible refine isi_tup_tuple (by assumption) (by assumption) ?_
  | with_reducible refine isi_tup_dict (by assumption) (by assumption) ?_
  | with_reducible refine isi_tup_seq (by assumption) (by assumption) (by assumption) ?_
  | with_reducible refine isi_dK_bool (by assumption) (by assumption) ?_
  | with_reducible refine isi_dK_int (by assumption) (by assumption) ?_
  | with_reducible refine isi_dK_str (by assumption) (by assumption) ?_
  | with_reducible refine isi_dK_list (by assumption) (by assumption) ?_
  | with_reducible refine isi_dK_tuple (by assumption) (by assumption) ?_
  | with_reducible refine isi_dK_dict (by assumption) (by assumption) ?_
  | with_reducible refine isi_dK_seq (by assumption) (by assumption) (by assumption) ?_
  | with_reducible refine eq_bb ?_
  | with_reducible refine eq_ss ?_
  | with_reducible refine ev_isN ?_
  | with_reducible refine ev_tB ?_
  | with_reducible refine ev_and ?_
  | with_reducible refine ev_or ?_
  | with_reducible refine ev_not ?_
  | with_reducible refine c_tru ?_
  | with_reducible refine tru_bl ?_
  | with_reducible refine if_nt ?_
  | with_reducible refine if_nf ?_
  | with_reducible refine tup_new ?_
  | with_reducible refine lst_new ?_
  | with_reducible refine len_ms (by assumption) (by assumption) ?_
  | with_reducible refine len_ts (by assumption) (by assumption) ?_
  | ((with_reducible refine lit_len ?_ ?_); (focus (first | decide | (simp; done) | (simp; omega))))
  | (with_reducible refine new_st (by assumption) (by assumption) ?_; intro q1 H1 hq1 he1 hn1 kp1 hS1 sm1)
  | (with_reducible refine new_same (by assumption) ?_; intro q1 H1 hq1 he1 sm1 hs1)
  | with_reducible refine if_dT rfl ?_
  | ((with_reducible refine if_dF ?_ ?_); focus (intro z; cases z; done))
  | with_reducible refine if_t ?_
  | with_reducible refine if_f ?_
  | ((with_reducible refine c_take (by assumption) (by assumption) ?_ ?_); (focus omega); intro r1 H1 hS1 kp1 h01 h11)
  | with_reducible refine ev_chain ?_
  | ((with_reducible refine c_number (by assumption) (by assumption) ?_ ?_); (focus omega); intro r1 H1 hS1 kp1 h01 h11)
  | ((with_reducible refine c_pick (by assumption) (by assumption) (by assumption) (by assumption) ?_ ?_); (focus (simp; done)); intro r1 H1 hS1 kp1 kk1 h01))
local macro_rules | `(tactic| walk_at "go") => `(tactic| repeat' (first | walk_at "nw" | ((with_reducible refine if_d ?_ ?_) <;> intro c1) | ((with_reducible refine if_nd ?_ ?_) <;> intro c1)))
theorem row2 (hc1 : ClsV c1 v1) (hk1 : PySem.W.kitOne K (.ref E) v1 = some b1) (hc2 : ClsV c2 v2) (hk2 : PySem.W.kitOne K (.ref E) v2 = some b2) (hd : ∀ dd, d = some dd → ∃ fs, H0 dd = some (.xd fs)) (hs : Same H0 H)
    (hr : H r = some (.lst vs)) (ha : RowsAt H vs rs) (hl : vs.length ≤ 100)
    (h : ∀ (r' : Addr) (H' : Hp) (vs' : List V), Same H0 H' → H' r' = some (.lst vs') → RowsAt H' vs' (rs ++ [(n1, b1), (n2, b2)]) → vs'.length = vs.length + 2 → D.nx [some (.ref a), some (.ref r'), o] H') :
    tAsg (tOp aAdd (tVar 1) (tLst (tCons (tTup (tCons (tC (.str n1)) (tCons (tCB (rIsP K E a d) (tCons (tVar 0) (tCons (tC c1) tNil))) tNil))) (tCons (tTup (tCons (tC (.str n2)) (tCons (tCB (rIsP K E a d) (tCons (tVar 0) (tCons (tC c2) tNil))) tNil))) tNil)))) (gName 1) D [some (.ref a), some (.ref r), o] H := by
  repeat walk_at "nw"
  refine isP hc1 hk1 (xd_mono hd hs) ?_
  repeat walk_at "nw"
  rename_i t1 H1 g1 e1 k1 s1
  refine isP hc2 hk2 (xd_mono hd s1) ?_
  repeat walk_at "nw"
  rename_i t2 H2 g2 e2 k2 s2 l H3 g3 e3 k3 s3
  have k13 : Same H1 H3 := k2.trans k3
  refine add_ll (k13 _ _ (k1 _ _ hr)) e3 (by simp; omega) fun q hq => ?_
  have z : Same H3 (upd H3 q (.lst (vs ++ [V.ref t1, V.ref t2]))) := same_new hq
  refine h q _ _ (s3.trans z) upd_same ?_ (by simp)
  exact (ha.mono ((k1.trans k13).trans z)).append (.cons (z _ _ (k13 _ _ e1)) (.cons (z _ _ (k3 _ _ e2)) .nil))
theorem row0 (hc1 : ClsV c1 v1) (hk1 : PySem.W.kitOne K (.ref E) v1 = some b1) (hc2 : ClsV c2 v2) (hk2 : PySem.W.kitOne K (.ref E) v2 = some b2) (hd : ∀ dd, d = some dd → ∃ fs, H0 dd = some (.xd fs)) (hs : Same H0 H)
    (h : ∀ (r' : Addr) (H' : Hp) (vs' : List V), Same H0 H' → H' r' = some (.lst vs') → RowsAt H' vs' [(n1, b1), (n2, b2)] → vs'.length = 2 → D.nx [some (.ref a), some (.ref r'), o] H') :
    tAsg (tLst (tCons (tTup (tCons (tC (.str n1)) (tCons (tCB (rIsP K E a d) (tCons (tVar 0) (tCons (tC c1) tNil))) tNil))) (tCons (tTup (tCons (tC (.str n2)) (tCons (tCB (rIsP K E a d) (tCons (tVar 0) (tCons (tC c2) tNil))) tNil))) tNil))) (gName 1) D [some (.ref a), none, o] H := by
  repeat walk_at "nw"
  refine isP hc1 hk1 (xd_mono hd hs) ?_
  repeat walk_at "nw"
  rename_i t1 H1 g1 e1 k1 s1
  refine isP hc2 hk2 (xd_mono hd s1) ?_
  repeat walk_at "nw"
  rename_i t2 H2 g2 e2 k2 s2 l H3 g3 e3 k3 s3
  exact h l _ _ s3 e3 (.cons (k3 _ _ (k2 _ _ e1)) (.cons (k3 _ _ e2) .nil)) rfl
theorem row1 (hc1 : ClsV c1 v1) (hk1 : PySem.W.kitOne K (.ref E) v1 = some b1) (hd : ∀ dd, d = some dd → ∃ fs, H0 dd = some (.xd fs)) (hs : Same H0 H) (hr : H r = some (.lst vs)) (ha : RowsAt H vs rs) (hl : vs.length ≤ 100)
    (h : ∀ (r' : Addr) (H' : Hp) (vs' : List V), Same H0 H' → H' r' = some (.lst vs') → RowsAt H' vs' (rs ++ [(n1, b1)]) → D.nx [some (.ref a), some (.ref r'), o] H') :
    tAsg (tOp aAdd (tVar 1) (tLst (tCons (tTup (tCons (tC (.str n1)) (tCons (tCB (rIsP K E a d) (tCons (tVar 0) (tCons (tC c1) tNil))) tNil))) tNil))) (gName 1) D [some (.ref a), some (.ref r), o] H := by
  repeat walk_at "nw"
  refine isP hc1 hk1 (xd_mono hd hs) ?_
  repeat walk_at "nw"
  rename_i t1 H1 g1 e1 k1 s1 l H3 g3 e3 k3 s3
  refine add_ll (k3 _ _ (k1 _ _ hr)) e3 (by simp; omega) fun q hq => ?_
  have z : Same H3 (upd H3 q (.lst (vs ++ [V.ref t1]))) := same_new hq
  refine h q _ _ (s3.trans z) upd_same ?_
  exact (ha.mono ((k1.trans k3).trans z)).append (.cons (z _ _ (k3 _ _ e1)) .nil)
end
end NW
namespace NW
open PySem PySem.Spec PyProof.Rows L2
open C8 (tCut pss_cut)
def kindPairs : List (Str × Str) := [("Refusal", "BadName"), ("BadWeight", "BadNumber"), ("BadCount", "Twice"), ("Unknown", "NoHolder"), ("Loop", "Short"), ("BadText", "OtherYard"), ("Same", "Inside"), ("Unlike", "Nailed"), ("Sealed", "Idle"), ("Broken", "NotComing"), ("Unbalanced", "TooMany"), ("BadWish", "Clash"), ("OtherDoors", "NoStory"), ("BadOrder", "OrderRefused"), ("OutOfSteps", "NotEmpty"), ("NoChange", "NothingDone")]
def kr (b : Str → Bool) : List (Str × Str) → List (Str × Bool)
  | [] => []
  | (n, m) :: ps => (n, b n) :: (m, b m) :: kr b ps
def kindsAll (b : Str → Bool) : List (Str × Bool) := (([((("ValueError" : Str)), b "ValueError"), (("NestError" : Str), b "NestError")] : List (Str × Bool)) ++ kr b kindPairs) ++ [(("BadClaim" : Str), b "BadClaim")]
def tRow2 (K : PySem.W.Frag) (E a : Addr) (d : Option Addr) (n1 n2 : Str) : TS :=
  tAsg (tOp aAdd (tVar 1) (tLst (tCons (tTup (tCons (tC (.str n1)) (tCons (tCB (rIsP K E a d) (tCons (tVar 0) (tCons (tC (.ref (He.ga K n1))) tNil))) tNil))) (tCons (tTup (tCons (tC (.str n2)) (tCons (tCB (rIsP K E a d) (tCons (tVar 0) (tCons (tC (.ref (He.ga K n2))) tNil))) tNil))) tNil)))) (gName 1)
def tRows (K : PySem.W.Frag) (E a : Addr) (d : Option Addr) : List (Str × Str) → TS → TS
  | [], t => t
  | (n, m) :: ps, t => tSeq (tRow2 K E a d n m) (tRows K E a d ps t)
theorem t_kinds_eq (K : PySem.W.Frag) (E a : Addr) (d : Option Addr) : t_kinds K E a d =
    tSeq (tAsg (tLst (tCons (tTup (tCons (tC (.str "ValueError")) (tCons (tCB (rIsP K E a d) (tCons (tVar 0) (tCons (tC (.ty "ValueError")) tNil))) tNil))) (tCons (tTup (tCons (tC (.str "NestError")) (tCons (tCB (rIsP K E a d) (tCons (tVar 0) (tCons (tC (.ref (He.ga K "NestError"))) tNil))) tNil))) tNil))) (gName 1))
    (tRows K E a d kindPairs (tSeq (tAsg (tOp aAdd (tVar 1) (tLst (tCons (tTup (tCons (tC (.str "BadClaim")) (tCons (tCB (rIsP K E a d) (tCons (tVar 0) (tCons (tC (.ref (He.ga K "BadClaim"))) tNil))) tNil))) tNil))) (gName 1)) (tRet (tSel (tVar 1))))) := rfl
theorem p_rows (K : PySem.W.Frag) (E a : Addr) (d : Option Addr) (b : Str → Bool) (H0 : Hp) (o : Option V) (t : TS) (D : Ends) (hd : ∀ dd, d = some dd → ∃ fs, H0 dd = some (.xd fs)) :
    ∀ (ps : List (Str × Str)) (r : Addr) (H : Hp) (vs : List V) (rs : List (Str × Bool)), (∀ q ∈ ps, PySem.W.kitOne K (.ref E) (.ref (He.ga K q.1)) = some (b q.1) ∧ PySem.W.kitOne K (.ref E) (.ref (He.ga K q.2)) = some (b q.2)) →
      Same H0 H → H r = some (.lst vs) → RowsAt H vs rs → vs.length + 2 * ps.length ≤ 100 →
      (∀ (r' : Addr) (H' : Hp) (vs' : List V), Same H0 H' → H' r' = some (.lst vs') → RowsAt H' vs' (rs ++ kr b ps) → vs'.length ≤ 100 → t D [some (.ref a), some (.ref r'), o] H') →
      tRows K E a d ps t D [some (.ref a), some (.ref r), o] H := by
  intro ps
  induction ps with
  | nil =>
    intro r H vs rs M hs hr ha hl h
    exact h r H vs hs hr (by rw [show kr b [] = [] from rfl, List.append_nil]; exact ha) (by simp at hl; omega)
  | cons q ps ih =>
    intro r H vs rs M hs hr ha hl h
    obtain ⟨n, m⟩ := q
    have m1 := (M (n, m) (by simp)).1
    have m2 := (M (n, m) (by simp)).2
    show tSeq (tRow2 K E a d n m) (tRows K E a d ps t) D _ H
    refine s_seq ?_
    rw [List.length_cons] at hl
    refine row2 (.own _) m1 (.own _) m2 hd hs hr ha (by omega) fun r' H' vs' s' e' a' l' => ?_
    refine ih r' H' vs' _ (fun q hq => M q (List.mem_cons_of_mem _ hq)) s' e' a' (by omega) fun r2 H2 vs2 s2 e2 a2 l2 => ?_
    refine h r2 H2 vs2 s2 e2 ?_ l2
    rw [List.append_assoc] at a2
    exact a2
theorem pairs_in : ∀ q ∈ kindPairs, q.1 ∈ errN1 ++ errN2 ∧ q.2 ∈ errN1 ++ errN2 := by decide +kernel
end NW
namespace NW
open PySem PySem.Spec PyProof.Rows L2
open C8 (tCut pss_cut)
section
variable {P : Program} {w : World} {K : PySem.W.Frag} {mg : Str → Option Value} {base : Heap} {x : Str} {params : Arguments} {body : List Stmt} {scope : Scope} {f : Addr} {ps : List Str} {sp : Sp} {p : Addr × Obj}
theorem has0 (g : mg x = some (.ref f)) (F : ∃ fd, FunD K x x params body scope [] [] f fd)
    (bn : ∀ (kV doc pm : Value) (an : Option Addr) (cdv ct : Value) (us : List Value), us.length = ps.length → bindArgs (PySem.W.fnOf x x params body scope .none kV doc pm an cdv ct) ⟨us, []⟩ = pure (ps.zip us))
    (h : ∀ vs H Q E, sp vs H Q E → False) : Has P w K mg base x 0 ps sp := by
  obtain ⟨fd, F⟩ := F
  exact ⟨f, fd, g, F.kp, F.bindsN bn, ⟨fun vs H Q E z => (h vs H Q E z).elim, fun _ _ _ _ _ _ _ _ _ _ _ _ _ z => (h _ _ _ _ z).elim⟩⟩
theorem hasH0 (g : mg x = some (.ref f)) (F : ∃ fd, FunD K x x params body scope [] [] f fd)
    (bn : ∀ (kV doc pm : Value) (an : Option Addr) (cdv ct : Value) (us : List Value), us.length = ps.length → bindArgs (PySem.W.fnOf x x params body scope .none kV doc pm an cdv ct) ⟨us, []⟩ = pure (ps.zip us))
    (h : ∀ vs H Q E, sp vs H Q E → False) : HasH P w K mg base p x 0 ps sp := by
  obtain ⟨fd, F⟩ := F
  exact ⟨f, fd, g, F.kp, F.bindsN bn, ⟨fun vs H Q E z => (h vs H Q E z).elim, fun _ _ _ _ _ _ _ _ _ _ _ _ _ _ z => (h _ _ _ _ z).elim⟩⟩
end
end NW
namespace NW
/-- the falling product -/
def fp (n : Nat) : Nat → Nat
  | 0 => 1
  | k + 1 => fp n k * (n - k)
end NW
namespace NW
open PySem PySem.Spec PyProof.Rows L2
open C8 (tCut pss_cut)
def aTup (K : PySem.W.Frag) : List V → Hp → VK → Prop := fun xs H Q => ∃ p ys, xs = [.ref p] ∧ ((SqL K H p ys ∧ ∀ l, H l = none → Q (.ref l) (upd H l (.tup ys))) ∨ (SqT K H p ys ∧ Q (.ref p) H))
theorem cTup {X : Cx} : CallR X (.type "tuple") (aTup X.K) := call_tuple_of
section
variable {K : PySem.W.Frag} {H H0 : Hp} {Q : VK} {σ : L2.St} {p l : Addr} {xs : List V} {y : V} {te : TE} {ta : TA} {r : V → List V → Hp → VK → Prop} {i : Int} {j : Nat} {lo hi : Option Int}
theorem tup_l (hp : H p = some (.lst xs)) (h : NewR (.tup xs) H Q) : aTup K [.ref p] H Q := ⟨p, xs, rfl, .inl ⟨SqL.of hp, h⟩⟩
theorem tup_t (hp : H p = some (.tup xs)) (h : Q (.ref p) H) : aTup K [.ref p] H Q := ⟨p, xs, rfl, .inr ⟨SqT.of hp, h⟩⟩
theorem v_bm {T : String} (h : te σ H fun x H1 => tyV K T x H1 ∧ ta σ H1 fun ys H2 => r x ys H2 Q) : tBM K T r te ta σ H Q := h
theorem ty_l {A : Prop} (hp : H p = some (.lst xs)) (h : A) : tyV K "list" (.ref p) H ∧ A := ⟨.inl ⟨rfl, xs, SqL.of hp⟩, h⟩
theorem pop_l (hp : H p = some (.lst xs)) (hi : i = (j : Int)) (hj : j < xs.length) (hl : xs.length ≤ 1000000) (h : ∀ y, xs[j]? = some y → Q y (upd H p (.lst (xs.eraseIdx j)))) : rPopAt (.ref p) [.int i] H Q := by
  subst hi
  refine ⟨p, xs, (j : Int), j, xs[j], rfl, rfl, hp, by omega, by omega, ?_, List.getElem?_eq_getElem hj, h _ (List.getElem?_eq_getElem hj)⟩
  unfold seqIndex?
  rw [if_neg (by omega : ¬ ((j : Int) < 0))]
  have h1 : decide ((0 : Int) ≤ (j : Int)) = true := decide_eq_true (by omega)
  have h2 : decide ((j : Int) < (xs.length : Int)) = true := decide_eq_true (by omega)
  simp only [h1, h2, Bool.and_self, if_true, Int.toNat_natCast]
theorem v_sl {r : V → Option Int → Option Int → Hp → VK → Prop} {tl th : TO} (h : te σ H fun x H1 => tl σ H1 fun l H2 => th σ H2 fun u H3 => r x l u H3 Q) : tSl r te tl th σ H Q := h
def LcI (J : It) (g : TG) (tt : TT) (te : TE) (vs : List Nat) (σ : L2.St) (D : Addr) (Q : VK) (H : Hp) : Prop := ∃ W : Nat → Nat → Hp → Prop, (∃ m, W 0 m (upd H D (.lst []))) ∧ ∀ i m H, W i m H →
  (J.stop i H ∧ Q (.ref D) H) ∨ (J.go i H ∧ ∃ Nx : Hp → Prop, (∀ H', Nx H' → ∃ m', m' < m ∧ W (i + 1) m' H') ∧ ∀ x H', J.yld i H x H' → g x (wipe σ vs) H' fun σ2 H2 => wipe σ2 vs = wipe σ vs ∧ tt σ2 H2 fun b H3 =>
    if b = true then te σ2 H3 fun y H4 => ∃ acc, H4 D = some (.lst acc) ∧ acc.length < sizeLine ∧ Nx (upd H4 D (.lst (acc ++ [y]))) else Nx H3)
variable {g : TG} {tt : TT} {vs : List Nat}
theorem s_lc1 (h : ta σ H fun xs H1 => ∃ j : Int, xs = [.int j] ∧ -(2 ^ 62) ≤ j ∧ j < 2 ^ 62 ∧ ∀ D, H1 D = none → LcI (Itr 0 j.toNat) g tt te vs σ D Q H1) : tLc (iRng1 ta) g tt te vs σ H Q := h
theorem s_lcL {tl : TE} (h : tl σ H fun x H1 => ∃ a, x = .ref a ∧ (∃ xs, SqL K H1 a xs) ∧ ∀ D, H1 D = none → LcI (Itl K a) g tt te vs σ D Q H1) : tLc (iList K tl) g tt te vs σ H Q := h
theorem lc_kept {σ' : L2.St} {A : Prop} (h : A) (e : wipe σ' vs = wipe σ vs := by rfl) : wipe σ' vs = wipe σ vs ∧ A := ⟨e, h⟩
theorem c_yes {B : Bool → Hp → Prop} (h : B true H) : tYes σ H B := h
theorem v_nopart {R : Option Int → Hp → Prop} (h : R none H) : tNoPart σ H R := h
theorem v_part {R : Option Int → Hp → Prop} (h : te σ H fun x H1 => ∃ i, x = .int i ∧ R (some i) H1) : tPart te σ H R := h
theorem part_i {R : Int → Prop} (h : R i) : ∃ j, V.int i = .int j ∧ R j := ⟨i, rfl, h⟩
end
end NW
namespace NW
open PySem PySem.Spec PyProof.Rows L2
open C8 (tCut pss_cut)
def nV (ns : List Nat) : List V := ns.map fun (n : Nat) => V.int ((n : Nat) : Int)
local macro_rules | `(tactic| walk_at "nw") => `(tactic| first
  | with_reducible refine s_seq ?_
  | with_reducible refine s_asg ?_
  | with_reducible refine s_if ?_
  | with_reducible refine s_ret ?_
  | with_reducible refine s_drop ?_
  | with_reducible refine v_var0 ?_
  | with_reducible refine s_name0 ?_
  | with_reducible refine v_aug0 ?_
  | with_reducible refine v_var1 ?_
  | with_reducible refine s_name1 ?_
  | with_reducible refine v_aug1 ?_
  | with_reducible refine v_var2 ?_
  | with_reducible refine s_name2 ?_
  | with_reducible refine v_aug2 ?_
  | with_reducible refine v_var3 ?_
  | with_reducible refine s_name3 ?_
  | with_reducible refine v_aug3 ?_
  | with_reducible refine v_var4 ?_
  | with_reducible refine s_name4 ?_
  | with_reducible refine v_aug4 ?_
  | with_reducible refine v_var5 ?_
  | with_reducible refine s_name5 ?_
  | with_reducible refine v_aug5 ?_
  | with_reducible refine v_var6 ?_
  | with_reducible refine s_name6 ?_
  | with_reducible refine v_aug6 ?_
  | with_reducible refine v_var7 ?_
  | with_reducible refine s_name7 ?_
  | with_reducible refine v_aug7 ?_
  | with_reducible refine v_var8 ?_
  | with_reducible refine s_name8 ?_
  | with_reducible refine v_aug8 ?_
  | with_reducible refine v_var9 ?_
  | with_reducible refine s_name9 ?_
  | with_reducible refine v_aug9 ?_
  | with_reducible refine v_var10 ?_
  | with_reducible refine s_name10 ?_
  | with_reducible refine v_aug10 ?_
  | with_reducible refine v_var11 ?_
  | with_reducible refine s_name11 ?_
  | with_reducible refine v_aug11 ?_
  | with_reducible refine v_var12 ?_
  | with_reducible refine s_name12 ?_
  | with_reducible refine v_aug12 ?_
  | with_reducible refine v_var13 ?_
  | with_reducible refine s_name13 ?_
  | with_reducible refine v_aug13 ?_
  | with_reducible refine v_var14 ?_
  | with_reducible refine s_name14 ?_
  | with_reducible refine v_aug14 ?_
  | with_reducible refine v_var15 ?_
  | with_reducible refine s_name15 ?_
  | with_reducible refine v_aug15 ?_
  | with_reducible refine v_c ?_
  | with_reducible refine v_op ?_
  | with_reducible refine v_cons ?_
  | with_reducible refine v_nil ?_
  | with_reducible refine v_cb ?_
  | with_reducible refine v_call ?_
  | with_reducible refine c_test ?_
  | with_reducible refine c_bl ?_
  | with_reducible refine c_and ?_
  | with_reducible refine c_or ?_
  | with_reducible refine c_not ?_
  | with_reducible refine v_augS ?_
  | with_reducible refine v_sub ?_
  | with_reducible refine add_ii ?_
  | with_reducible refine sub_ii ?_
  | with_reducible refine iadd_ii ?_
  | with_reducible refine lt_ii ?_
  | with_reducible refine le_ii ?_
  | with_reducible refine gt_ii ?_
  | with_reducible refine ge_ii ?_
  | with_reducible refine eq_ii ?_
  | with_reducible refine ne_ii ?_
  | with_reducible refine int_i ?_
  | with_reducible refine abs_i ?_
  | with_reducible refine max_i ?_
  | with_reducible refine min_i ?_
  | with_reducible refine mul_r (by omega) (by omega) ?_
  | with_reducible refine mul_l (by omega) (by omega) ?_
  | with_reducible refine ix_m0 (by assumption) ?_
  | with_reducible refine get_m0 (by assumption) ?_
  | with_reducible refine ix_m1 (by assumption) ?_
  | with_reducible refine get_m1 (by assumption) ?_
  | with_reducible refine ix_m2 (by assumption) ?_
  | with_reducible refine get_m2 (by assumption) ?_
  | with_reducible refine ix_m3 (by assumption) ?_
  | with_reducible refine get_m3 (by assumption) ?_
  | with_reducible refine ix_m4 (by assumption) ?_
  | with_reducible refine get_m4 (by assumption) ?_
  | with_reducible refine ix_m5 (by assumption) ?_
  | with_reducible refine get_m5 (by assumption) ?_
  | (with_reducible refine st_set1 (by assumption) (by assumption) ?_; intro H1 hs1 kp1)
  | (with_reducible refine st_set2 (by assumption) (by assumption) ?_; intro H1 hs1 kp1)
  | (with_reducible refine st_set3 (by assumption) (by assumption) ?_; intro H1 hs1 kp1)
  | (with_reducible refine st_set4 (by assumption) (by assumption) ?_; intro H1 hs1 kp1)
  | (with_reducible refine st_set5 (by assumption) (by assumption) ?_; intro H1 hs1 kp1)
  | with_reducible refine len_m (by assumption) ?_
  | with_reducible refine s_for1 ?_
  | with_reducible refine s_forL ?_
  | with_reducible refine rng1 (by omega) (by omega) ?_
  | with_reducible refine s_next ?_
  | with_reducible refine s_break ?_
  | with_reducible refine s_cont ?_
  | with_reducible refine isi_non_bool ?_
  | with_reducible refine isi_non_int ?_
  | with_reducible refine isi_non_str ?_
  | with_reducible refine isi_non_list ?_
  | with_reducible refine isi_non_tuple ?_
  | with_reducible refine isi_non_dict ?_
  | with_reducible refine isi_non_seq (by assumption) ?_
  | with_reducible refine isi_bl_bool ?_
  | with_reducible refine isi_bl_int ?_
  | with_reducible refine isi_bl_str ?_
  | with_reducible refine isi_bl_list ?_
  | with_reducible refine isi_bl_tuple ?_
  | with_reducible refine isi_bl_dict ?_
  | with_reducible refine isi_bl_seq (by assumption) ?_
  | with_reducible refine isi_int_bool ?_
  | with_reducible refine isi_int_int ?_
  | with_reducible refine isi_int_str ?_
  | with_reducible refine isi_int_list ?_
  | with_reducible refine isi_int_tuple ?_
  | with_reducible refine isi_int_dict ?_
  | with_reducible refine isi_int_seq (by assumption) ?_
  | with_reducible refine isi_str_bool ?_
  | with_reducible refine isi_str_int ?_
  | with_reducible refine isi_str_str ?_
  | with_reducible refine isi_str_list ?_
  | with_reducible refine isi_str_tuple ?_
  | with_reducible refine isi_str_dict ?_
  | with_reducible refine isi_str_seq (by assumption) ?_
  | with_reducible refine isi_lst_bool (by assumption) (by assumption) ?_
  | with_reducible refine isi_lst_int (by assumption) (by assumption) ?_
  | with_reducible refine isi_lst_str (by assumption) (by assumption) ?_
  | with_reducible refine isi_lst_list (by assumption) (by assumption) ?_
  | with_reducible refine isi_lst_tuple (by assumption) (by assumption) ?_
  | with_reducible refine isi_lst_dict (by assumption) (by assumption) ?_
  | with_reducible refine isi_lst_seq (by assumption) (by assumption) (by assumption) ?_
  | with_reducible refine isi_tup_bool (by assumption) (by assumption) ?_
  | with_reducible refine isi_tup_int (by assumption) (by assumption) ?_
  | with_reducible refine isi_tup_str (by assumption) (by assumption) ?_
  | with_reducible refine isi_tup_list (by assumption) (by assumption) ?_
  | with_reducible refine isi_tup_tuple (by assumption) (by assumption) ?_
  | with_reducible refine isi_tup_dict (by assumption) (by assumption) ?_
  | with_reducible refine isi_tup_seq (by assumption) (by assumption) (by assumption) ?_
  | with_reducible refine isi_dK_bool (by assumption) (by assumption) ?_
  | with_reducible refine isi_dK_int (by assumption) (by assumption) ?_
  | with_reducible refine isi_dK_str (by assumption) (by assumption) ?_
  | with_reducible refine isi_dK_list (by assumption) (by assumption) ?_
  | with_reducible refine isi_dK_tuple (by assumption) (by assumption) ?_
  | with_reducible refine isi_dK_dict (by assumption) (by assumption) ?_
  | with_reducible refine isi_dK_seq (by assumption) (by assumption) (by assumption) ?_
  | with_reducible refine eq_bb ?_
  | with_reducible refine eq_ss ?_
  | with_reducible refine ev_isN ?_
  | with_reducible refine ev_tB ?_
  | with_reducible refine ev_and ?_
  | with_reducible refine ev_or ?_
  | with_reducible refine ev_not ?_
  | with_reducible refine c_tru ?_
  | with_reducible refine tru_bl ?_
  | with_reducible refine if_nt ?_
  | with_reducible refine if_nf ?_
  | with_reducible refine tup_new ?_
  | with_reducible refine lst_new ?_
  | with_reducible refine len_ms (by assumption) (by assumption) ?_
  | with_reducible refine len_ts (by assumption) (by assumption) ?_
  | ((with_reducible refine lit_len ?_ ?_); (focus (first | decide | (simp; done) | (simp; omega))))
  | (with_reducible refine new_st (by assumption) (by assumption) ?_; intro q1 H1 hq1 he1 hn1 kp1 hS1 sm1)
  | (with_reducible refine new_same (by assumption) ?_; intro q1 H1 hq1 he1 sm1 hs1)
  | with_reducible refine if_dT rfl ?_
  | ((with_reducible refine if_dF ?_ ?_); focus (intro z; cases z; done))
  | with_reducible refine if_t ?_
  | with_reducible refine if_f ?_
  | ((with_reducible refine c_take (by assumption) (by assumption) ?_ ?_); (focus omega); intro r1 H1 hS1 kp1 h01 h11)
  | with_reducible refine ev_chain ?_
  | ((with_reducible refine c_number (by assumption) (by assumption) ?_ ?_); (focus omega); intro r1 H1 hS1 kp1 h01 h11)
  | ((with_reducible refine c_pick (by assumption) (by assumption) (by assumption) (by assumption) ?_ ?_); (focus (simp; done)); intro r1 H1 hS1 kp1 kk1 h01))
local macro_rules | `(tactic| walk_at "go") => `(tactic| repeat' (first | walk_at "nw" | ((with_reducible refine if_d ?_ ?_) <;> intro c1) | ((with_reducible refine if_nd ?_ ?_) <;> intro c1)))
end NW
namespace NW
open PySem PySem.Spec PyProof.Rows L2
open C8 (tCut pss_cut)
local macro_rules | `(tactic| walk_at "nw") => `(tactic| first
  | with_reducible refine s_seq ?_
  | with_reducible refine s_asg ?_
  | with_reducible refine s_if ?_
  | with_reducible refine s_ret ?_
  | with_reducible refine s_drop ?_
  | with_reducible refine v_var0 ?_
  | with_reducible refine s_name0 ?_
  | with_reducible refine v_aug0 ?_
  | with_reducible refine v_var1 ?_
  | with_reducible refine s_name1 ?_
  | with_reducible refine v_aug1 ?_
  | with_reducible refine v_var2 ?_
  | with_reducible refine s_name2 ?_
  | with_reducible refine v_aug2 ?_
  | with_reducible refine v_var3 ?_
  | with_reducible refine s_name3 ?_
  | with_reducible refine v_aug3 ?_
  | with_reducible refine v_var4 ?_
  | with_reducible refine s_name4 ?_
  | with_reducible refine v_aug4 ?_
  | with_reducible refine v_var5 ?_
  | with_reducible refine s_name5 ?_
  | with_reducible refine v_aug5 ?_
  | with_reducible refine v_var6 ?_
  | with_reducible refine s_name6 ?_
  | with_reducible refine v_aug6 ?_
  | with_reducible refine v_var7 ?_
  | with_reducible refine s_name7 ?_
  | with_reducible refine v_aug7 ?_
  | with_reducible refine v_var8 ?_
  | with_reducible refine s_name8 ?_
  | with_reducible refine v_aug8 ?_
  | with_reducible refine v_var9 ?_
  | with_reducible refine s_name9 ?_
  | with_reducible refine v_aug9 ?_
  | with_reducible refine v_var10 ?_
  | with_reducible refine s_name10 ?_
  | with_reducible refine v_aug10 ?_
  | with_reducible refine v_var11 ?_
  | with_reducible refine s_name11 ?_
  | with_reducible refine v_aug11 ?_
  | with_reducible refine v_var12 ?_
  | with_reducible refine s_name12 ?_
  | with_reducible refine v_aug12 ?_
  | with_reducible refine v_var13 ?_
  | with_reducible refine s_name13 ?_
  | with_reducible refine v_aug13 ?_
  | with_reducible refine v_var14 ?_
  | with_reducible refine s_name14 ?_
  | with_reducible refine v_aug14 ?_
  | with_reducible refine v_var15 ?_
  | with_reducible refine s_name15 ?_
  | with_reducible refine v_aug15 ?_
  | with_reducible refine v_c ?_
  | with_reducible refine v_op ?_
  | with_reducible refine v_cons ?_
  | with_reducible refine v_nil ?_
  | with_reducible refine v_cb ?_
  | with_reducible refine v_call ?_
  | with_reducible refine c_test ?_
  | with_reducible refine c_bl ?_
  | with_reducible refine c_and ?_
  | with_reducible refine c_or ?_
  | with_reducible refine c_not ?_
  | with_reducible refine v_augS ?_
  | with_reducible refine v_sub ?_
  | with_reducible refine add_ii ?_
  | with_reducible refine sub_ii ?_
  | with_reducible refine iadd_ii ?_
  | with_reducible refine lt_ii ?_
  | with_reducible refine le_ii ?_
  | with_reducible refine gt_ii ?_
  | with_reducible refine ge_ii ?_
  | with_reducible refine eq_ii ?_
  | with_reducible refine ne_ii ?_
  | with_reducible refine int_i ?_
  | with_reducible refine abs_i ?_
  | with_reducible refine max_i ?_
  | with_reducible refine min_i ?_
  | with_reducible refine mul_r (by omega) (by omega) ?_
  | with_reducible refine mul_l (by omega) (by omega) ?_
  | with_reducible refine ix_m0 (by assumption) ?_
  | with_reducible refine get_m0 (by assumption) ?_
  | with_reducible refine ix_m1 (by assumption) ?_
  | with_reducible refine get_m1 (by assumption) ?_
  | with_reducible refine ix_m2 (by assumption) ?_
  | with_reducible refine get_m2 (by assumption) ?_
  | with_reducible refine ix_m3 (by assumption) ?_
  | with_reducible refine get_m3 (by assumption) ?_
  | with_reducible refine ix_m4 (by assumption) ?_
  | with_reducible refine get_m4 (by assumption) ?_
  | with_reducible refine ix_m5 (by assumption) ?_
  | with_reducible refine get_m5 (by assumption) ?_
  | (with_reducible refine st_set1 (by assumption) (by assumption) ?_; intro H1 hs1 kp1)
  | (with_reducible refine st_set2 (by assumption) (by assumption) ?_; intro H1 hs1 kp1)
  | (with_reducible refine st_set3 (by assumption) (by assumption) ?_; intro H1 hs1 kp1)
  | (with_reducible refine st_set4 (by assumption) (by assumption) ?_; intro H1 hs1 kp1)
  | (with_reducible refine st_set5 (by assumption) (by assumption) ?_; intro H1 hs1 kp1)
  | with_reducible refine len_m (by assumption) ?_
  | with_reducible refine s_for1 ?_
  | with_reducible refine s_forL ?_
  | with_reducible refine rng1 (by omega) (by omega) ?_
  | with_reducible refine s_next ?_
  | with_reducible refine s_break ?_
  | with_reducible refine s_cont ?_
  | with_reducible refine isi_non_bool ?_
  | with_reducible refine isi_non_int ?_
  | with_reducible refine isi_non_str ?_
  | with_reducible refine isi_non_list ?_
  | with_reducible refine isi_non_tuple ?_
  | with_reducible refine isi_non_dict ?_
  | with_reducible refine isi_non_seq (by assumption) ?_
  | with_reducible refine isi_bl_bool ?_
  | with_reducible refine isi_bl_int ?_
  | with_reducible refine isi_bl_str ?_
  | with_reducible refine isi_bl_list ?_
  | with_reducible refine isi_bl_tuple ?_
  | with_reducible refine isi_bl_dict ?_
  | with_reducible refine isi_bl_seq (by assumption) ?_
  | with_reducible refine isi_int_bool ?_
  | with_reducible refine isi_int_int ?_
  | with_reducible refine isi_int_str ?_
  | with_reducible refine isi_int_list ?_
  | with_reducible refine isi_int_tuple ?_
  | with_reducible refine isi_int_dict ?_
  | with_reducible refine isi_int_seq (by assumption) ?_
  | with_reducible refine isi_str_bool ?_
  | with_reducible refine isi_str_int ?_
  | with_reducible refine isi_str_str ?_
  | with_reducible refine isi_str_list ?_
  | with_reducible refine isi_str_tuple ?_
  | with_reducible refine isi_str_dict ?_
  | with_reducible refine isi_str_seq (by assumption) ?_
  | with_reducible refine isi_lst_bool (by assumption) (by assumption) ?_
  | with_reducible refine isi_lst_int (by assumption) (by assumption) ?_
  | with_reducible refine isi_lst_str (by assumption) (by assumption) ?_
  | with_reducible refine isi_lst_list (by assumption) (by assumption) ?_
  | with_reducible refine isi_lst_tuple (by assumption) (by assumption) ?_
  | with_reducible refine isi_lst_dict (by assumption) (by assumption) ?_
  | with_reducible refine isi_lst_seq (by assumption) (by assumption) (by assumption) ?_
  | with_reducible refine isi_tup_bool (by assumption) (by assumption) ?_
  | with_reducible refine isi_tup_int (by assumption) (by assumption) ?_
  | with_reducible refine isi_tup_str (by assumption) (by assumption) ?_
  | with_reducible refine isi_tup_list (by assumption) (by assumption) ?_
  | with_reducible refine isi_tup_tuple (by assumption) (by assumption) ?_
  | with_reducible refine isi_tup_dict (by assumption) (by assumption) ?_
  | with_reducible refine isi_tup_seq (by assumption) (by assumption) (by assumption) ?_
  | with_reducible refine isi_dK_bool (by assumption) (by assumption) ?_
  | with_reducible refine isi_dK_int (by assumption) (by assumption) ?_
  | with_reducible refine isi_dK_str (by assumption) (by assumption) ?_
  | with_reducible refine isi_dK_list (by assumption) (by assumption) ?_
  | with_reducible refine isi_dK_tuple (by assumption) (by assumption) ?_
  | with_reducible refine isi_dK_dict (by assumption) (by assumption) ?_
  | with_reducible refine isi_dK_seq (by assumption) (by assumption) (by assumption) ?_
  | with_reducible refine eq_bb ?_
  | with_reducible refine eq_ss ?_
  | with_reducible refine ev_isN ?_
  | with_reducible refine ev_tB ?_
  | with_reducible refine ev_and ?_
  | with_reducible refine ev_or ?_
  | with_reducible refine ev_not ?_
  | with_reducible refine c_tru ?_
  | with_reducible refine tru_bl ?_
  | with_reducible refine if_nt ?_
  | with_reducible refine if_nf ?_
  | with_reducible refine tup_new ?_
  | with_reducible refine lst_new ?_
  | with_reducible refine len_ms (by assumption) (by assumption) ?_
  | with_reducible refine len_ts (by assumption) (by assumption) ?_
  | ((with_reducible refine lit_len ?_ ?_); (focus (first | decide | (simp; done) | (simp; omega))))
  | (with_reducible refine new_st (by assumption) (by assumption) ?_; intro q1 H1 hq1 he1 hn1 kp1 hS1 sm1)
  | (with_reducible refine new_same (by assumption) ?_; intro q1 H1 hq1 he1 sm1 hs1)
  | with_reducible refine if_dT rfl ?_
  | ((with_reducible refine if_dF ?_ ?_); focus (intro z; cases z; done))
  | with_reducible refine if_t ?_
  | with_reducible refine if_f ?_
  | ((with_reducible refine c_take (by assumption) (by assumption) ?_ ?_); (focus omega); intro r1 H1 hS1 kp1 h01 h11)
  | with_reducible refine ev_chain ?_
  | ((with_reducible refine c_number (by assumption) (by assumption) ?_ ?_); (focus omega); intro r1 H1 hS1 kp1 h01 h11)
  | ((with_reducible refine c_pick (by assumption) (by assumption) (by assumption) (by assumption) ?_ ?_); (focus (simp; done)); intro r1 H1 hS1 kp1 kk1 h01)
  | with_reducible refine v_bm ?_
  | with_reducible refine v_sl ?_
  | with_reducible refine s_lc1 ?_
  | with_reducible refine s_lcL ?_
  | (with_reducible refine lc_kept ?_ rfl)
  | with_reducible refine c_yes ?_
  | with_reducible refine v_nopart ?_
  | with_reducible refine v_part ?_
  | with_reducible refine part_i ?_
  | with_reducible refine ty_l (by assumption) ?_)
local macro_rules | `(tactic| walk_at "go") => `(tactic| repeat' (first | walk_at "nw" | ((with_reducible refine if_d ?_ ?_) <;> intro c1) | ((with_reducible refine if_nd ?_ ?_) <;> intro c1)))
def sp_store (K : PySem.W.Frag) : Sp := fun vs H Q _ => ∃ (p : Addr) (ns : List Int), vs = [.ref p] ∧ SqL K H p (ns.map V.int) ∧ ∀ (st : Addr) (H' : Hp), Sto H' st → Same H H' → H st = none → Q (.ref st) H'
def t_store (K : PySem.W.Frag) : TS :=
  (tRet (tLst (tCons (tCB (aList K) (tCons (tVar 0) tNil)) (tCons (tC (.int 0)) (tCons (tC (.int 0)) (tCons (tC (.int 0)) (tCons (tC (.int 1)) (tCons (tC (.int 0)) tNil))))))))
theorem l_store (K : PySem.W.Frag) : ∀ vs H Q E, sp_store K vs H Q E → vs.length = 1 := fun _ _ _ _ ⟨_, _, e, _⟩ => by rw [e]; rfl
theorem p_store (K : PySem.W.Frag) (vs : List V) (H : Hp) (Q : VK) (E : XK) (h : sp_store K vs H Q E) : t_store K { nx := fun _ H' => Q .non H', rt := Q } (start ["script"] vs) H := by
  obtain ⟨p, ns, ev, hp, q⟩ := h
  subst ev
  show t_store K _ [some (.ref p)] H
  have hs := Same.refl H
  unfold t_store
  repeat walk_at "nw"
  refine list_l hp ?_
  repeat walk_at "nw"
  rename_i c H1 g1 e1 s1 s01 st H2 g2 e2 s2 s02
  refine q st H2 ⟨c, ns, 0, 0, 0, 1, 0, e2, s2 _ _ e1, by decide⟩ s02 ?_
  cases hst : H st with
  | none => rfl
  | some o => rw [s01 _ _ hst] at g2; cases g2
def sp_row_of : Sp := fun vs H Q _ => ∃ (st row : Addr) (xs : List V), vs = [.ref st, .ref row] ∧ Sto H st ∧ H row = some (.lst xs) ∧ row ≠ st ∧ ∀ (p : Addr) (H' : Hp), Sto H' st → Keep st H H' → p ≠ st → (H' p = some (.lst xs) ∨ H' p = some (.tup xs)) → Q (.ref p) H'
theorem l_row_of : ∀ vs H Q E, sp_row_of vs H Q E → vs.length = 2 := fun _ _ _ _ ⟨_, _, _, e, _⟩ => by rw [e]; rfl
def sp_put : Sp := fun vs H Q _ => ∃ (row : Addr) (xs : List V) (k : Nat) (x : V), vs = [.ref row, .int (k : Int), x] ∧ H row = some (.lst xs) ∧ k ≤ xs.length ∧ xs.length ≤ 100000 ∧ ∀ (p : Addr) (H' : Hp), Same H H' → H p = none → H' p = some (.lst (xs.take k ++ [x] ++ xs.drop k)) → Q (.ref p) H'
theorem l_put : ∀ vs H Q E, sp_put vs H Q E → vs.length = 3 := fun _ _ _ _ ⟨_, _, _, _, e, _⟩ => by rw [e]; rfl
end NW
namespace NW
open PySem PySem.Spec PyProof.Rows L2
open C8 (tCut pss_cut)
local macro_rules | `(tactic| walk_at "nw") => `(tactic| first
  | with_reducible refine s_seq ?_
  | with_reducible refine s_asg ?_
  | with_reducible refine s_if ?_
  | with_reducible refine s_ret ?_
  | with_reducible refine s_drop ?_
  | with_reducible refine v_var0 ?_
  | with_reducible refine s_name0 ?_
  | with_reducible refine v_aug0 ?_
  | with_reducible refine v_var1 ?_
  | with_reducible refine s_name1 ?_
  | with_reducible refine v_aug1 ?_
  | with_reducible refine v_var2 ?_
  | with_reducible refine s_name2 ?_
  | with_reducible refine v_aug2 ?_
  | with_reducible refine v_var3 ?_
  | with_reducible refine s_name3 ?_
  | with_reducible refine v_aug3 ?_
  | with_reducible refine v_var4 ?_
  | with_reducible refine s_name4 ?_
  | with_reducible refine v_aug4 ?_
  | with_reducible refine v_var5 ?_
  | with_reducible refine s_name5 ?_
  | with_reducible refine v_aug5 ?_
  | with_reducible refine v_var6 ?_
  | with_reducible refine s_name6 ?_
  | with_reducible refine v_aug6 ?_
  | with_reducible refine v_var7 ?_
  | with_reducible refine s_name7 ?_
  | with_reducible refine v_aug7 ?_
  | with_reducible refine v_var8 ?_
  | with_reducible refine s_name8 ?_
  | with_reducible refine v_aug8 ?_
  | with_reducible refine v_var9 ?_
  | with_reducible refine s_name9 ?_
  | with_reducible refine v_aug9 ?_
  | with_reducible refine v_var10 ?_
  | with_reducible refine s_name10 ?_
  | with_reducible refine v_aug10 ?_
  | with_reducible refine v_var11 ?_
  | with_reducible refine s_name11 ?_
  | with_reducible refine v_aug11 ?_
  | with_reducible refine v_var12 ?_
  | with_reducible refine s_name12 ?_
  | with_reducible refine v_aug12 ?_
  | with_reducible refine v_var13 ?_
  | with_reducible refine s_name13 ?_
  | with_reducible refine v_aug13 ?_
  | with_reducible refine v_var14 ?_
  | with_reducible refine s_name14 ?_
  | with_reducible refine v_aug14 ?_
  | with_reducible refine v_var15 ?_
  | with_reducible refine s_name15 ?_
  | with_reducible refine v_aug15 ?_
  | with_reducible refine v_c ?_
  | with_reducible refine v_op ?_
  | with_reducible refine v_cons ?_
  | with_reducible refine v_nil ?_
  | with_reducible refine v_cb ?_
  | with_reducible refine v_call ?_
  | with_reducible refine c_test ?_
  | with_reducible refine c_bl ?_
  | with_reducible refine c_and ?_
  | with_reducible refine c_or ?_
  | with_reducible refine c_not ?_
  | with_reducible refine v_augS ?_
  | with_reducible refine v_sub ?_
  | with_reducible refine add_ii ?_
  | with_reducible refine sub_ii ?_
  | with_reducible refine iadd_ii ?_
  | with_reducible refine lt_ii ?_
  | with_reducible refine le_ii ?_
  | with_reducible refine gt_ii ?_
  | with_reducible refine ge_ii ?_
  | with_reducible refine eq_ii ?_
  | with_reducible refine ne_ii ?_
  | with_reducible refine int_i ?_
  | with_reducible refine abs_i ?_
  | with_reducible refine max_i ?_
  | with_reducible refine min_i ?_
  | with_reducible refine mul_r (by omega) (by omega) ?_
  | with_reducible refine mul_l (by omega) (by omega) ?_
  | with_reducible refine ix_m0 (by assumption) ?_
  | with_reducible refine get_m0 (by assumption) ?_
  | with_reducible refine ix_m1 (by assumption) ?_
  | with_reducible refine get_m1 (by assumption) ?_
  | with_reducible refine ix_m2 (by assumption) ?_
  | with_reducible refine get_m2 (by assumption) ?_
  | with_reducible refine ix_m3 (by assumption) ?_
  | with_reducible refine get_m3 (by assumption) ?_
  | with_reducible refine ix_m4 (by assumption) ?_
  | with_reducible refine get_m4 (by assumption) ?_
  | with_reducible refine ix_m5 (by assumption) ?_
  | with_reducible refine get_m5 (by assumption) ?_
  | (with_reducible refine st_set1 (by assumption) (by assumption) ?_; intro H1 hs1 kp1)
  | (with_reducible refine st_set2 (by assumption) (by assumption) ?_; intro H1 hs1 kp1)
  | (with_reducible refine st_set3 (by assumption) (by assumption) ?_; intro H1 hs1 kp1)
  | (with_reducible refine st_set4 (by assumption) (by assumption) ?_; intro H1 hs1 kp1)
  | (with_reducible refine st_set5 (by assumption) (by assumption) ?_; intro H1 hs1 kp1)
  | with_reducible refine len_m (by assumption) ?_
  | with_reducible refine s_for1 ?_
  | with_reducible refine s_forL ?_
  | with_reducible refine rng1 (by omega) (by omega) ?_
  | with_reducible refine s_next ?_
  | with_reducible refine s_break ?_
  | with_reducible refine s_cont ?_
  | with_reducible refine isi_non_bool ?_
  | with_reducible refine isi_non_int ?_
  | with_reducible refine isi_non_str ?_
  | with_reducible refine isi_non_list ?_
  | with_reducible refine isi_non_tuple ?_
  | with_reducible refine isi_non_dict ?_
  | with_reducible refine isi_non_seq (by assumption) ?_
  | with_reducible refine isi_bl_bool ?_
  | with_reducible refine isi_bl_int ?_
  | with_reducible refine isi_bl_str ?_
  | with_reducible refine isi_bl_list ?_
  | with_reducible refine isi_bl_tuple ?_
  | with_reducible refine isi_bl_dict ?_
  | with_reducible refine isi_bl_seq (by assumption) ?_
  | with_reducible refine isi_int_bool ?_
  | with_reducible refine isi_int_int ?_
  | with_reducible refine isi_int_str ?_
  | with_reducible refine isi_int_list ?_
  | with_reducible refine isi_int_tuple ?_
  | with_reducible refine isi_int_dict ?_
  | with_reducible refine isi_int_seq (by assumption) ?_
  | with_reducible refine isi_str_bool ?_
  | with_reducible refine isi_str_int ?_
  | with_reducible refine isi_str_str ?_
  | with_reducible refine isi_str_list ?_
  | with_reducible refine isi_str_tuple ?_
  | with_reducible refine isi_str_dict ?_
  | with_reducible refine isi_str_seq (by assumption) ?_
  | with_reducible refine isi_lst_bool (by assumption) (by assumption) ?_
  | with_reducible refine isi_lst_int (by assumption) (by assumption) ?_
  | with_reducible refine isi_lst_str (by assumption) (by assumption) ?_
  | with_reducible refine isi_lst_list (by assumption) (by assumption) ?_
  | with_reducible refine isi_lst_tuple (by assumption) (by assumption) ?_
  | with_reducible refine isi_lst_dict (by assumption) (by assumption) ?_
  | with_reducible refine isi_lst_seq (by assumption) (by assumption) (by assumption) ?_
  | with_reducible refine isi_tup_bool (by assumption) (by assumption) ?_
  | with_reducible refine isi_tup_int (by assumption) (by assumption) ?_
  | with_reducible refine isi_tup_str (by assumption) (by assumption) ?_
  | with_reducible refine isi_tup_list (by assumption) (by assumption) ?_
  | with_reducible refine isi_tup_tuple (by assumption) (by assumption) ?_
  | with_reducible refine isi_tup_dict (by assumption) (by assumption) ?_
  | with_reducible refine isi_tup_seq (by assumption) (by assumption) (by assumption) ?_
  | with_reducible refine isi_dK_bool (by assumption) (by assumption) ?_
  | with_reducible refine isi_dK_int (by assumption) (by assumption) ?_
  | with_reducible refine isi_dK_str (by assumption) (by assumption) ?_
  | with_reducible refine isi_dK_list (by assumption) (by assumption) ?_
  | with_reducible refine isi_dK_tuple (by assumption) (by assumption) ?_
  | with_reducible refine isi_dK_dict (by assumption) (by assumption) ?_
  | with_reducible refine isi_dK_seq (by assumption) (by assumption) (by assumption) ?_
  | with_reducible refine eq_bb ?_
  | with_reducible refine eq_ss ?_
  | with_reducible refine ev_isN ?_
  | with_reducible refine ev_tB ?_
  | with_reducible refine ev_and ?_
  | with_reducible refine ev_or ?_
  | with_reducible refine ev_not ?_
  | with_reducible refine c_tru ?_
  | with_reducible refine tru_bl ?_
  | with_reducible refine if_nt ?_
  | with_reducible refine if_nf ?_
  | with_reducible refine tup_new ?_
  | with_reducible refine lst_new ?_
  | with_reducible refine len_ms (by assumption) (by assumption) ?_
  | with_reducible refine len_ts (by assumption) (by assumption) ?_
  | ((with_reducible refine lit_len ?_ ?_); (focus (first | decide | (simp; done) | (simp; omega))))
  | (with_reducible refine new_st (by assumption) (by assumption) ?_; intro q1 H1 hq1 he1 hn1 kp1 hS1 sm1)
  | (with_reducible refine new_same (by assumption) ?_; intro q1 H1 hq1 he1 sm1 hs1)
  | with_reducible refine if_dT rfl ?_
  | ((with_reducible refine if_dF ?_ ?_); focus (intro z; cases z; done))
  | with_reducible refine if_t ?_
  | with_reducible refine if_f ?_
  | ((with_reducible refine c_take (by assumption) (by assumption) ?_ ?_); (focus omega); intro r1 H1 hS1 kp1 h01 h11)
  | with_reducible refine ev_chain ?_
  | ((with_reducible refine c_number (by assumption) (by assumption) ?_ ?_); (focus omega); intro r1 H1 hS1 kp1 h01 h11)
  | ((with_reducible refine c_pick (by assumption) (by assumption) (by assumption) (by assumption) ?_ ?_); (focus (simp; done)); intro r1 H1 hS1 kp1 kk1 h01)
  | with_reducible refine v_bm ?_
  | with_reducible refine v_sl ?_
  | with_reducible refine s_lc1 ?_
  | with_reducible refine s_lcL ?_
  | (with_reducible refine lc_kept ?_ rfl)
  | with_reducible refine c_yes ?_
  | with_reducible refine v_nopart ?_
  | with_reducible refine v_part ?_
  | with_reducible refine part_i ?_
  | with_reducible refine ty_l (by assumption) ?_)
local macro_rules | `(tactic| walk_at "go") => `(tactic| repeat' (first | walk_at "nw" | ((with_reducible refine if_d ?_ ?_) <;> intro c1) | ((with_reducible refine if_nd ?_ ?_) <;> intro c1)))
def sp_shuffled : Sp := fun vs H Q _ => ∃ (st row : Addr) (xs : List V), vs = [.ref st, .ref row] ∧ Sto H st ∧ H row = some (.lst xs) ∧ row ≠ st ∧ xs.length ≤ 100000 ∧ ∀ (p : Addr) (H' : Hp) (ys : List V), Sto H' st → Keep st H H' → p ≠ st → H' p = some (.lst ys) → ys.Perm xs → Q (.ref p) H'
theorem l_shuffled : ∀ vs H Q E, sp_shuffled vs H Q E → vs.length = 2 := fun _ _ _ _ ⟨_, _, _, e, _⟩ => by rw [e]; rfl
end NW
namespace NW
open PySem PySem.Spec PyProof.Rows L2
open C8 (tCut pss_cut)
def LT (H : Hp) (p : Addr) (xs : List V) : Prop := H p = some (.lst xs) ∨ H p = some (.tup xs)
theorem LT.mono {H H' : Hp} {p : Addr} {xs : List V} (s : Same H H') (h : LT H p xs) : LT H' p xs := h.elim (fun z => .inl (s _ _ z)) fun z => .inr (s _ _ z)
def iSeq (K : PySem.W.Frag) (tl : TE) : TI := fun σ H R => iList K tl σ H R ∨ iTup K tl σ H R
theorem pi_seq {X : Cx} {tg l : Expr} {tl : TE} (hl : PE X l tl) : PI X tg l (iSeq X.K tl) :=
  ⟨fun pins s σ H R I h => h.elim (fun z => (pi_list hl).run pins s σ H R I z) fun z => (pi_tup hl).run pins s σ H R I z⟩
section
variable {P : Program} {w : World} {K : PySem.W.Frag} {mg : Str → Option Value} {base : Heap} {x qual : Str} {params : Arguments} {body : List Stmt} {scope : Scope} {f : Addr} {N ps : List Str} {k : Nat} {sp : Sp}
theorem has_ofX {t : XK → TS} (g : mg x = some (.ref f)) (F : ∃ fd, FunD K x x params body scope [] [] f fd) (S : FnScope N ps scope) (len : ∀ vs H Q E, sp vs H Q E → vs.length = ps.length)
    (bn : ∀ (kV doc pm : Value) (an : Option Addr) (cdv ct : Value) (us : List Value), us.length = ps.length → bindArgs (PySem.W.fnOf x x params body scope .none kV doc pm an cdv ct) ⟨us, []⟩ = pure (ps.zip us))
    (d : ∀ (cdv : Value) (A : Around) (outer : List Env) (s : Shared) (H : Hp) (E : XK), Room k (A.deeper (envOfC x scope s.heap.objs.size f cdv)) →
      L2N.Takes (cxOf (L2N.CX P w) P w K mg base N x scope f cdv A outer s H E) (fun cls d _ H => E cls d H) → PSs (cxOf (L2N.CX P w) P w K mg base N x scope f cdv A outer s H E) body (t E))
    (pure_ : ∀ vs H Q E, sp vs H Q E → t E { nx := fun _ H' => Q .non H', rt := Q } (start N vs) H) : Has P w K mg base x (k + 1) ps sp := by
  obtain ⟨fd, F⟩ := F
  exact ⟨f, fd, g, F.kp, F.bindsN bn, F.ok S len fun cdv A outer s H vs Q E hr h => ⟨t E, d cdv A outer s H E hr (L2N.takes_of rfl rfl rfl rfl), pure_ vs H Q E h⟩⟩
/-- C's own __init__ keeps sp -/
structure InitOk (P : Program) (w : World) (K : PySem.W.Frag) (mg : Str → Option Value) (base : Heap) (C : Addr) (k : Nat) (ps : List Str) (sp : Sp) : Prop where
  o : OexC K C
  ex : ∃ fI fd, PySem.W.findIn K (.ref C) "__init__" = some (some (.ref fI)) ∧ PySem.W.typeIn K (.ref fI) = some (.type "function") ∧ Binds K fd ps [] ∧ FnOk P w K mg base (L2N.CX P w) k fI fd ps sp
/-- what the written part says of such a class: one field -/
structure Err1 (K : PySem.W.Frag) (C : Addr) (q : Str) (fl : Str) (params : Arguments) (body : List Stmt) (scope : Scope) : Prop where
  o : OexC K C
  n : PySem.W.findIn K (.ref C) fl = some none
  ex : ∃ fI fd, PySem.W.findIn K (.ref C) "__init__" = some (some (.ref fI)) ∧ PySem.W.typeIn K (.ref fI) = some (.type "function") ∧ FunD K "__init__" q params body scope [] [] fI fd
def sp_init1 (K : PySem.W.Frag) (C : Addr) (fl : Str) : Sp := fun vs H Q _ => ∃ (a : Addr) (y : V), vs = [.ref a, y] ∧ H a = some (exo a C none) ∧ ∀ dx, H dx = none → dx ≠ a → Q .non (upd (upd H dx (exd dx [(fl, y)])) a (exo a C (some dx)))
theorem init1 {C : Addr} {q fl : Str} (h : Err1 K C q fl params body scope) (S : FnScope (["self", fl] : List Str) (["self", fl] : List Str) scope)
    (bn : ∀ (kV doc pm : Value) (an : Option Addr) (cdv ct : Value) (us : List Value), us.length = 2 → bindArgs (PySem.W.fnOf "__init__" q params body scope .none kV doc pm an cdv ct) ⟨us, []⟩ = pure ((["self", fl] : List Str).zip us))
    (dv : ∀ (fI : Addr) (cdv : Value) (A : Around) (outer : List Env) (s : Shared) (H : Hp) (E : XK), PSs (cxOf (L2N.CX P w) P w K mg base (["self", fl] : List Str) q scope fI cdv A outer s H E) body (tOst K fl (tVar 0) (tVar 1))) : InitOk P w K mg base C 1 (["self", fl] : List Str) (sp_init1 K C fl) := by
  obtain ⟨fI, fd, h1, h2, F⟩ := h.ex
  refine ⟨h.o, fI, fd, h1, h2, F.bindsN bn, F.ok S (fun vs H Q E z => by obtain ⟨_, _, e, _⟩ := z; rw [e]; rfl) fun cdv A outer s H vs Q E hr z => ⟨_, dv fI cdv A outer s H E, ?_⟩⟩
  obtain ⟨a, y, ev, ha, q⟩ := z
  subst ev
  exact ⟨y, rfl, .ref a, rfl, a, C, rfl, h.o, h.n, .inl ⟨ha, fun dx h3 h4 => q dx h3 h4⟩⟩
end
/-- made by its class's name -/
theorem pmk_in {X : Cx} {x : Str} {C : Addr} {k j : Nat} {ps : List Str} {sp : Sp} {e : Expr} {es : List Expr} {ta : TA} {p pos : Pos} (h : InitOk X.prog X.w X.K X.mg X.base C k ps sp) (hm : X.mg x = some (.ref C)) (hr : Room j X.A) (ha : PA X (e :: es) ta) (hk : k + 1 ≤ j := by decide) (hg : Gl X x := by rfl) (hdb : (x == ("__debug__" : Str)) = false := by decide)
    (he : starEach (e :: es) X.env = (false, eval e X.env) :: starEach es X.env := by rfl) (hpl : (backTo pos (starEach es X.env)).any (·.1) = false := by rfl) : L2N.PMk X (.Call (.Name x p) (e :: es) [] pos) (tMkO C sp [] ta) := by
  obtain ⟨fI, fd, h1, h2, hb, F⟩ := h.ex
  exact pmkN h.o h1 h2 F (hr.mono hk) hb passN hg hm ha hdb he hpl
/-- raise C(e): its reading -/
def tRaise (E : XK) (t : L2.St → Hp → XK → Prop) : TS := fun _ σ H => t σ H fun cls d H' => E cls d H'
theorem ps_rs {X : Cx} {E : XK} {e : Expr} {t : L2.St → Hp → XK → Prop} {pos : Pos} (hc : X.calm = true) (tk : L2N.Takes X (fun cls d _ H => E cls d H)) (he : L2N.PMk X e t) : PS X (.Raise (some e) none pos) (tRaise E t) := L2N.ps_raise hc tk he
def MkR (E : XK) (K : PySem.W.Frag) (C : Addr) (fl : Str) (y : V) (H1 : Hp) : Prop := ([y] : List V).length ≤ 1000 ∧ ∀ a, H1 a = none → sp_init1 K C fl (.ref a :: ([y] ++ [])) (upd H1 a (exo a C none))
  (fun v H2 => v = .non ∧ ∃ (d : Addr) (fs : List (Str × V)), H2 a = some (exo a C (some d)) ∧ H2 d = some (exd d fs) ∧ H1 d = none ∧ E (.ref C) (some d) (upd (del H2 a) d (.xd fs))) (fun _ _ _ => False)
theorem s_raise1 {E : XK} {K : PySem.W.Frag} {C : Addr} {fl : Str} {te : TE} {D : Ends} {σ : L2.St} {H : Hp} (h : te σ H fun y H1 => MkR E K C fl y H1) : tRaise E (tMkO C (sp_init1 K C fl) [] (tCons te tNil)) D σ H := h
theorem mk_r {E : XK} {K : PySem.W.Frag} {C : Addr} {fl : Str} {y : V} {H1 : Hp} (hq : ∀ d, H1 d = none → E (.ref C) (some d) (upd H1 d (.xd [(fl, y)]))) : MkR E K C fl y H1 := by
  refine ⟨by show 1 ≤ 1000; decide, fun a ha => ⟨a, y, rfl, upd_same, fun dx hdx hne => ⟨rfl, dx, [(fl, y)], upd_same, ?_, ?_, ?_⟩⟩⟩
  · rw [upd_ne hne]; exact upd_same
  · rw [upd_ne hne] at hdx; exact hdx
  · rw [upd_ne hne] at hdx
    have z : upd (del (upd (upd (upd H1 a (exo a C none)) dx (exd dx [(fl, y)])) a (exo a C (some dx))) a) dx (.xd [(fl, y)]) = upd H1 dx (.xd [(fl, y)]) := by
      funext b
      by_cases b1 : b = dx
      · subst b1; rw [upd_same, upd_same]
      · rw [upd_ne b1, upd_ne b1]
        by_cases b2 : b = a
        · subst b2; rw [del_same, ha]
        · rw [del_ne b2, upd_ne b2, upd_ne b1, upd_ne b2]
    rw [z]
    exact hq dx hdx
end NW
namespace NW
open PySem PySem.Spec PyProof.Rows L2
open C8 (tCut pss_cut)
local macro_rules | `(tactic| walk_at "nw") => `(tactic| first
  | with_reducible refine s_seq ?_
  | with_reducible refine s_asg ?_
  | with_reducible refine s_if ?_
  | with_reducible refine s_ret ?_
  | with_reducible refine s_drop ?_
  | with_reducible refine v_var0 ?_
  | with_reducible refine s_name0 ?_
  | with_reducible refine v_aug0 ?_
  | with_reducible refine v_var1 ?_
  | with_reducible refine s_name1 ?_
  | with_reducible refine v_aug1 ?_
  | with_reducible refine v_var2 ?_
  | with_reducible refine s_name2 ?_
  | with_reducible refine v_aug2 ?_
  | with_reducible refine v_var3 ?_
  | with_reducible refine s_name3 ?_
  | with_reducible refine v_aug3 ?_
  | with_reducible refine v_var4 ?_
  | with_reducible refine s_name4 ?_
  | with_reducible refine v_aug4 ?_
  | with_reducible refine v_var5 ?_
  | with_reducible refine s_name5 ?_
  | with_reducible refine v_aug5 ?_
  | with_reducible refine v_var6 ?_
  | with_reducible refine s_name6 ?_
  | with_reducible refine v_aug6 ?_
  | with_reducible refine v_var7 ?_
  | with_reducible refine s_name7 ?_
  | with_reducible refine v_aug7 ?_
  | with_reducible refine v_var8 ?_
  | with_reducible refine s_name8 ?_
  | with_reducible refine v_aug8 ?_
  | with_reducible refine v_var9 ?_
  | with_reducible refine s_name9 ?_
  | with_reducible refine v_aug9 ?_
  | with_reducible refine v_var10 ?_
  | with_reducible refine s_name10 ?_
  | with_reducible refine v_aug10 ?_
  | with_reducible refine v_var11 ?_
  | with_reducible refine s_name11 ?_
  | with_reducible refine v_aug11 ?_
  | with_reducible refine v_var12 ?_
  | with_reducible refine s_name12 ?_
  | with_reducible refine v_aug12 ?_
  | with_reducible refine v_var13 ?_
  | with_reducible refine s_name13 ?_
  | with_reducible refine v_aug13 ?_
  | with_reducible refine v_var14 ?_
  | with_reducible refine s_name14 ?_
  | with_reducible refine v_aug14 ?_
  | with_reducible refine v_var15 ?_
  | with_reducible refine s_name15 ?_
  | with_reducible refine v_aug15 ?_
  | with_reducible refine v_c ?_
  | with_reducible refine v_op ?_
  | with_reducible refine v_cons ?_
  | with_reducible refine v_nil ?_
  | with_reducible refine v_cb ?_
  | with_reducible refine v_call ?_
  | with_reducible refine c_test ?_
  | with_reducible refine c_bl ?_
  | with_reducible refine c_and ?_
  | with_reducible refine c_or ?_
  | with_reducible refine c_not ?_
  | with_reducible refine v_augS ?_
  | with_reducible refine v_sub ?_
  | with_reducible refine add_ii ?_
  | with_reducible refine sub_ii ?_
  | with_reducible refine iadd_ii ?_
  | with_reducible refine lt_ii ?_
  | with_reducible refine le_ii ?_
  | with_reducible refine gt_ii ?_
  | with_reducible refine ge_ii ?_
  | with_reducible refine eq_ii ?_
  | with_reducible refine ne_ii ?_
  | with_reducible refine int_i ?_
  | with_reducible refine abs_i ?_
  | with_reducible refine max_i ?_
  | with_reducible refine min_i ?_
  | with_reducible refine mul_r (by omega) (by omega) ?_
  | with_reducible refine mul_l (by omega) (by omega) ?_
  | with_reducible refine ix_m0 (by assumption) ?_
  | with_reducible refine get_m0 (by assumption) ?_
  | with_reducible refine ix_m1 (by assumption) ?_
  | with_reducible refine get_m1 (by assumption) ?_
  | with_reducible refine ix_m2 (by assumption) ?_
  | with_reducible refine get_m2 (by assumption) ?_
  | with_reducible refine ix_m3 (by assumption) ?_
  | with_reducible refine get_m3 (by assumption) ?_
  | with_reducible refine ix_m4 (by assumption) ?_
  | with_reducible refine get_m4 (by assumption) ?_
  | with_reducible refine ix_m5 (by assumption) ?_
  | with_reducible refine get_m5 (by assumption) ?_
  | (with_reducible refine st_set1 (by assumption) (by assumption) ?_; intro H1 hs1 kp1)
  | (with_reducible refine st_set2 (by assumption) (by assumption) ?_; intro H1 hs1 kp1)
  | (with_reducible refine st_set3 (by assumption) (by assumption) ?_; intro H1 hs1 kp1)
  | (with_reducible refine st_set4 (by assumption) (by assumption) ?_; intro H1 hs1 kp1)
  | (with_reducible refine st_set5 (by assumption) (by assumption) ?_; intro H1 hs1 kp1)
  | with_reducible refine len_m (by assumption) ?_
  | with_reducible refine s_for1 ?_
  | with_reducible refine s_forL ?_
  | with_reducible refine rng1 (by omega) (by omega) ?_
  | with_reducible refine s_next ?_
  | with_reducible refine s_break ?_
  | with_reducible refine s_cont ?_
  | with_reducible refine isi_non_bool ?_
  | with_reducible refine isi_non_int ?_
  | with_reducible refine isi_non_str ?_
  | with_reducible refine isi_non_list ?_
  | with_reducible refine isi_non_tuple ?_
  | with_reducible refine isi_non_dict ?_
  | with_reducible refine isi_non_seq (by assumption) ?_
  | with_reducible refine isi_bl_bool ?_
  | with_reducible refine isi_bl_int ?_
  | with_reducible refine isi_bl_str ?_
  | with_reducible refine isi_bl_list ?_
  | with_reducible refine isi_bl_tuple ?_
  | with_reducible refine isi_bl_dict ?_
  | with_reducible refine isi_bl_seq (by assumption) ?_
  | with_reducible refine isi_int_bool ?_
  | with_reducible refine isi_int_int ?_
  | with_reducible refine isi_int_str ?_
  | with_reducible refine isi_int_list ?_
  | with_reducible refine isi_int_tuple ?_
  | with_reducible refine isi_int_dict ?_
  | with_reducible refine isi_int_seq (by assumption) ?_
  | with_reducible refine isi_str_bool ?_
  | with_reducible refine isi_str_int ?_
  | with_reducible refine isi_str_str ?_
  | with_reducible refine isi_str_list ?_
  | with_reducible refine isi_str_tuple ?_
  | with_reducible refine isi_str_dict ?_
  | with_reducible refine isi_str_seq (by assumption) ?_
  | with_reducible refine isi_lst_bool (by assumption) (by assumption) ?_
  | with_reducible refine isi_lst_int (by assumption) (by assumption) ?_
  | with_reducible refine isi_lst_str (by assumption) (by assumption) ?_
  | with_reducible refine isi_lst_list (by assumption) (by assumption) ?_
  | with_reducible refine isi_lst_tuple (by assumption) (by assumption) ?_
  | with_reducible refine isi_lst_dict (by assumption) (by assumption) ?_
  | with_reducible refine isi_lst_seq (by assumption) (by assumption) (by assumption) ?_
  | with_reducible refine isi_tup_bool (by assumption) (by assumption) ?_
  | with_reducible refine isi_tup_int (by assumption) (by assumption) ?_
  | with_reducible refine isi_tup_str (by assumption) (by assumption) ?_
  | with_reducible refine isi_tup_list (by assumption) (by assumption) ?_
  | with_reducible refine isi_tup_tuple (by assumption) (by assumption) ?_
  | with_reducible refine isi_tup_dict (by assumption) (by assumption) ?_
  | with_reducible refine isi_tup_seq (by assumption) (by assumption) (by assumption) ?_
  | with_reducible refine isi_dK_bool (by assumption) (by assumption) ?_
  | with_reducible refine isi_dK_int (by assumption) (by assumption) ?_
  | with_reducible refine isi_dK_str (by assumption) (by assumption) ?_
  | with_reducible refine isi_dK_list (by assumption) (by assumption) ?_
  | with_reducible refine isi_dK_tuple (by assumption) (by assumption) ?_
  | with_reducible refine isi_dK_dict (by assumption) (by assumption) ?_
  | with_reducible refine isi_dK_seq (by assumption) (by assumption) (by assumption) ?_
  | with_reducible refine eq_bb ?_
  | with_reducible refine eq_ss ?_
  | with_reducible refine ev_isN ?_
  | with_reducible refine ev_tB ?_
  | with_reducible refine ev_and ?_
  | with_reducible refine ev_or ?_
  | with_reducible refine ev_not ?_
  | with_reducible refine c_tru ?_
  | with_reducible refine tru_bl ?_
  | with_reducible refine if_nt ?_
  | with_reducible refine if_nf ?_
  | with_reducible refine tup_new ?_
  | with_reducible refine lst_new ?_
  | with_reducible refine len_ms (by assumption) (by assumption) ?_
  | with_reducible refine len_ts (by assumption) (by assumption) ?_
  | ((with_reducible refine lit_len ?_ ?_); (focus (first | decide | (simp; done) | (simp; omega))))
  | (with_reducible refine new_st (by assumption) (by assumption) ?_; intro q1 H1 hq1 he1 hn1 kp1 hS1 sm1)
  | (with_reducible refine new_same (by assumption) ?_; intro q1 H1 hq1 he1 sm1 hs1)
  | with_reducible refine if_dT rfl ?_
  | ((with_reducible refine if_dF ?_ ?_); focus (intro z; cases z; done))
  | with_reducible refine if_t ?_
  | with_reducible refine if_f ?_
  | ((with_reducible refine c_take (by assumption) (by assumption) ?_ ?_); (focus omega); intro r1 H1 hS1 kp1 h01 h11)
  | with_reducible refine ev_chain ?_
  | ((with_reducible refine c_number (by assumption) (by assumption) ?_ ?_); (focus omega); intro r1 H1 hS1 kp1 h01 h11)
  | ((with_reducible refine c_pick (by assumption) (by assumption) (by assumption) (by assumption) ?_ ?_); (focus (simp; done)); intro r1 H1 hS1 kp1 kk1 h01)
  | with_reducible refine v_bm ?_
  | with_reducible refine v_sl ?_
  | with_reducible refine s_lc1 ?_
  | with_reducible refine s_lcL ?_
  | (with_reducible refine lc_kept ?_ rfl)
  | with_reducible refine c_yes ?_
  | with_reducible refine v_nopart ?_
  | with_reducible refine v_part ?_
  | with_reducible refine part_i ?_
  | with_reducible refine ty_l (by assumption) ?_)
local macro_rules | `(tactic| walk_at "go") => `(tactic| repeat' (first | walk_at "nw" | ((with_reducible refine if_d ?_ ?_) <;> intro c1) | ((with_reducible refine if_nd ?_ ?_) <;> intro c1)))
end NW
namespace NW
open PySem PySem.Spec PyProof.Rows L2
open C8 (tCut pss_cut)
local macro_rules | `(tactic| walk_at "nw") => `(tactic| first
  | with_reducible refine s_seq ?_
  | with_reducible refine s_asg ?_
  | with_reducible refine s_if ?_
  | with_reducible refine s_ret ?_
  | with_reducible refine s_drop ?_
  | with_reducible refine v_var0 ?_
  | with_reducible refine s_name0 ?_
  | with_reducible refine v_aug0 ?_
  | with_reducible refine v_var1 ?_
  | with_reducible refine s_name1 ?_
  | with_reducible refine v_aug1 ?_
  | with_reducible refine v_var2 ?_
  | with_reducible refine s_name2 ?_
  | with_reducible refine v_aug2 ?_
  | with_reducible refine v_var3 ?_
  | with_reducible refine s_name3 ?_
  | with_reducible refine v_aug3 ?_
  | with_reducible refine v_var4 ?_
  | with_reducible refine s_name4 ?_
  | with_reducible refine v_aug4 ?_
  | with_reducible refine v_var5 ?_
  | with_reducible refine s_name5 ?_
  | with_reducible refine v_aug5 ?_
  | with_reducible refine v_var6 ?_
  | with_reducible refine s_name6 ?_
  | with_reducible refine v_aug6 ?_
  | with_reducible refine v_var7 ?_
  | with_reducible refine s_name7 ?_
  | with_reducible refine v_aug7 ?_
  | with_reducible refine v_var8 ?_
  | with_reducible refine s_name8 ?_
  | with_reducible refine v_aug8 ?_
  | with_reducible refine v_var9 ?_
  | with_reducible refine s_name9 ?_
  | with_reducible refine v_aug9 ?_
  | with_reducible refine v_var10 ?_
  | with_reducible refine s_name10 ?_
  | with_reducible refine v_aug10 ?_
  | with_reducible refine v_var11 ?_
  | with_reducible refine s_name11 ?_
  | with_reducible refine v_aug11 ?_
  | with_reducible refine v_var12 ?_
  | with_reducible refine s_name12 ?_
  | with_reducible refine v_aug12 ?_
  | with_reducible refine v_var13 ?_
  | with_reducible refine s_name13 ?_
  | with_reducible refine v_aug13 ?_
  | with_reducible refine v_var14 ?_
  | with_reducible refine s_name14 ?_
  | with_reducible refine v_aug14 ?_
  | with_reducible refine v_var15 ?_
  | with_reducible refine s_name15 ?_
  | with_reducible refine v_aug15 ?_
  | with_reducible refine v_c ?_
  | with_reducible refine v_op ?_
  | with_reducible refine v_cons ?_
  | with_reducible refine v_nil ?_
  | with_reducible refine v_cb ?_
  | with_reducible refine v_call ?_
  | with_reducible refine c_test ?_
  | with_reducible refine c_bl ?_
  | with_reducible refine c_and ?_
  | with_reducible refine c_or ?_
  | with_reducible refine c_not ?_
  | with_reducible refine v_augS ?_
  | with_reducible refine v_sub ?_
  | with_reducible refine add_ii ?_
  | with_reducible refine sub_ii ?_
  | with_reducible refine iadd_ii ?_
  | with_reducible refine lt_ii ?_
  | with_reducible refine le_ii ?_
  | with_reducible refine gt_ii ?_
  | with_reducible refine ge_ii ?_
  | with_reducible refine eq_ii ?_
  | with_reducible refine ne_ii ?_
  | with_reducible refine int_i ?_
  | with_reducible refine abs_i ?_
  | with_reducible refine max_i ?_
  | with_reducible refine min_i ?_
  | with_reducible refine mul_r (by omega) (by omega) ?_
  | with_reducible refine mul_l (by omega) (by omega) ?_
  | with_reducible refine ix_m0 (by assumption) ?_
  | with_reducible refine get_m0 (by assumption) ?_
  | with_reducible refine ix_m1 (by assumption) ?_
  | with_reducible refine get_m1 (by assumption) ?_
  | with_reducible refine ix_m2 (by assumption) ?_
  | with_reducible refine get_m2 (by assumption) ?_
  | with_reducible refine ix_m3 (by assumption) ?_
  | with_reducible refine get_m3 (by assumption) ?_
  | with_reducible refine ix_m4 (by assumption) ?_
  | with_reducible refine get_m4 (by assumption) ?_
  | with_reducible refine ix_m5 (by assumption) ?_
  | with_reducible refine get_m5 (by assumption) ?_
  | (with_reducible refine st_set1 (by assumption) (by assumption) ?_; intro H1 hs1 kp1)
  | (with_reducible refine st_set2 (by assumption) (by assumption) ?_; intro H1 hs1 kp1)
  | (with_reducible refine st_set3 (by assumption) (by assumption) ?_; intro H1 hs1 kp1)
  | (with_reducible refine st_set4 (by assumption) (by assumption) ?_; intro H1 hs1 kp1)
  | (with_reducible refine st_set5 (by assumption) (by assumption) ?_; intro H1 hs1 kp1)
  | with_reducible refine len_m (by assumption) ?_
  | with_reducible refine s_for1 ?_
  | with_reducible refine s_forL ?_
  | with_reducible refine rng1 (by omega) (by omega) ?_
  | with_reducible refine s_next ?_
  | with_reducible refine s_break ?_
  | with_reducible refine s_cont ?_
  | with_reducible refine isi_non_bool ?_
  | with_reducible refine isi_non_int ?_
  | with_reducible refine isi_non_str ?_
  | with_reducible refine isi_non_list ?_
  | with_reducible refine isi_non_tuple ?_
  | with_reducible refine isi_non_dict ?_
  | with_reducible refine isi_non_seq (by assumption) ?_
  | with_reducible refine isi_bl_bool ?_
  | with_reducible refine isi_bl_int ?_
  | with_reducible refine isi_bl_str ?_
  | with_reducible refine isi_bl_list ?_
  | with_reducible refine isi_bl_tuple ?_
  | with_reducible refine isi_bl_dict ?_
  | with_reducible refine isi_bl_seq (by assumption) ?_
  | with_reducible refine isi_int_bool ?_
  | with_reducible refine isi_int_int ?_
  | with_reducible refine isi_int_str ?_
  | with_reducible refine isi_int_list ?_
  | with_reducible refine isi_int_tuple ?_
  | with_reducible refine isi_int_dict ?_
  | with_reducible refine isi_int_seq (by assumption) ?_
  | with_reducible refine isi_str_bool ?_
  | with_reducible refine isi_str_int ?_
  | with_reducible refine isi_str_str ?_
  | with_reducible refine isi_str_list ?_
  | with_reducible refine isi_str_tuple ?_
  | with_reducible refine isi_str_dict ?_
  | with_reducible refine isi_str_seq (by assumption) ?_
  | with_reducible refine isi_lst_bool (by assumption) (by assumption) ?_
  | with_reducible refine isi_lst_int (by assumption) (by assumption) ?_
  | with_reducible refine isi_lst_str (by assumption) (by assumption) ?_
  | with_reducible refine isi_lst_list (by assumption) (by assumption) ?_
  | with_reducible refine isi_lst_tuple (by assumption) (by assumption) ?_
  | with_reducible refine isi_lst_dict (by assumption) (by assumption) ?_
  | with_reducible refine isi_lst_seq (by assumption) (by assumption) (by assumption) ?_
  | with_reducible refine isi_tup_bool (by assumption) (by assumption) ?_
  | with_reducible refine isi_tup_int (by assumption) (by assumption) ?_
  | with_reducible refine isi_tup_str (by assumption) (by assumption) ?_
  | with_reducible refine isi_tup_list (by assumption) (by assumption) ?_
  | with_reducible refine isi_tup_tuple (by assumption) (by assumption) ?_
  | with_reducible refine isi_tup_dict (by assumption) (by assumption) ?_
  | with_reducible refine isi_tup_seq (by assumption) (by assumption) (by assumption) ?_
  | with_reducible refine isi_dK_bool (by assumption) (by assumption) ?_
  | with_reducible refine isi_dK_int (by assumption) (by assumption) ?_
  | with_reducible refine isi_dK_str (by assumption) (by assumption) ?_
  | with_reducible refine isi_dK_list (by assumption) (by assumption) ?_
  | with_reducible refine isi_dK_tuple (by assumption) (by assumption) ?_
  | with_reducible refine isi_dK_dict (by assumption) (by assumption) ?_
  | with_reducible refine isi_dK_seq (by assumption) (by assumption) (by assumption) ?_
  | with_reducible refine eq_bb ?_
  | with_reducible refine eq_ss ?_
  | with_reducible refine ev_isN ?_
  | with_reducible refine ev_tB ?_
  | with_reducible refine ev_and ?_
  | with_reducible refine ev_or ?_
  | with_reducible refine ev_not ?_
  | with_reducible refine c_tru ?_
  | with_reducible refine tru_bl ?_
  | with_reducible refine if_nt ?_
  | with_reducible refine if_nf ?_
  | with_reducible refine tup_new ?_
  | with_reducible refine lst_new ?_
  | with_reducible refine len_ms (by assumption) (by assumption) ?_
  | with_reducible refine len_ts (by assumption) (by assumption) ?_
  | ((with_reducible refine lit_len ?_ ?_); (focus (first | decide | (simp; done) | (simp; omega))))
  | (with_reducible refine new_st (by assumption) (by assumption) ?_; intro q1 H1 hq1 he1 hn1 kp1 hS1 sm1)
  | (with_reducible refine new_same (by assumption) ?_; intro q1 H1 hq1 he1 sm1 hs1)
  | with_reducible refine if_dT rfl ?_
  | ((with_reducible refine if_dF ?_ ?_); focus (intro z; cases z; done))
  | with_reducible refine if_t ?_
  | with_reducible refine if_f ?_
  | ((with_reducible refine c_take (by assumption) (by assumption) ?_ ?_); (focus omega); intro r1 H1 hS1 kp1 h01 h11)
  | with_reducible refine ev_chain ?_
  | ((with_reducible refine c_number (by assumption) (by assumption) ?_ ?_); (focus omega); intro r1 H1 hS1 kp1 h01 h11)
  | ((with_reducible refine c_pick (by assumption) (by assumption) (by assumption) (by assumption) ?_ ?_); (focus (simp; done)); intro r1 H1 hS1 kp1 kk1 h01)
  | with_reducible refine v_bm ?_
  | with_reducible refine v_sl ?_
  | with_reducible refine s_lc1 ?_
  | with_reducible refine s_lcL ?_
  | (with_reducible refine lc_kept ?_ rfl)
  | with_reducible refine c_yes ?_
  | with_reducible refine v_nopart ?_
  | with_reducible refine v_part ?_
  | with_reducible refine part_i ?_
  | with_reducible refine ty_l (by assumption) ?_)
local macro_rules | `(tactic| walk_at "go") => `(tactic| repeat' (first | walk_at "nw" | ((with_reducible refine if_d ?_ ?_) <;> intro c1) | ((with_reducible refine if_nd ?_ ?_) <;> intro c1)))
end NW
namespace NW
open PySem PySem.Spec PyProof.Rows L2
open C8 (tCut pss_cut)
local macro_rules | `(tactic| walk_at "nw") => `(tactic| first
  | with_reducible refine s_seq ?_
  | with_reducible refine s_asg ?_
  | with_reducible refine s_if ?_
  | with_reducible refine s_ret ?_
  | with_reducible refine s_drop ?_
  | with_reducible refine v_var0 ?_
  | with_reducible refine s_name0 ?_
  | with_reducible refine v_aug0 ?_
  | with_reducible refine v_var1 ?_
  | with_reducible refine s_name1 ?_
  | with_reducible refine v_aug1 ?_
  | with_reducible refine v_var2 ?_
  | with_reducible refine s_name2 ?_
  | with_reducible refine v_aug2 ?_
  | with_reducible refine v_var3 ?_
  | with_reducible refine s_name3 ?_
  | with_reducible refine v_aug3 ?_
  | with_reducible refine v_var4 ?_
  | with_reducible refine s_name4 ?_
  | with_reducible refine v_aug4 ?_
  | with_reducible refine v_var5 ?_
  | with_reducible refine s_name5 ?_
  | with_reducible refine v_aug5 ?_
  | with_reducible refine v_var6 ?_
  | with_reducible refine s_name6 ?_
  | with_reducible refine v_aug6 ?_
  | with_reducible refine v_var7 ?_
  | with_reducible refine s_name7 ?_
  | with_reducible refine v_aug7 ?_
  | with_reducible refine v_var8 ?_
  | with_reducible refine s_name8 ?_
  | with_reducible refine v_aug8 ?_
  | with_reducible refine v_var9 ?_
  | with_reducible refine s_name9 ?_
  | with_reducible refine v_aug9 ?_
  | with_reducible refine v_var10 ?_
  | with_reducible refine s_name10 ?_
  | with_reducible refine v_aug10 ?_
  | with_reducible refine v_var11 ?_
  | with_reducible refine s_name11 ?_
  | with_reducible refine v_aug11 ?_
  | with_reducible refine v_var12 ?_
  | with_reducible refine s_name12 ?_
  | with_reducible refine v_aug12 ?_
  | with_reducible refine v_var13 ?_
  | with_reducible refine s_name13 ?_
  | with_reducible refine v_aug13 ?_
  | with_reducible refine v_var14 ?_
  | with_reducible refine s_name14 ?_
  | with_reducible refine v_aug14 ?_
  | with_reducible refine v_var15 ?_
  | with_reducible refine s_name15 ?_
  | with_reducible refine v_aug15 ?_
  | with_reducible refine v_c ?_
  | with_reducible refine v_op ?_
  | with_reducible refine v_cons ?_
  | with_reducible refine v_nil ?_
  | with_reducible refine v_cb ?_
  | with_reducible refine v_call ?_
  | with_reducible refine c_test ?_
  | with_reducible refine c_bl ?_
  | with_reducible refine c_and ?_
  | with_reducible refine c_or ?_
  | with_reducible refine c_not ?_
  | with_reducible refine v_augS ?_
  | with_reducible refine v_sub ?_
  | with_reducible refine add_ii ?_
  | with_reducible refine sub_ii ?_
  | with_reducible refine iadd_ii ?_
  | with_reducible refine lt_ii ?_
  | with_reducible refine le_ii ?_
  | with_reducible refine gt_ii ?_
  | with_reducible refine ge_ii ?_
  | with_reducible refine eq_ii ?_
  | with_reducible refine ne_ii ?_
  | with_reducible refine int_i ?_
  | with_reducible refine abs_i ?_
  | with_reducible refine max_i ?_
  | with_reducible refine min_i ?_
  | with_reducible refine mul_r (by omega) (by omega) ?_
  | with_reducible refine mul_l (by omega) (by omega) ?_
  | with_reducible refine ix_m0 (by assumption) ?_
  | with_reducible refine get_m0 (by assumption) ?_
  | with_reducible refine ix_m1 (by assumption) ?_
  | with_reducible refine get_m1 (by assumption) ?_
  | with_reducible refine ix_m2 (by assumption) ?_
  | with_reducible refine get_m2 (by assumption) ?_
  | with_reducible refine ix_m3 (by assumption) ?_
  | with_reducible refine get_m3 (by assumption) ?_
  | with_reducible refine ix_m4 (by assumption) ?_
  | with_reducible refine get_m4 (by assumption) ?_
  | with_reducible refine ix_m5 (by assumption) ?_
  | with_reducible refine get_m5 (by assumption) ?_
  | (with_reducible refine st_set1 (by assumption) (by assumption) ?_; intro H1 hs1 kp1)
  | (with_reducible refine st_set2 (by assumption) (by assumption) ?_; intro H1 hs1 kp1)
  | (with_reducible refine st_set3 (by assumption) (by assumption) ?_; intro H1 hs1 kp1)
  | (with_reducible refine st_set4 (by assumption) (by assumption) ?_; intro H1 hs1 kp1)
  | (with_reducible refine st_set5 (by assumption) (by assumption) ?_; intro H1 hs1 kp1)
  | with_reducible refine len_m (by assumption) ?_
  | with_reducible refine s_for1 ?_
  | with_reducible refine s_forL ?_
  | with_reducible refine rng1 (by omega) (by omega) ?_
  | with_reducible refine s_next ?_
  | with_reducible refine s_break ?_
  | with_reducible refine s_cont ?_
  | with_reducible refine isi_non_bool ?_
  | with_reducible refine isi_non_int ?_
  | with_reducible refine isi_non_str ?_
  | with_reducible refine isi_non_list ?_
  | with_reducible refine isi_non_tuple ?_
  | with_reducible refine isi_non_dict ?_
  | with_reducible refine isi_non_seq (by assumption) ?_
  | with_reducible refine isi_bl_bool ?_
  | with_reducible refine isi_bl_int ?_
  | with_reducible refine isi_bl_str ?_
  | with_reducible refine isi_bl_list ?_
  | with_reducible refine isi_bl_tuple ?_
  | with_reducible refine isi_bl_dict ?_
  | with_reducible refine isi_bl_seq (by assumption) ?_
  | with_reducible refine isi_int_bool ?_
  | with_reducible refine isi_int_int ?_
  | with_reducible refine isi_int_str ?_
  | with_reducible refine isi_int_list ?_
  | with_reducible refine isi_int_tuple ?_
  | with_reducible refine isi_int_dict ?_
  | with_reducible refine isi_int_seq (by assumption) ?_
  | with_reducible refine isi_str_bool ?_
  | with_reducible refine isi_str_int ?_
  | with_reducible refine isi_str_str ?_
  | with_reducible refine isi_str_list ?_
  | with_reducible refine isi_str_tuple ?_
  | with_reducible refine isi_str_dict ?_
  | with_reducible refine isi_str_seq (by assumption) ?_
  | with_reducible refine isi_lst_bool (by assumption) (by assumption) ?_
  | with_reducible refine isi_lst_int (by assumption) (by assumption) ?_
  | with_reducible refine isi_lst_str (by assumption) (by assumption) ?_
  | with_reducible refine isi_lst_list (by assumption) (by assumption) ?_
  | with_reducible refine isi_lst_tuple (by assumption) (by assumption) ?_
  | with_reducible refine isi_lst_dict (by assumption) (by assumption) ?_
  | with_reducible refine isi_lst_seq (by assumption) (by assumption) (by assumption) ?_
  | with_reducible refine isi_tup_bool (by assumption) (by assumption) ?_
  | with_reducible refine isi_tup_int (by assumption) (by assumption) ?_
  | with_reducible refine isi_tup_str (by assumption) (by assumption) ?_
  | with_reducible refine isi_tup_list (by assumption) (by assumption) ?_
  | with_reducible refine isi_tup_tuple (by assumption) (by assumption) ?_
  | with_reducible refine isi_tup_dict (by assumption) (by assumption) ?_
  | with_reducible refine isi_tup_seq (by assumption) (by assumption) (by assumption) ?_
  | with_reducible refine isi_dK_bool (by assumption) (by assumption) ?_
  | with_reducible refine isi_dK_int (by assumption) (by assumption) ?_
  | with_reducible refine isi_dK_str (by assumption) (by assumption) ?_
  | with_reducible refine isi_dK_list (by assumption) (by assumption) ?_
  | with_reducible refine isi_dK_tuple (by assumption) (by assumption) ?_
  | with_reducible refine isi_dK_dict (by assumption) (by assumption) ?_
  | with_reducible refine isi_dK_seq (by assumption) (by assumption) (by assumption) ?_
  | with_reducible refine eq_bb ?_
  | with_reducible refine eq_ss ?_
  | with_reducible refine ev_isN ?_
  | with_reducible refine ev_tB ?_
  | with_reducible refine ev_and ?_
  | with_reducible refine ev_or ?_
  | with_reducible refine ev_not ?_
  | with_reducible refine c_tru ?_
  | with_reducible refine tru_bl ?_
  | with_reducible refine if_nt ?_
  | with_reducible refine if_nf ?_
  | with_reducible refine tup_new ?_
  | with_reducible refine lst_new ?_
  | with_reducible refine len_ms (by assumption) (by assumption) ?_
  | with_reducible refine len_ts (by assumption) (by assumption) ?_
  | ((with_reducible refine lit_len ?_ ?_); (focus (first | decide | (simp; done) | (simp; omega))))
  | (with_reducible refine new_st (by assumption) (by assumption) ?_; intro q1 H1 hq1 he1 hn1 kp1 hS1 sm1)
  | (with_reducible refine new_same (by assumption) ?_; intro q1 H1 hq1 he1 sm1 hs1)
  | with_reducible refine if_dT rfl ?_
  | ((with_reducible refine if_dF ?_ ?_); focus (intro z; cases z; done))
  | with_reducible refine if_t ?_
  | with_reducible refine if_f ?_
  | ((with_reducible refine c_take (by assumption) (by assumption) ?_ ?_); (focus omega); intro r1 H1 hS1 kp1 h01 h11)
  | with_reducible refine ev_chain ?_
  | ((with_reducible refine c_number (by assumption) (by assumption) ?_ ?_); (focus omega); intro r1 H1 hS1 kp1 h01 h11)
  | ((with_reducible refine c_pick (by assumption) (by assumption) (by assumption) (by assumption) ?_ ?_); (focus (simp; done)); intro r1 H1 hS1 kp1 kk1 h01)
  | with_reducible refine v_bm ?_
  | with_reducible refine v_sl ?_
  | with_reducible refine s_lc1 ?_
  | with_reducible refine s_lcL ?_
  | (with_reducible refine lc_kept ?_ rfl)
  | with_reducible refine c_yes ?_
  | with_reducible refine v_nopart ?_
  | with_reducible refine v_part ?_
  | with_reducible refine part_i ?_
  | with_reducible refine ty_l (by assumption) ?_)
local macro_rules | `(tactic| walk_at "go") => `(tactic| repeat' (first | walk_at "nw" | ((with_reducible refine if_d ?_ ?_) <;> intro c1) | ((with_reducible refine if_nd ?_ ?_) <;> intro c1)))
end NW
namespace NW
open PySem PySem.Spec PyProof.Rows L2
open C8 (tCut pss_cut)
theorem tkNone {X : Cx} : L2N.Takes X (fun _ _ _ _ => False) := fun _ _ x => by
  obtain ⟨_, _, _, _, _, _, _, _, _, _, _, _, _, _, _, _, z⟩ := x
  exact z.elim
def tTryA (K : PySem.W.Frag) (c : Value) (i : Nat) (tb : WX → TS) (ts : Addr → Value → Option Addr → TS) (Wout : WX) : TS := fun D σ H => tb (wAs K c i ts Wout D) D σ H
theorem ps_tryA {X : Cx} {x n : Str} {c : Value} {i : Nat} {body suite : List Stmt} {b₀ : Stmt} {np pos pos' : Pos} {tb : WX → TS} {ts : Addr → Value → Option Addr → TS} {Wout : WX}
    (hs : X.stack = X.env :: X.outer) (hf : X.env.frame = some X.env.locals) (hN : X.N.Nodup) (hi : X.N[i]? = some n) (hln : X.env.kindOf n = some .local) (hc : Names X x c) (tk : L2N.Takes X Wout)
    (hb : ∀ (W : WX) (pn : List (Addr × Obj)) (xe : Value → Shared → Prop), L2N.Takes (X.tr pn xe) W → PassesOwn (model X.prog X.w) X.A X.env xe → PSs (X.tr pn xe) body (tb W))
    (hsu : ∀ (a : Addr) (oe : Obj) (cls : Value) (d : Option Addr) (pn : List (Addr × Obj)), L2N.Zn cls d oe → (∃ vs, oe.data = .fields vs) → PSs (X.suite a ((a, oe) :: pn)) (b₀ :: suite) (ts a cls d)) :
    PS X (.Try body [.ExceptHandler (some (.Name x np)) (some n) (b₀ :: suite) pos'] [] [] pos) (tTryA X.K c i tb ts Wout) :=
  L2N.ps_try_as hs hf hN hi hln hc tk hb hsu
theorem hotS {X : Cx} {a : Addr} {oe : Obj} {cls : Value} {d : Option Addr} {pn : List (Addr × Obj)} (hz : L2N.Zn cls d oe) (hf : ∃ vs, oe.data = .fields vs) : HotP (X.suite a ((a, oe) :: pn)) (a, oe) := by
  obtain ⟨vs, e⟩ := hf
  exact ⟨⟨rfl, vs, e, hz.2.2 vs e⟩, List.mem_cons_self⟩
theorem roomS {X : Cx} {a : Addr} {k : Nat} {pn : List (Addr × Obj)} (hr : Room k X.A) : L2H.RoomH k (X.suite a pn).A := ⟨hr.dp, hr.un⟩
def tXfE (K : PySem.W.Frag) (a : Addr) (cls : Value) (d : Option Addr) (f : Str) (te : TE) : TE := fun σ H Q => ∃ C : Addr, cls = .ref C ∧ XfC K C ∧ PySem.W.findIn K (.ref C) f = some none ∧ tXf a cls d C f te σ H Q
theorem pe_xfE {X : Cx} {a : Addr} {oe : Obj} {cls : Value} {d : Option Addr} {pn : List (Addr × Obj)} {e : Expr} {te : TE} {pos : Pos} {n : Str} (hz : L2N.Zn cls d oe) (hf : ∃ vs, oe.data = .fields vs)
    (he : PE (X.suite a ((a, oe) :: pn)) e te) (hb : attributeBase e n X.env (eval e X.env) = eval e X.env := by rfl) : PE (X.suite a ((a, oe) :: pn)) (.Attribute e n pos) (tXfE X.K a cls d n te) := by
  refine ⟨fun pins s σ H Q I hh => ?_⟩
  obtain ⟨C, ec, T, hno, hq⟩ := hh
  exact (pe_xf T hno hz.zc hf he hb).run pins s σ H Q I hq
theorem was_y {K : PySem.W.Frag} {c cls : Value} {d : Option Addr} {i : Nat} {ts : Addr → Value → Option Addr → TS} {Wout : WX} {D : Ends} {σ : L2.St} {H : Hp} (he : PySem.W.exmOne K cls c = some true)
    (h : ∀ a, H a = none → ts a cls d { nx := fun σ' H' => D.nx (σ'.set i none) H', rt := D.rt, bk := fun σ' H' => D.bk (σ'.set i none) H', ct := fun σ' H' => D.ct (σ'.set i none) H' } (σ.set i (some (.ref a))) H) : wAs K c i ts Wout D cls d σ H :=
  ⟨true, he, fun _ => h, fun z => Bool.noConfusion z⟩
/-- what is asked of an error class of which an error is handled -/
structure ErrF (K : PySem.W.Frag) (C : Addr) (b : Str → Bool) : Prop where
  kit : KitF K C b
  exc : ExcC K C
  xf : XfC K C
  nest : PySem.W.exmOne K (.ref C) (.ref (He.ga K "NestError")) = some true
section
variable {K : PySem.W.Frag} {a C : Addr} {d : Option Addr} {te : TE} {σ : L2.St} {H : Hp} {Q : VK} {b : Str → Bool} {n : Str} {cls : Value}
theorem c_xf (T : XfC K C) (hno : PySem.W.findIn K (.ref C) n = some none) (h : te σ H fun x H1 => x = .ref a ∧ ∃ (dd : Addr) (fs : List (Str × V)) (v : V), d = some dd ∧ H1 dd = some (.xd fs) ∧ fs.lookup n = some v ∧ Q v H1) (hv : ∃ i, te = tVar i) : tXfE K a (.ref C) d n te σ H Q := by
  refine ⟨C, rfl, T, hno, ?_⟩
  obtain ⟨i, rfl⟩ := hv
  obtain ⟨v, e, e1, h1⟩ := h
  subst e1
  exact ⟨_, e, rfl, rfl, h1⟩
end
def dV : V → DT
  | .int i => .int i
  | .bl b => .bl b
  | .str s => .str s
  | _ => .non
end NW
namespace NW
open PySem PySem.Spec PyProof.Rows L2
open C8 (tCut pss_cut)
def sp_refuses : Sp := fun vs H Q _ => ∃ (st c : Addr) (ns : List Nat), vs = [.ref st, .ref c] ∧ Sto H st ∧ c ≠ st ∧ H c = some (.lst (nV ns)) ∧ ns.length ≤ 60 ∧ ∀ H', Sto H' st → Keep st H H' → Q (.bl true) H'
theorem l_refuses : ∀ vs H Q E, sp_refuses vs H Q E → vs.length = 2 := fun _ _ _ _ ⟨_, _, _, e, _⟩ => by rw [e]; rfl
local macro_rules | `(tactic| walk_at "nw") => `(tactic| first
  | with_reducible refine s_seq ?_
  | with_reducible refine s_asg ?_
  | with_reducible refine s_if ?_
  | with_reducible refine s_ret ?_
  | with_reducible refine s_drop ?_
  | with_reducible refine v_var0 ?_
  | with_reducible refine s_name0 ?_
  | with_reducible refine v_aug0 ?_
  | with_reducible refine v_var1 ?_
  | with_reducible refine s_name1 ?_
  | with_reducible refine v_aug1 ?_
  | with_reducible refine v_var2 ?_
  | with_reducible refine s_name2 ?_
  | with_reducible refine v_aug2 ?_
  | with_reducible refine v_var3 ?_
  | with_reducible refine s_name3 ?_
  | with_reducible refine v_aug3 ?_
  | with_reducible refine v_var4 ?_
  | with_reducible refine s_name4 ?_
  | with_reducible refine v_aug4 ?_
  | with_reducible refine v_var5 ?_
  | with_reducible refine s_name5 ?_
  | with_reducible refine v_aug5 ?_
  | with_reducible refine v_var6 ?_
  | with_reducible refine s_name6 ?_
  | with_reducible refine v_aug6 ?_
  | with_reducible refine v_var7 ?_
  | with_reducible refine s_name7 ?_
  | with_reducible refine v_aug7 ?_
  | with_reducible refine v_var8 ?_
  | with_reducible refine s_name8 ?_
  | with_reducible refine v_aug8 ?_
  | with_reducible refine v_var9 ?_
  | with_reducible refine s_name9 ?_
  | with_reducible refine v_aug9 ?_
  | with_reducible refine v_var10 ?_
  | with_reducible refine s_name10 ?_
  | with_reducible refine v_aug10 ?_
  | with_reducible refine v_var11 ?_
  | with_reducible refine s_name11 ?_
  | with_reducible refine v_aug11 ?_
  | with_reducible refine v_var12 ?_
  | with_reducible refine s_name12 ?_
  | with_reducible refine v_aug12 ?_
  | with_reducible refine v_var13 ?_
  | with_reducible refine s_name13 ?_
  | with_reducible refine v_aug13 ?_
  | with_reducible refine v_var14 ?_
  | with_reducible refine s_name14 ?_
  | with_reducible refine v_aug14 ?_
  | with_reducible refine v_var15 ?_
  | with_reducible refine s_name15 ?_
  | with_reducible refine v_aug15 ?_
  | with_reducible refine v_c ?_
  | with_reducible refine v_op ?_
  | with_reducible refine v_cons ?_
  | with_reducible refine v_nil ?_
  | with_reducible refine v_cb ?_
  | with_reducible refine v_call ?_
  | with_reducible refine c_test ?_
  | with_reducible refine c_bl ?_
  | with_reducible refine c_and ?_
  | with_reducible refine c_or ?_
  | with_reducible refine c_not ?_
  | with_reducible refine v_augS ?_
  | with_reducible refine v_sub ?_
  | with_reducible refine add_ii ?_
  | with_reducible refine sub_ii ?_
  | with_reducible refine iadd_ii ?_
  | with_reducible refine lt_ii ?_
  | with_reducible refine le_ii ?_
  | with_reducible refine gt_ii ?_
  | with_reducible refine ge_ii ?_
  | with_reducible refine eq_ii ?_
  | with_reducible refine ne_ii ?_
  | with_reducible refine int_i ?_
  | with_reducible refine abs_i ?_
  | with_reducible refine max_i ?_
  | with_reducible refine min_i ?_
  | with_reducible refine mul_r (by omega) (by omega) ?_
  | with_reducible refine mul_l (by omega) (by omega) ?_
  | with_reducible refine ix_m0 (by assumption) ?_
  | with_reducible refine get_m0 (by assumption) ?_
  | with_reducible refine ix_m1 (by assumption) ?_
  | with_reducible refine get_m1 (by assumption) ?_
  | with_reducible refine ix_m2 (by assumption) ?_
  | with_reducible refine get_m2 (by assumption) ?_
  | with_reducible refine ix_m3 (by assumption) ?_
  | with_reducible refine get_m3 (by assumption) ?_
  | with_reducible refine ix_m4 (by assumption) ?_
  | with_reducible refine get_m4 (by assumption) ?_
  | with_reducible refine ix_m5 (by assumption) ?_
  | with_reducible refine get_m5 (by assumption) ?_
  | (with_reducible refine st_set1 (by assumption) (by assumption) ?_; intro H1 hs1 kp1)
  | (with_reducible refine st_set2 (by assumption) (by assumption) ?_; intro H1 hs1 kp1)
  | (with_reducible refine st_set3 (by assumption) (by assumption) ?_; intro H1 hs1 kp1)
  | (with_reducible refine st_set4 (by assumption) (by assumption) ?_; intro H1 hs1 kp1)
  | (with_reducible refine st_set5 (by assumption) (by assumption) ?_; intro H1 hs1 kp1)
  | with_reducible refine len_m (by assumption) ?_
  | with_reducible refine s_for1 ?_
  | with_reducible refine s_forL ?_
  | with_reducible refine rng1 (by omega) (by omega) ?_
  | with_reducible refine s_next ?_
  | with_reducible refine s_break ?_
  | with_reducible refine s_cont ?_
  | with_reducible refine isi_non_bool ?_
  | with_reducible refine isi_non_int ?_
  | with_reducible refine isi_non_str ?_
  | with_reducible refine isi_non_list ?_
  | with_reducible refine isi_non_tuple ?_
  | with_reducible refine isi_non_dict ?_
  | with_reducible refine isi_non_seq (by assumption) ?_
  | with_reducible refine isi_bl_bool ?_
  | with_reducible refine isi_bl_int ?_
  | with_reducible refine isi_bl_str ?_
  | with_reducible refine isi_bl_list ?_
  | with_reducible refine isi_bl_tuple ?_
  | with_reducible refine isi_bl_dict ?_
  | with_reducible refine isi_bl_seq (by assumption) ?_
  | with_reducible refine isi_int_bool ?_
  | with_reducible refine isi_int_int ?_
  | with_reducible refine isi_int_str ?_
  | with_reducible refine isi_int_list ?_
  | with_reducible refine isi_int_tuple ?_
  | with_reducible refine isi_int_dict ?_
  | with_reducible refine isi_int_seq (by assumption) ?_
  | with_reducible refine isi_str_bool ?_
  | with_reducible refine isi_str_int ?_
  | with_reducible refine isi_str_str ?_
  | with_reducible refine isi_str_list ?_
  | with_reducible refine isi_str_tuple ?_
  | with_reducible refine isi_str_dict ?_
  | with_reducible refine isi_str_seq (by assumption) ?_
  | with_reducible refine isi_lst_bool (by assumption) (by assumption) ?_
  | with_reducible refine isi_lst_int (by assumption) (by assumption) ?_
  | with_reducible refine isi_lst_str (by assumption) (by assumption) ?_
  | with_reducible refine isi_lst_list (by assumption) (by assumption) ?_
  | with_reducible refine isi_lst_tuple (by assumption) (by assumption) ?_
  | with_reducible refine isi_lst_dict (by assumption) (by assumption) ?_
  | with_reducible refine isi_lst_seq (by assumption) (by assumption) (by assumption) ?_
  | with_reducible refine isi_tup_bool (by assumption) (by assumption) ?_
  | with_reducible refine isi_tup_int (by assumption) (by assumption) ?_
  | with_reducible refine isi_tup_str (by assumption) (by assumption) ?_
  | with_reducible refine isi_tup_list (by assumption) (by assumption) ?_
  | with_reducible refine isi_tup_tuple (by assumption) (by assumption) ?_
  | with_reducible refine isi_tup_dict (by assumption) (by assumption) ?_
  | with_reducible refine isi_tup_seq (by assumption) (by assumption) (by assumption) ?_
  | with_reducible refine isi_dK_bool (by assumption) (by assumption) ?_
  | with_reducible refine isi_dK_int (by assumption) (by assumption) ?_
  | with_reducible refine isi_dK_str (by assumption) (by assumption) ?_
  | with_reducible refine isi_dK_list (by assumption) (by assumption) ?_
  | with_reducible refine isi_dK_tuple (by assumption) (by assumption) ?_
  | with_reducible refine isi_dK_dict (by assumption) (by assumption) ?_
  | with_reducible refine isi_dK_seq (by assumption) (by assumption) (by assumption) ?_
  | with_reducible refine eq_bb ?_
  | with_reducible refine eq_ss ?_
  | with_reducible refine ev_isN ?_
  | with_reducible refine ev_tB ?_
  | with_reducible refine ev_and ?_
  | with_reducible refine ev_or ?_
  | with_reducible refine ev_not ?_
  | with_reducible refine c_tru ?_
  | with_reducible refine tru_bl ?_
  | with_reducible refine if_nt ?_
  | with_reducible refine if_nf ?_
  | with_reducible refine tup_new ?_
  | with_reducible refine lst_new ?_
  | with_reducible refine len_ms (by assumption) (by assumption) ?_
  | with_reducible refine len_ts (by assumption) (by assumption) ?_
  | ((with_reducible refine lit_len ?_ ?_); (focus (first | decide | (simp; done) | (simp; omega))))
  | (with_reducible refine new_st (by assumption) (by assumption) ?_; intro q1 H1 hq1 he1 hn1 kp1 hS1 sm1)
  | (with_reducible refine new_same (by assumption) ?_; intro q1 H1 hq1 he1 sm1 hs1)
  | with_reducible refine if_dT rfl ?_
  | ((with_reducible refine if_dF ?_ ?_); focus (intro z; cases z; done))
  | with_reducible refine if_t ?_
  | with_reducible refine if_f ?_
  | ((with_reducible refine c_take (by assumption) (by assumption) ?_ ?_); (focus omega); intro r1 H1 hS1 kp1 h01 h11)
  | with_reducible refine ev_chain ?_
  | ((with_reducible refine c_number (by assumption) (by assumption) ?_ ?_); (focus omega); intro r1 H1 hS1 kp1 h01 h11)
  | ((with_reducible refine c_pick (by assumption) (by assumption) (by assumption) (by assumption) ?_ ?_); (focus (simp; done)); intro r1 H1 hS1 kp1 kk1 h01)
  | with_reducible refine v_bm ?_
  | with_reducible refine v_sl ?_
  | with_reducible refine s_lc1 ?_
  | with_reducible refine s_lcL ?_
  | (with_reducible refine lc_kept ?_ rfl)
  | with_reducible refine c_yes ?_
  | with_reducible refine v_nopart ?_
  | with_reducible refine v_part ?_
  | with_reducible refine part_i ?_
  | with_reducible refine ty_l (by assumption) ?_)
local macro_rules | `(tactic| walk_at "go") => `(tactic| repeat' (first | walk_at "nw" | ((with_reducible refine if_d ?_ ?_) <;> intro c1) | ((with_reducible refine if_nd ?_ ?_) <;> intro c1)))
end NW
namespace NW
open PySem PySem.Spec PyProof.Rows L2
open C8 (tCut pss_cut)
local macro_rules | `(tactic| walk_at "nw") => `(tactic| first
  | with_reducible refine s_seq ?_
  | with_reducible refine s_asg ?_
  | with_reducible refine s_if ?_
  | with_reducible refine s_ret ?_
  | with_reducible refine s_drop ?_
  | with_reducible refine v_var0 ?_
  | with_reducible refine s_name0 ?_
  | with_reducible refine v_aug0 ?_
  | with_reducible refine v_var1 ?_
  | with_reducible refine s_name1 ?_
  | with_reducible refine v_aug1 ?_
  | with_reducible refine v_var2 ?_
  | with_reducible refine s_name2 ?_
  | with_reducible refine v_aug2 ?_
  | with_reducible refine v_var3 ?_
  | with_reducible refine s_name3 ?_
  | with_reducible refine v_aug3 ?_
  | with_reducible refine v_var4 ?_
  | with_reducible refine s_name4 ?_
  | with_reducible refine v_aug4 ?_
  | with_reducible refine v_var5 ?_
  | with_reducible refine s_name5 ?_
  | with_reducible refine v_aug5 ?_
  | with_reducible refine v_var6 ?_
  | with_reducible refine s_name6 ?_
  | with_reducible refine v_aug6 ?_
  | with_reducible refine v_var7 ?_
  | with_reducible refine s_name7 ?_
  | with_reducible refine v_aug7 ?_
  | with_reducible refine v_var8 ?_
  | with_reducible refine s_name8 ?_
  | with_reducible refine v_aug8 ?_
  | with_reducible refine v_var9 ?_
  | with_reducible refine s_name9 ?_
  | with_reducible refine v_aug9 ?_
  | with_reducible refine v_var10 ?_
  | with_reducible refine s_name10 ?_
  | with_reducible refine v_aug10 ?_
  | with_reducible refine v_var11 ?_
  | with_reducible refine s_name11 ?_
  | with_reducible refine v_aug11 ?_
  | with_reducible refine v_var12 ?_
  | with_reducible refine s_name12 ?_
  | with_reducible refine v_aug12 ?_
  | with_reducible refine v_var13 ?_
  | with_reducible refine s_name13 ?_
  | with_reducible refine v_aug13 ?_
  | with_reducible refine v_var14 ?_
  | with_reducible refine s_name14 ?_
  | with_reducible refine v_aug14 ?_
  | with_reducible refine v_var15 ?_
  | with_reducible refine s_name15 ?_
  | with_reducible refine v_aug15 ?_
  | with_reducible refine v_c ?_
  | with_reducible refine v_op ?_
  | with_reducible refine v_cons ?_
  | with_reducible refine v_nil ?_
  | with_reducible refine v_cb ?_
  | with_reducible refine v_call ?_
  | with_reducible refine c_test ?_
  | with_reducible refine c_bl ?_
  | with_reducible refine c_and ?_
  | with_reducible refine c_or ?_
  | with_reducible refine c_not ?_
  | with_reducible refine v_augS ?_
  | with_reducible refine v_sub ?_
  | with_reducible refine add_ii ?_
  | with_reducible refine sub_ii ?_
  | with_reducible refine iadd_ii ?_
  | with_reducible refine lt_ii ?_
  | with_reducible refine le_ii ?_
  | with_reducible refine gt_ii ?_
  | with_reducible refine ge_ii ?_
  | with_reducible refine eq_ii ?_
  | with_reducible refine ne_ii ?_
  | with_reducible refine int_i ?_
  | with_reducible refine abs_i ?_
  | with_reducible refine max_i ?_
  | with_reducible refine min_i ?_
  | with_reducible refine mul_r (by omega) (by omega) ?_
  | with_reducible refine mul_l (by omega) (by omega) ?_
  | with_reducible refine ix_m0 (by assumption) ?_
  | with_reducible refine get_m0 (by assumption) ?_
  | with_reducible refine ix_m1 (by assumption) ?_
  | with_reducible refine get_m1 (by assumption) ?_
  | with_reducible refine ix_m2 (by assumption) ?_
  | with_reducible refine get_m2 (by assumption) ?_
  | with_reducible refine ix_m3 (by assumption) ?_
  | with_reducible refine get_m3 (by assumption) ?_
  | with_reducible refine ix_m4 (by assumption) ?_
  | with_reducible refine get_m4 (by assumption) ?_
  | with_reducible refine ix_m5 (by assumption) ?_
  | with_reducible refine get_m5 (by assumption) ?_
  | (with_reducible refine st_set1 (by assumption) (by assumption) ?_; intro H1 hs1 kp1)
  | (with_reducible refine st_set2 (by assumption) (by assumption) ?_; intro H1 hs1 kp1)
  | (with_reducible refine st_set3 (by assumption) (by assumption) ?_; intro H1 hs1 kp1)
  | (with_reducible refine st_set4 (by assumption) (by assumption) ?_; intro H1 hs1 kp1)
  | (with_reducible refine st_set5 (by assumption) (by assumption) ?_; intro H1 hs1 kp1)
  | with_reducible refine len_m (by assumption) ?_
  | with_reducible refine s_for1 ?_
  | with_reducible refine s_forL ?_
  | with_reducible refine rng1 (by omega) (by omega) ?_
  | with_reducible refine s_next ?_
  | with_reducible refine s_break ?_
  | with_reducible refine s_cont ?_
  | with_reducible refine isi_non_bool ?_
  | with_reducible refine isi_non_int ?_
  | with_reducible refine isi_non_str ?_
  | with_reducible refine isi_non_list ?_
  | with_reducible refine isi_non_tuple ?_
  | with_reducible refine isi_non_dict ?_
  | with_reducible refine isi_non_seq (by assumption) ?_
  | with_reducible refine isi_bl_bool ?_
  | with_reducible refine isi_bl_int ?_
  | with_reducible refine isi_bl_str ?_
  | with_reducible refine isi_bl_list ?_
  | with_reducible refine isi_bl_tuple ?_
  | with_reducible refine isi_bl_dict ?_
  | with_reducible refine isi_bl_seq (by assumption) ?_
  | with_reducible refine isi_int_bool ?_
  | with_reducible refine isi_int_int ?_
  | with_reducible refine isi_int_str ?_
  | with_reducible refine isi_int_list ?_
  | with_reducible refine isi_int_tuple ?_
  | with_reducible refine isi_int_dict ?_
  | with_reducible refine isi_int_seq (by assumption) ?_
  | with_reducible refine isi_str_bool ?_
  | with_reducible refine isi_str_int ?_
  | with_reducible refine isi_str_str ?_
  | with_reducible refine isi_str_list ?_
  | with_reducible refine isi_str_tuple ?_
  | with_reducible refine isi_str_dict ?_
  | with_reducible refine isi_str_seq (by assumption) ?_
  | with_reducible refine isi_lst_bool (by assumption) (by assumption) ?_
  | with_reducible refine isi_lst_int (by assumption) (by assumption) ?_
  | with_reducible refine isi_lst_str (by assumption) (by assumption) ?_
  | with_reducible refine isi_lst_list (by assumption) (by assumption) ?_
  | with_reducible refine isi_lst_tuple (by assumption) (by assumption) ?_
  | with_reducible refine isi_lst_dict (by assumption) (by assumption) ?_
  | with_reducible refine isi_lst_seq (by assumption) (by assumption) (by assumption) ?_
  | with_reducible refine isi_tup_bool (by assumption) (by assumption) ?_
  | with_reducible refine isi_tup_int (by assumption) (by assumption) ?_
  | with_reducible refine isi_tup_str (by assumption) (by assumption) ?_
  | with_reducible refine isi_tup_list (by assumption) (by assumption) ?_
  | with_reducible refine isi_tup_tuple (by assumption) (by assumption) ?_
  | with_reducible refine isi_tup_dict (by assumption) (by assumption) ?_
  | with_reducible refine isi_tup_seq (by assumption) (by assumption) (by assumption) ?_
  | with_reducible refine isi_dK_bool (by assumption) (by assumption) ?_
  | with_reducible refine isi_dK_int (by assumption) (by assumption) ?_
  | with_reducible refine isi_dK_str (by assumption) (by assumption) ?_
  | with_reducible refine isi_dK_list (by assumption) (by assumption) ?_
  | with_reducible refine isi_dK_tuple (by assumption) (by assumption) ?_
  | with_reducible refine isi_dK_dict (by assumption) (by assumption) ?_
  | with_reducible refine isi_dK_seq (by assumption) (by assumption) (by assumption) ?_
  | with_reducible refine eq_bb ?_
  | with_reducible refine eq_ss ?_
  | with_reducible refine ev_isN ?_
  | with_reducible refine ev_tB ?_
  | with_reducible refine ev_and ?_
  | with_reducible refine ev_or ?_
  | with_reducible refine ev_not ?_
  | with_reducible refine c_tru ?_
  | with_reducible refine tru_bl ?_
  | with_reducible refine if_nt ?_
  | with_reducible refine if_nf ?_
  | with_reducible refine tup_new ?_
  | with_reducible refine lst_new ?_
  | with_reducible refine len_ms (by assumption) (by assumption) ?_
  | with_reducible refine len_ts (by assumption) (by assumption) ?_
  | ((with_reducible refine lit_len ?_ ?_); (focus (first | decide | (simp; done) | (simp; omega))))
  | (with_reducible refine new_st (by assumption) (by assumption) ?_; intro q1 H1 hq1 he1 hn1 kp1 hS1 sm1)
  | (with_reducible refine new_same (by assumption) ?_; intro q1 H1 hq1 he1 sm1 hs1)
  | with_reducible refine if_dT rfl ?_
  | ((with_reducible refine if_dF ?_ ?_); focus (intro z; cases z; done))
  | with_reducible refine if_t ?_
  | with_reducible refine if_f ?_
  | ((with_reducible refine c_take (by assumption) (by assumption) ?_ ?_); (focus omega); intro r1 H1 hS1 kp1 h01 h11)
  | with_reducible refine ev_chain ?_
  | ((with_reducible refine c_number (by assumption) (by assumption) ?_ ?_); (focus omega); intro r1 H1 hS1 kp1 h01 h11)
  | ((with_reducible refine c_pick (by assumption) (by assumption) (by assumption) (by assumption) ?_ ?_); (focus (simp; done)); intro r1 H1 hS1 kp1 kk1 h01)
  | with_reducible refine v_bm ?_
  | with_reducible refine v_sl ?_
  | with_reducible refine s_lc1 ?_
  | with_reducible refine s_lcL ?_
  | (with_reducible refine lc_kept ?_ rfl)
  | with_reducible refine c_yes ?_
  | with_reducible refine v_nopart ?_
  | with_reducible refine v_part ?_
  | with_reducible refine part_i ?_
  | with_reducible refine ty_l (by assumption) ?_)
local macro_rules | `(tactic| walk_at "go") => `(tactic| repeat' (first | walk_at "nw" | ((with_reducible refine if_d ?_ ?_) <;> intro c1) | ((with_reducible refine if_nd ?_ ?_) <;> intro c1)))
end NW
namespace NW
open PySem PySem.Spec PyProof.Rows L2
section
variable {K : PySem.W.Frag} {C : Addr} {b : Str → Bool}
theorem oexK_ok (q : oexK K C = true) : ∃ nm q N bs bm sn sub ab col dd k0 k1 k2 k3 k5, K.lookup C = some (excClassObj nm q C N bs bm true sn sub ab col dd k0 k1 k2 k3 k5 "ValueError.__new__") ∧ PySem.HandSPX.refsVE bm = true := by
  unfold oexK at q
  split at q
  · rename_i dd cd sl ho
    split at q
    · rename_i C' bm k0 k1 k2 k3 n k5 hm hs
      simp only [Bool.and_eq_true, beq_iff_eq, Bool.not_eq_true'] at q
      obtain ⟨⟨⟨⟨rfl, rfl⟩, hdel⟩, hdi⟩, ht⟩ := q
      obtain ⟨nm, bs, mro, ns, qn, hd, sn, sub, ab, col, del⟩ := cd
      dsimp only at hm hdel hdi
      subst hm hdel hdi
      have hsl : sl = #[k0, k1, k2, k3, some (.builtin "ValueError.__new__"), k5] := by
        obtain ⟨l⟩ := sl
        simp only at hs
        rw [hs]
      subst hsl
      exact ⟨nm, qn, ns, bs, bm, sn, sub, ab, col, dd, k0, k1, k2, k3, k5, ho, ht⟩
    · cases q
  · cases q
theorem oexB_ok (h : oexB K C = true) : OexC K C := by
  obtain ⟨h1, h⟩ := He.ba h
  obtain ⟨h2, h⟩ := He.ba h
  obtain ⟨h3, h⟩ := He.ba h
  obtain ⟨h4, h5⟩ := He.ba h
  exact ⟨oexK_ok h1, He.eqO_ok h2, of_decide_eq_true h3, of_decide_eq_true h4, h5⟩
theorem kitFB_ok (h : kitFB K C b = true) : KitF K C b := by
  obtain ⟨h1, h2⟩ := He.ba h
  exact ⟨of_decide_eq_true h1, fun n hn => of_decide_eq_true (List.all_eq_true.mp h2 n hn)⟩
theorem excCB_ok (h : excCB K C = true) : ExcC K C := by
  obtain ⟨h1, h⟩ := He.ba h
  obtain ⟨h2, h⟩ := He.ba h
  obtain ⟨h3, h⟩ := He.ba h
  obtain ⟨h4, h⟩ := He.ba h
  obtain ⟨h5, h⟩ := He.ba h
  obtain ⟨h6, h⟩ := He.ba h
  obtain ⟨h7, h8⟩ := He.ba h
  exact ⟨He.eqO_ok h1, He.eqO_ok h2, of_decide_eq_true h3, h4, He.eqO_ok h5, He.eqO_ok h6, of_decide_eq_true h7, of_decide_eq_true h8⟩
theorem errFB_ok (h : errFB K C b = true) : ErrF K C b := by
  obtain ⟨h1, h⟩ := He.ba h
  obtain ⟨h2, h⟩ := He.ba h
  obtain ⟨h3, h4⟩ := He.ba h
  exact ⟨kitFB_ok h1, excCB_ok h2, xfB_ok h3, of_decide_eq_true h4⟩
theorem err1_ok {x fl q : Str} {params : Arguments} {body : List Stmt} {scope : Scope} (h : oexB K (He.ga K x) = true) (hi : iniB K (He.ga K x) = true) (hn : He.eqO (PySem.W.findIn K (.ref (He.ga K x)) fl) (some none) = true)
    (hd : ∃ fd, FunD K "__init__" q params body scope [] [] (He.ma K (He.ga K x) "__init__") fd) : Err1 K (He.ga K x) q fl params body scope := by
  obtain ⟨h1, h2⟩ := He.ba hi
  obtain ⟨fd, F⟩ := hd
  exact ⟨oexB_ok h, He.eqO_ok hn, He.ma K (He.ga K x) "__init__", fd, He.eqO_ok h1, of_decide_eq_true h2, F⟩
end
/-- the law: nothing is let out -/
theorem law_of {P : Program} {w : World} {K : PySem.W.Frag} {mg : Str → Option Value} {base : Heap} {x : Str} {params : Arguments} {body : List Stmt} {scope : Scope} {f : Addr} {fd : FuncData} {N ps : List Str} {k : Nat} {sp : Sp} {t : TS} (F : FunD K x x params body scope [] [] f fd) (S : FnScope N ps scope) (len : ∀ vs H Q E, sp vs H Q E → vs.length = ps.length)
    (d : ∀ (cdv : Value) (A : Around) (outer : List Env) (s : Shared) (H : Hp) (E : XK), Room k (A.deeper (envOfC x scope s.heap.objs.size f cdv)) → PSs (cxOf CX0 P w K mg base N x scope f cdv A outer s H E).nox body t)
    (pure_ : ∀ vs H Q E, sp vs H Q E → t { nx := fun _ H' => Q .non H', rt := Q } (start N vs) H) : FnOk P w K mg base CX0 (k + 1) f fd ps sp :=
  F.ok S len fun cdv A outer s H vs Q E hr h => ⟨t, PSs.nox (d cdv A outer s H E hr), pure_ vs H Q E h⟩
theorem ref_inj {a b : Addr} (h : some (Value.ref a) = some (Value.ref b)) : a = b := by
  cases h
  rfl
theorem okAt {l : List Bool} (h : l.all id = true) (i : Nat) {b : Bool} (e : l[i]? = some b := by rfl) : b = true := List.all_eq_true.mp h b (List.mem_of_getElem? e)
end NW
namespace NW
open PySem PySem.Spec PyProof.Rows L2 PySem.W PySem.W.KIN
end NW
namespace NW
open PySem PySem.Spec PyProof.Rows L2 RT
end NW
namespace NW
open PySem PySem.Spec PyProof.Rows L2
def rMulS : R2 := fun x y H Q => ∃ (a : Str) (k : Nat), x = .str a ∧ y = .int (k : Int) ∧ k ≤ 1000000 ∧ a.length * k ≤ 1000000 ∧ ∀ b : Str, b.cps.toList = (List.replicate k a.cps.toList).flatten → Q (.str b) H
theorem fold_app : ∀ (l : List (Array Nat)) (acc : Array Nat), (l.foldl (· ++ ·) acc).toList = acc.toList ++ (l.map (·.toList)).flatten
  | [], acc => by simp
  | a :: l, acc => by
    rw [List.foldl_cons, fold_app l (acc ++ a)]
    simp
theorem oMulS {X : Cx} : OpR X (binaryOp .Mult) rMulS := by
  intro pn s ρ H x y v u Q I rx ry h
  obtain ⟨a, k, ex, ey, hk, hl, q⟩ := h
  subst ex ey
  obtain ⟨t1, e1⟩ := rx
  obtain ⟨t2, e2⟩ := ry
  subst e1 e2
  have tl : Builtin.Str.tooLong (a.length * k) = false := by
    unfold Builtin.Str.tooLong
    exact decide_eq_false (Nat.not_lt.mpr (Nat.le_trans hl (by decide)))
  refine PySem.P.mul_str (by rw [decide_eq_false (by omega), decide_eq_false (by omega)]; rfl) (fun h1 _ => ?_) (fun _ _ => by rw [Int.toNat_natCast]; exact tl) ?_
  · have hk0 : 0 < k := by omega
    have d : (2 ^ 63 - 1 : Int) / (k : Int) ≥ 1000000 := by
      rw [ge_iff_le, Int.le_ediv_iff_mul_le (by omega)]
      omega
    have e : a.length ≤ 1000000 := Nat.le_trans (Nat.le_mul_of_pos_right _ hk0) hl
    omega
  · have fin : ∀ b : Str, b.cps.toList = (List.replicate k a.cps.toList).flatten → ∀ (t' tk : Nat), EP X pn ρ Q (.str b t') { s with toks := tk } := fun b hb t' tk => ⟨.str b, H, I.tok _, ⟨_, rfl⟩, q b hb⟩
    by_cases c1 : (k : Int) < 1
    · rw [if_pos c1]
      have k0 : k = 0 := by omega
      subst k0
      exact ⟨by decide, fin _ rfl _ _⟩
    · rw [if_neg c1]
      by_cases c2 : ((k : Int) == 1 || a.length == 0) = true
      · rw [if_pos c2]
        refine fin a ?_ t1 s.toks
        rw [Bool.or_eq_true, beq_iff_eq, beq_iff_eq] at c2
        cases c2 with
        | inl z =>
          obtain rfl : k = 1 := by omega
          simp
        | inr z =>
          have z2 : a.cps.toList = [] := List.eq_nil_of_length_eq_zero (by rw [Array.length_toList]; exact z)
          rw [z2]
          simp
      · rw [if_neg c2, Int.toNat_natCast]
        refine ⟨?_, fin _ ?_ _ _⟩
        · show (List.foldl (· ++ ·) #[] (List.replicate k a.cps)).size ≤ sizeLine
          rw [← Array.length_toList, fold_app, List.map_replicate]
          simp only [List.nil_append, List.length_flatten, List.map_replicate, List.sum_replicate_nat, Array.length_toList]
          rw [Nat.mul_comm]
          exact Nat.le_trans hl (by decide)
        · rw [fold_app]
          simp
def aStr : List V → Hp → VK → Prop := fun xs H Q => ∃ i : Int, xs = [.int i] ∧ i.natAbs.log2 < 1920 ∧ Q (.str (toString i)) H
theorem cStr {X : Cx} : CallR X (.type "str") aStr := call_str_int
theorem str_i {i : Int} {H : Hp} {Q : VK} (h1 : i.natAbs < 2 ^ 300) (h : Q (.str (toString i)) H) : aStr [.int i] H Q := ⟨i, rfl, by
  by_cases z : i.natAbs = 0
  · rw [z]; decide
  · exact Nat.lt_of_lt_of_le ((Nat.log2_lt z).mpr h1) (by decide), h⟩
end NW
namespace NW
open PySem PySem.Spec PyProof.Rows L2
/-- an error's field -/
def tXv (K : PySem.W.Frag) (n : Str) (te : TE) : TE := fun σ H Q => te σ H fun x H1 => ∃ (a dx C : Addr) (fs : List (Str × V)) (v : V), x = .ref a ∧ H1 a = some (exo a C (some dx)) ∧ H1 dx = some (exd dx fs) ∧ fs.lookup n = some v ∧ XfC K C ∧ PySem.W.findIn K (.ref C) n = some none ∧ Q v H1
end NW
namespace DS
open PySem PySem.Spec PyProof.Rows L2
def keyS (e : Int × Value) : Str := match e.2 with
  | .str k _ => k
  | _ => ""
def GoodS (w : World) (e : Int × Value) : Prop := ∃ k tk, e.2 = Value.str k tk ∧ e.1 = hashStr w k
structure TxD (w : World) (es : Array (Int × Value)) (t : SetTable) (ks : List Str) : Prop where
  g : ∀ e ∈ es.toList, GoodS w e
  p : (es.toList.map keyS).Perm ks
  n : ks.Nodup
  b : es.size < scanBound
  f : t.fits es.size = true
  r : Ris t.place.toList
  l : w.params.followText "set-order" = true ∨ t.led = true
/-- the set at a holds the texts ks -/
def SetTx (w : World) (h : Heap) (a : Addr) (ks : List Str) : Prop := ∃ o es ep t, h.get? a = some o ∧ o.ExactSet ∧ o.data = .set es ep t ∧ TxD w es t ks
section
variable {P : Program} {w : World} {h h' : Heap} {a : Addr} {ks : List Str}
theorem SetTx.at (R : SetTx w h a ks) (k : ∀ o, h.get? a = some o → h'.get? a = some o) : SetTx w h' a ks := by
  obtain ⟨o, es, ep, t, ho, r⟩ := R
  exact ⟨o, es, ep, t, k o ho, r⟩
theorem TxD.size {es : Array (Int × Value)} {t : SetTable} (D : TxD w es t ks) : es.size = ks.length := by
  rw [← D.p.length_eq, List.length_map, Array.length_toList]
theorem is_S (k : Str) (tk : Tok) : (PySem.strKind P w).is k (.str k tk) = true := by
  show (k == k) = true
  exact beq_self_eq_true k
theorem elems_S {l : List (Int × Value)} (g : ∀ e ∈ l, GoodS w e) : ElemsOf (PySem.strKind P w) l := fun e he => by
  obtain ⟨k, tk, h1, h2⟩ := g e he
  exact ⟨⟨k, by rw [h1]; exact is_S k tk, h2⟩, by rw [h1] <;> rfl⟩
theorem good_isS {e : Int × Value} (g : GoodS w e) (k : Str) : (PySem.strKind P w).is k e.2 = true ↔ keyS e = k := by
  obtain ⟨k0, tk, h1, _⟩ := g
  unfold keyS
  rw [h1]
  show ((k0 == k) = true) ↔ k0 = k
  exact beq_iff_eq
end
section
variable {P : Program} {w : World} {A : Around} {E : Value → Shared → Prop} {s : Shared} {a : Addr} {ks : List Str}
theorem TxD.more {es es' : Array (Int × Value)} {t t' : SetTable} {k : Str} {tk : Tok} (D : TxD w es t ks) (hk : k ∉ ks) (room : ks.length + 1 < scanBound) (pm : List.Perm es'.toList (es.push (hashStr w k, .str k tk)).toList)
    (f : t'.fits es'.size = true) (r : Ris t'.place.toList) (l : t'.led = t.led) : TxD w es' t' (k :: ks) := by
  rw [Array.toList_push] at pm
  have pc : es'.toList.Perm ((hashStr w k, Value.str k tk) :: es.toList) := pm.trans (List.perm_append_singleton _ _)
  have hp : (es'.toList.map keyS).Perm (k :: ks) := (pc.map keyS).trans (D.p.cons k)
  refine ⟨fun e he => ?_, hp, List.nodup_cons.mpr ⟨hk, D.n⟩, ?_, f, r, D.l.imp id fun z => by rw [l]; exact z⟩
  · rcases List.mem_cons.mp (pc.mem_iff.mp he) with z | z
    · rw [z]; exact ⟨k, tk, rfl, rfl⟩
    · exact D.g e z
  · have q := hp.length_eq
    rw [List.length_map, Array.length_toList, List.length_cons] at q
    omega
theorem TxD.relaid {es es' : Array (Int × Value)} {t t' : SetTable} (D : TxD w es t ks) (pm : List.Perm es'.toList es.toList) (f : t'.fits es'.size = true) (r : Ris t'.place.toList) (l : t'.led = t.led) : TxD w es' t' ks := by
  have e : es'.size = es.size := by rw [← Array.length_toList, pm.length_eq, Array.length_toList]
  exact ⟨fun e he => D.g e (pm.mem_iff.mp he), (pm.map keyS).trans D.p, D.n, by rw [e]; exact D.b, f, r, D.l.imp id fun z => by rw [l]; exact z⟩
theorem add_tail {g : Bool → Sem Unit} (hg : ∀ (b : Bool) (s₁ : Shared) (Q' : Unit → Shared → Prop), Q' () s₁ → wpAny (model P w) A (g b) Q' E s₁)
    {o : Obj} {es : Array (Int × Value)} {ep : Nat} {t : SetTable} (ho : s.heap.get? a = some o) (hex : o.ExactSet) (hd : o.data = .set es ep t)
    {es1 : Array (Int × Value)} {t2 : SetTable} (D : TxD w es1 t2 ks) {wasDummy : Bool} {R : Option Bool → Shared → Prop} (hR : ∀ h', Heap.SameBut a s.heap h' → SetTx w h' a ks → R (some true) { s with heap := h' }) :
    wpAny (model P w) A (do
        storeSet a es1 t2
        if (!wasDummy && t2.tooFull) = true then do
            g (relayAll t2 es1 (SetTable.grown es1.size)).2.2
            storeSet a (relayAll t2 es1 (SetTable.grown es1.size)).1 (relayAll t2 es1 (SetTable.grown es1.size)).2.1
            pure (some true)
          else pure (some true)) R E s := by
  refine wpAny_bind (wpAny_storeSet_of ho hd ?_ (fits_of_scanBound D.b))
  have ho1 := store_at (es' := es1) (t' := t2) ho hd
  have sb1 := Heap.SameBut.update s.heap a (Obj.putSet es1 t2)
  split
  · have D2 := D.relaid (relayAll_perm t2 es1 (SetTable.grown es1.size)) (relayAll_fits t2 es1 _) (relayAll_ris t2 es1 _) (relayAll_led t2 es1 _)
    refine wpAny_bind (hg _ _ _ ?_)
    refine wpAny_bind (wpAny_storeSet_of ho1 rfl ?_ (fits_of_scanBound D2.b))
    exact wpAny_pure (hR _ (sb1.trans (Heap.SameBut.update _ a _)) ⟨_, _, _, _, store_at ho1 rfl, hex, rfl, D2⟩)
  · exact wpAny_pure (hR _ sb1 ⟨_, es1, _, t2, ho1, hex, rfl, D⟩)
theorem add_txt {k : Str} {tk : Tok} {Q : Bool → Shared → Prop} (R : SetTx w s.heap a ks) (room : ks.length + 1 < scanBound)
    (hQ : ∀ (b : Bool) h', Heap.SameBut a s.heap h' → SetTx w h' a (if k ∈ ks then ks else k :: ks) → Q b { s with heap := h' }) :
    wpAny (model P w) A (setAddHashed a (.str k tk) ((PySem.strKind P w).hash k)) Q E s := by
  obtain ⟨o, es, ep, t, ho, hex, hd, D⟩ := R
  have hsc : (Value.str k tk).scannable = true := rfl
  have hel : ElemsOf (PySem.strKind P w) es.toList := elems_S D.g
  have mem : k ∈ ks ↔ ∃ e ∈ es.toList, (PySem.strKind P w).is k e.2 = true := by
    rw [← D.p.mem_iff, List.mem_map]
    exact ⟨fun ⟨e, he, q⟩ => ⟨e, he, (good_isS (D.g e he) k).2 q⟩, fun ⟨e, he, q⟩ => ⟨e, he, (good_isS (D.g e he) k).1 q⟩⟩
  unfold setAddHashed setAddHashedIn
  refine wpAny_holding (wpAny_bind (wpAny_setState_of ho hd D.f ?_))
  dsimp only
  rw [byScan_of hsc D.b hel]
  simp only [↓reduceIte]
  unfold setAddByScan
  refine wpAny_bind ?_
  refine wpAny_bind (wpAny_rule ?_)
  refine wpAny_bind (wpAny_setScan_of (is_S k tk) ho hd D.f hel ?_)
  cases hfi : List.findIdx? (fun e => (PySem.strKind P w).is k e.2) es.toList with
  | some j =>
    dsimp only
    obtain ⟨hj, pj, _⟩ := List.findIdx?_eq_some_iff_getElem.mp hfi
    have hk : k ∈ ks := mem.2 ⟨es.toList[j], List.getElem_mem hj, pj⟩
    refine wpAny_pure (wpAny_pure ?_)
    exact hQ false s.heap (Heap.SameBut.refl a s.heap) (by rw [if_pos hk]; exact ⟨o, es, ep, t, ho, hex, hd, D⟩)
  | none =>
    dsimp only
    have hk : k ∉ ks := fun z => by
      obtain ⟨e, he, q⟩ := mem.1 z
      have c := List.findIdx?_eq_none_iff.mp hfi e he
      rw [q] at c
      cases c
    have hgw : ∀ (b : Bool) {s₁ : Shared} {Q' : Unit → Shared → Prop}, Q' () s₁ → wpAny (model P w) A (match b with | true => rule "set.scan.the-table-gave-way" | false => pure ()) Q' E s₁ :=
      fun b s₁ Q' q => by cases b <;> first | exact wpAny_pure q | exact wpAny_rule q
    have D1 : TxD w (layNew t es ((PySem.strKind P w).hash k) (.str k tk)).1 (layNew t es ((PySem.strKind P w).hash k) (.str k tk)).2.1 (k :: ks) :=
      D.more hk room (layNew_perm t es _ _) (layNew_fits t es _ _) (layNew_ris t es _ _ D.r) (layNew_led t es _ _)
    generalize layNew t es ((PySem.strKind P w).hash k) (.str k tk) = Z at D1 ⊢
    obtain ⟨es1, t1, wasDummy, gave⟩ := Z
    dsimp only at D1 ⊢
    have fin : ∀ h', Heap.SameBut a s.heap h' → SetTx w h' a (k :: ks) → Q true { s with heap := h' } := fun h' sb r => hQ true h' sb (by rw [if_neg hk]; exact r)
    refine wpAny_bind (hgw _ ?_)
    split
    · refine wpAny_bind ?_
      rw [hashByValue_scannable 8 hsc]
      refine wpAny_pure ?_
      refine add_tail (ks := k :: ks) ?_ ho hex hd ?_ ?_
      · intro b s₁ Q' q; cases b <;> first | exact wpAny_pure q | exact wpAny_rule q
      · first
          | exact D1
          | (split <;> first | exact D1 | exact ⟨D1.g, D1.p, D1.n, D1.b, SetTable.fits_plain_off D1.f, D1.r, D1.l⟩)
      · intro h' sb r; dsimp only; exact wpAny_pure (fin h' sb r)
    · refine wpAny_bind (wpAny_pure ?_)
      simp only [↓reduceIte]
      refine add_tail (ks := k :: ks) ?_ ho hex hd D1 ?_
      · intro b s₁ Q' q; cases b <;> first | exact wpAny_pure q | exact wpAny_rule q
      · intro h' sb r; dsimp only; exact wpAny_pure (fin h' sb r)
end
end DS
namespace DS
open PySem PySem.Spec PyProof.Rows L2
/-- the texts met, each once -/
def insS (ks : List Str) (k : Str) : List Str := if k ∈ ks then ks else k :: ks
def metS (xs : List Str) : List Str := xs.foldl insS []
theorem metS_snoc (xs : List Str) (k : Str) : metS (xs ++ [k]) = insS (metS xs) k := by
  unfold metS
  rw [List.foldl_append]; rfl
theorem insS_len (ks : List Str) (k : Str) : (insS ks k).length ≤ ks.length + 1 := by
  unfold insS
  split
  · omega
  · exact Nat.le_refl _
theorem insS_mem (ks : List Str) (k j : Str) : j ∈ insS ks k ↔ j ∈ ks ∨ j = k := by
  unfold insS
  split
  · rename_i h
    exact ⟨.inl, fun z => z.elim id fun e => e ▸ h⟩
  · rw [List.mem_cons]; exact Or.comm
theorem foldS_mem : ∀ (xs ks : List Str) (j : Str), j ∈ xs.foldl insS ks ↔ j ∈ ks ∨ j ∈ xs
  | [], ks, j => by simp
  | x :: xs, ks, j => by
    rw [List.foldl_cons, foldS_mem xs, insS_mem, List.mem_cons, or_assoc]
theorem metS_mem (xs : List Str) (j : Str) : j ∈ metS xs ↔ j ∈ xs := by
  unfold metS
  rw [foldS_mem]; simp
theorem metS_take {xs : List Str} {i : Nat} {k : Str} (h : xs[i]? = some k) : metS (xs.take (i + 1)) = insS (metS (xs.take i)) k := by
  rw [List.take_add_one, h]; exact metS_snoc _ _
theorem metS_tlen (xs : List Str) : ∀ i, (metS (xs.take i)).length ≤ i
  | 0 => by rw [List.take_zero]; exact Nat.le_refl _
  | i + 1 => by
    cases h : xs[i]? with
    | some k =>
      rw [metS_take h]
      exact Nat.le_trans (insS_len _ _) (Nat.succ_le_succ (metS_tlen xs i))
    | none =>
      have e : xs.take (i + 1) = xs.take i := by rw [List.take_add_one, h]; exact List.append_nil _
      rw [e]; exact Nat.le_succ_of_le (metS_tlen xs i)
theorem fresh_tx {w : World} {h : Heap} {a : Addr} (ho : h.get? a = some { cls := .type "set", dict := none, data := .set #[] 0 (.fresh 0 0 (!w.params.followText "set-order")) }) : SetTx w h a [] :=
  ⟨_, #[], 0, _, ho, ⟨rfl, rfl, rfl⟩, rfl, (fun e he => by simp at he), List.Perm.refl _, List.nodup_nil, (by decide), (by rfl), List.Pairwise.nil, by
    show _ ∨ (!w.params.followText "set-order") = true
    cases w.params.followText "set-order"
    · exact .inr rfl
    · exact .inl rfl⟩
section
variable {P : Program} {w : World} {A : Around} {E : Value → Shared → Prop} {s : Shared}
theorem update_txts {I : Addr} {fp wr : List Addr} {G : Array GenState → Array GenState → Prop} {n : Nat} {Pv : Nat → Value → Prop} {St : Nat → Shared → Prop} {R : Result → Shared → Prop}
    (W : WalksS P w A.in1 I fp wr G n Pv St) (S : Addr) (hSf : S ∉ fp) (xs : List Str) (hn : n = xs.length) (hb : xs.length + 1 < scanBound) (hval : ∀ i v, Pv i v → ∃ k t, xs[i]? = some k ∧ v = .str k t) :
    ∀ (k i : Nat) (s : Shared), n - i = k → i ≤ n → St i s → SetTx w s.heap S (metS (xs.take i)) →
      (∀ s', Moved (S :: wr) G s s' → SetTx w s'.heap S (metS xs) → R (.ok (.ret .none)) s') → codeAny (model P w) A (.builtin "set.update.loop" ⟨[.ref S, .ref I], []⟩) R s := by
  have hSw : S ∉ wr := fun h => hSf (W.sub _ h)
  have hsub : ∀ b ∈ wr, b ∈ S :: wr := fun b hb => List.mem_cons_of_mem _ hb
  intro k
  induction k with
  | zero =>
    intro i s hk' hi hst hS hR
    obtain rfl : i = n := by omega
    refine codeAny_builtin F.entry_set_update_loop ?_
    rw [Around.under_plainId F.plain_set_update_loop _]
    show wpAny _ A.in1 (pyNext (.ref I) >>= _) _ _ s
    refine wpAny_bind (W.done s _ _ hst fun s' hm => ?_)
    show wpAny _ A.in1 (ret Value.none) _ _ s'
    rw [List.take_of_length_le (by omega)] at hS
    exact wpAny_pure (hR s' (hm.mono hsub) (hS.at fun o e => hm.heap S o hSw e))
  | succ k ih =>
    intro i s hk' hi hst hS hR
    have hlt : i < n := by omega
    refine codeAny_builtin F.entry_set_update_loop ?_
    rw [Around.under_plainId F.plain_set_update_loop _]
    show wpAny _ A.in1 (pyNext (.ref I) >>= _) _ _ s
    refine wpAny_bind (W.item i s _ _ hlt hst fun v s' hP hst' hm => ?_)
    obtain ⟨z, t, hz, rfl⟩ := hval i v hP
    have hS' : SetTx w s'.heap S (metS (xs.take i)) := hS.at fun o e => hm.heap S o hSw e
    have hl := metS_tlen xs i
    show wpAny _ A.in1 (holding [Value.str z t] (setAdd S (.str z t)) >>= _) _ _ s'
    refine wpAny_bind (wpAny_holding ?_)
    unfold setAdd
    refine wpAny_holding ?_
    refine wpAny_bind ((PySem.strKind P w).pyHash (k := z) (is_S z t) ?_)
    refine add_txt (s := { s' with toks := s'.toks + 1 }) hS' (by omega) fun b h' hsb hS2 => ?_
    have hS3 : SetTx w h' S (metS (xs.take (i + 1))) := by rw [metS_take hz]; exact hS2
    refine wpAny_pure ⟨plainId_quiet F.plain_set_update_loop _, ih (i + 1) _ (by omega) hlt (W.frame _ s' _ _ hst' (Nat.le_succ _) fun b hb o e => ?_) hS3 fun s'' hm'' hS'' => ?_⟩
    · rw [hsb.2 b (fun h : b = S => hSf (by rw [← h]; exact hb))]; exact e
    · refine hR s'' (Moved.trans W.gtrans ((hm.mono hsub).then_heap (Nat.le_succ _) fun b o hb e => ?_) hm'') hS''
      rw [hsb.2 b (fun h : b = S => hb (by rw [h]; exact List.mem_cons_self))]; exact e
theorem strs_at : ∀ {vs : List Value} {xs : List Str}, StrsAre vs xs → ∀ (i : Nat) (v : Value), vs[i]? = some v → ∃ k t, xs[i]? = some k ∧ v = .str k t
  | _, _, .nil, i, v, h => by cases h
  | _, _, .cons x t r, 0, v, h => ⟨x, t, rfl, (Option.some.inj h).symm⟩
  | _, _, .cons x t r, i + 1, v, h => strs_at r i v h
theorem call_set_list {l : Addr} {items : Array Value} (xs : List Str) {Q : Value → Shared → Prop} (hh : A.handled = none) (hl : s.heap.IsList l items) (hit : StrsAre items.toList xs) (hb : xs.length + 1 < scanBound)
    (h : ∀ (h' : Heap) (tk : Nat), SetTx w h' s.heap.objs.size (metS xs) → (∀ b o, s.heap.get? b = some o → h'.get? b = some o) → Q (.ref s.heap.objs.size) { s with heap := h', toks := tk }) :
    wpAny (model P w) A (call (.type "set") [.ref l]) Q E s := by
  have hisz : items.size = xs.length := by
    have q := hit.length
    rw [Array.length_toList] at q
    exact q
  obtain ⟨c, tl, hmro⟩ := F.called_set.mro
  have hmade := F.called_set.made
  have hsub := F.called_set.sub
  refine wpAny_call (codeAny_of_tree ?_)
  show wpAny _ _ (callAny (.type "set") _) _ _ _
  refine wpAny_pure ⟨Code.quiet_builtin _ (by decide +kernel), codeAny_builtin F.entry_type_call ?_⟩
  rw [Around.under_plain (weight_type_call_type "set" [.ref l] []) rfl]
  have h1 := F.called_set.notType
  have h2 := F.called_set.canCreate
  have hct := F.typeCall_set_1 (.ref l)
  repeat (any_goals (first | assumption | wp_step))
  refine codeAny_mono (code_set_led1 (.ref l) (E := E) (Q₁ := fun obj s₁ => obj = .ref s.heap.objs.size ∧ s₁ = { s with heap := s.heap.push { cls := .type "set", dict := none, data := .set #[] 0 (.fresh 0 0 (!w.params.followText "set-order")) } }) ⟨rfl, rfl⟩) fun r s₁ hr => ?_
  cases r with
  | error e => exact hr
  | ok fl =>
    cases fl with
    | ret obj =>
      obtain ⟨rfl, rfl⟩ := hr
      have hS : (s.heap.push { cls := .type "set", dict := none, data := .set #[] 0 (.fresh 0 0 (!w.params.followText "set-order")) }).get? s.heap.objs.size = some { cls := .type "set", dict := none, data := .set #[] 0 (.fresh 0 0 (!w.params.followText "set-order")) } := Heap.get?_push_size _ rfl
      have hT : Shared.TypeIs { s with heap := (s.heap.push { cls := .type "set", dict := none, data := .set #[] 0 (.fresh 0 0 (!w.params.followText "set-order")) }) } (.ref s.heap.objs.size) "set" := ⟨_, hS, rfl⟩
      have hli := F.called_set.init.lookup
      have hbi := F.called_set.init.bind (.ref s.heap.objs.size)
      repeat (any_goals (first | assumption | wp_step))
      refine codeAny_mono (codeAny_call_builtin (R := wants (fun r s₂ => r = .none ∧ ∃ h' tk, s₂ = { s with heap := h', toks := tk } ∧ SetTx w h' s.heap.objs.size (metS xs) ∧
          (∀ b o, s.heap.get? b = some o → h'.get? b = some o)) E) F.called_set.init.plain F.entry_set_init (check_set_init_1 hT ?_)) fun r₂ s₂ hr₂ => ?_
      · obtain ⟨ol, hol, hcl, nl, hdl⟩ := hl
        obtain ⟨ocls, odict, odata, oslots⟩ := ol
        simp only at hcl hdl
        subst hcl; subst hdl
        have hol' : (s.heap.push { cls := .type "set", dict := none, data := .set #[] 0 (.fresh 0 0 (!w.params.followText "set-order")) }).get? l = some { cls := .type "list", dict := odict, data := .seq items nl, slots := oslots } := Heap.get?_push_of_some _ hol
        have hsls := F.sub_list_set
        have hslf := F.sub_list_frozenset
        have hne : (Value.type "list" == Value.type "dict") = false := by decide
        have hl1 : (s.heap.push { cls := .type "set", dict := none, data := .set #[] 0 (.fresh 0 0 (!w.params.followText "set-order")) }).IsList l items := ⟨_, hol', rfl, nl, rfl⟩
        unfold Builtin.«set.__init__» noKeywords Builtin.Frozenset.updateFrom
        generalize hPI : pyIter = PI
        wp_walk
        subst hPI
        refine wpAny_pyIter_list hl1 ?_
        refine wpAny_bind (wpAny_runValue ?_)
        have hlS : l < s.heap.objs.size := Heap.lt_size hol
        have hh3 : A.in1.in1.in1.handled = none := by simp [hh]
        have hneI : l ≠ (s.heap.push { cls := .type "set", dict := none, data := .set #[] 0 (.fresh 0 0 (!w.params.followText "set-order")) }).objs.size := by
          rw [Heap.size_push]; exact Nat.ne_of_lt (Nat.lt_succ_of_lt hlS)
        have hSf : s.heap.objs.size ∉ [(s.heap.push { cls := .type "set", dict := none, data := .set #[] 0 (.fresh 0 0 (!w.params.followText "set-order")) }).objs.size, l] := by
          rw [Heap.size_push]; simp only [List.mem_cons, List.mem_singleton, List.not_mem_nil, or_false, not_or]
          exact ⟨Nat.ne_of_lt (Nat.lt_succ_self _), Nat.ne_of_gt hlS⟩
        have hval : ∀ (i : Nat) (v : Value), items[i]? = some v → ∃ k t, xs[i]? = some k ∧ v = .str k t := fun i v hv => strs_at hit i v (by rw [Array.getElem?_toList]; exact hv)
        refine update_txts ((Walks.list hh3 _ l hneI items).toS) s.heap.objs.size
          hSf xs hisz hb hval (items.size - 0) 0 _ (by omega) (Nat.zero_le _)
          ⟨⟨_, Heap.get?_push_size _ rfl, rfl, rfl⟩, (hl1.push _)⟩ ?hS0 ?hR
        case hS0 =>
          have hget : ((s.heap.push { cls := .type "set", dict := none, data := .set #[] 0 (.fresh 0 0 (!w.params.followText "set-order")) }).push { cls := .type "list_iterator", data := .fields #[.ref l, .int 0 0] }).get? s.heap.objs.size = some { cls := .type "set", dict := none, data := .set #[] 0 (.fresh 0 0 (!w.params.followText "set-order")) } := Heap.get?_push_of_some _ hS
          exact fresh_tx hget
        case hR =>
          intro s' hm hS'
          obtain ⟨h', g2, d', tk', os'⟩ := s'
          have eg : g2 = s.gens := hm.gens
          have ed : d' = s.drawn := hm.drawn
          have eo : os' = s.os := hm.os
          subst eg; subst ed; subst eo
          show wpAny _ _ _ _ _ _
          refine wpAny_pure ?_
          show wpAny _ _ (ret Value.none) _ _ _
          refine wpAny_pure ⟨rfl, h', tk', rfl, hS', fun b o e => ?_⟩
          have hb0 : b < s.heap.objs.size := Heap.lt_size e
          have hb1 : b ≠ s.heap.objs.size := Nat.ne_of_lt hb0
          have hb2 : b ≠ (s.heap.push { cls := .type "set", dict := none, data := .set #[] 0 (.fresh 0 0 (!w.params.followText "set-order")) }).objs.size := by
            rw [Heap.size_push]; exact Nat.ne_of_lt (Nat.lt_succ_of_lt hb0)
          exact hm.heap b o (by simp only [List.mem_cons, List.mem_singleton, List.not_mem_nil, or_false, not_or]; exact ⟨hb1, hb2⟩) (Heap.get?_push_of_some _ (Heap.get?_push_of_some _ e))
      · cases r₂ with
        | error e => exact hr₂
        | ok fl₂ =>
          cases fl₂ with
          | ret r =>
            obtain ⟨rfl, h', tk, rfl, hS', hk'⟩ := hr₂
            repeat (any_goals (first | assumption | wp_step))
            exact h _ _ hS' hk'
          | _ => exact hr₂.elim
    | _ => exact hr.elim
theorem call_set_tuple {l : Addr} {items : Array Value} (xs : List Str) {Q : Value → Shared → Prop} (hh : A.handled = none) (hl : s.heap.IsTuple l items) (hit : StrsAre items.toList xs) (hb : xs.length + 1 < scanBound)
    (h : ∀ (h' : Heap) (tk : Nat), SetTx w h' s.heap.objs.size (metS xs) → (∀ b o, s.heap.get? b = some o → h'.get? b = some o) → Q (.ref s.heap.objs.size) { s with heap := h', toks := tk }) :
    wpAny (model P w) A (call (.type "set") [.ref l]) Q E s := by
  have hisz : items.size = xs.length := by
    have q := hit.length
    rw [Array.length_toList] at q
    exact q
  obtain ⟨c, tl, hmro⟩ := F.called_set.mro
  have hmade := F.called_set.made
  have hsub := F.called_set.sub
  refine wpAny_call (codeAny_of_tree ?_)
  show wpAny _ _ (callAny (.type "set") _) _ _ _
  refine wpAny_pure ⟨Code.quiet_builtin _ (by decide +kernel), codeAny_builtin F.entry_type_call ?_⟩
  rw [Around.under_plain (weight_type_call_type "set" [.ref l] []) rfl]
  have h1 := F.called_set.notType
  have h2 := F.called_set.canCreate
  have hct := F.typeCall_set_1 (.ref l)
  repeat (any_goals (first | assumption | wp_step))
  refine codeAny_mono (code_set_led1 (.ref l) (E := E) (Q₁ := fun obj s₁ => obj = .ref s.heap.objs.size ∧ s₁ = { s with heap := s.heap.push { cls := .type "set", dict := none, data := .set #[] 0 (.fresh 0 0 (!w.params.followText "set-order")) } }) ⟨rfl, rfl⟩) fun r s₁ hr => ?_
  cases r with
  | error e => exact hr
  | ok fl =>
    cases fl with
    | ret obj =>
      obtain ⟨rfl, rfl⟩ := hr
      have hS : (s.heap.push { cls := .type "set", dict := none, data := .set #[] 0 (.fresh 0 0 (!w.params.followText "set-order")) }).get? s.heap.objs.size = some { cls := .type "set", dict := none, data := .set #[] 0 (.fresh 0 0 (!w.params.followText "set-order")) } := Heap.get?_push_size _ rfl
      have hT : Shared.TypeIs { s with heap := (s.heap.push { cls := .type "set", dict := none, data := .set #[] 0 (.fresh 0 0 (!w.params.followText "set-order")) }) } (.ref s.heap.objs.size) "set" := ⟨_, hS, rfl⟩
      have hli := F.called_set.init.lookup
      have hbi := F.called_set.init.bind (.ref s.heap.objs.size)
      repeat (any_goals (first | assumption | wp_step))
      refine codeAny_mono (codeAny_call_builtin (R := wants (fun r s₂ => r = .none ∧ ∃ h' tk, s₂ = { s with heap := h', toks := tk } ∧ SetTx w h' s.heap.objs.size (metS xs) ∧
          (∀ b o, s.heap.get? b = some o → h'.get? b = some o)) E) F.called_set.init.plain F.entry_set_init (check_set_init_1 hT ?_)) fun r₂ s₂ hr₂ => ?_
      · obtain ⟨ol, hol, hcl, nl, hdl⟩ := hl
        obtain ⟨ocls, odict, odata, oslots⟩ := ol
        simp only at hcl hdl
        subst hcl; subst hdl
        have hol' : (s.heap.push { cls := .type "set", dict := none, data := .set #[] 0 (.fresh 0 0 (!w.params.followText "set-order")) }).get? l = some { cls := .type "tuple", dict := odict, data := .seq items nl, slots := oslots } := Heap.get?_push_of_some _ hol
        have hsls := F.sub_tuple_set
        have hslf := F.sub_tuple_frozenset
        have hne : (Value.type "tuple" == Value.type "dict") = false := by decide
        have hl1 : (s.heap.push { cls := .type "set", dict := none, data := .set #[] 0 (.fresh 0 0 (!w.params.followText "set-order")) }).IsTuple l items := ⟨_, hol', rfl, nl, rfl⟩
        unfold Builtin.«set.__init__» noKeywords Builtin.Frozenset.updateFrom
        generalize hPI : pyIter = PI
        wp_walk
        subst hPI
        refine wpAny_pyIter_tuple hl1 ?_
        refine wpAny_bind (wpAny_runValue ?_)
        have hlS : l < s.heap.objs.size := Heap.lt_size hol
        have hh3 : A.in1.in1.in1.handled = none := by simp [hh]
        have hneI : l ≠ (s.heap.push { cls := .type "set", dict := none, data := .set #[] 0 (.fresh 0 0 (!w.params.followText "set-order")) }).objs.size := by
          rw [Heap.size_push]; exact Nat.ne_of_lt (Nat.lt_succ_of_lt hlS)
        have hSf : s.heap.objs.size ∉ [(s.heap.push { cls := .type "set", dict := none, data := .set #[] 0 (.fresh 0 0 (!w.params.followText "set-order")) }).objs.size, l] := by
          rw [Heap.size_push]; simp only [List.mem_cons, List.mem_singleton, List.not_mem_nil, or_false, not_or]
          exact ⟨Nat.ne_of_lt (Nat.lt_succ_self _), Nat.ne_of_gt hlS⟩
        have hval : ∀ (i : Nat) (v : Value), items[i]? = some v → ∃ k t, xs[i]? = some k ∧ v = .str k t := fun i v hv => strs_at hit i v (by rw [Array.getElem?_toList]; exact hv)
        refine update_txts ((Walks.tuple hh3 _ l hneI items).toS) s.heap.objs.size
          hSf xs hisz hb hval (items.size - 0) 0 _ (by omega) (Nat.zero_le _)
          ⟨⟨_, Heap.get?_push_size _ rfl, rfl, rfl⟩, (hl1.push _)⟩ ?hS0 ?hR
        case hS0 =>
          have hget : ((s.heap.push { cls := .type "set", dict := none, data := .set #[] 0 (.fresh 0 0 (!w.params.followText "set-order")) }).push { cls := .type "tuple_iterator", data := .fields #[.ref l, .int 0 0] }).get? s.heap.objs.size = some { cls := .type "set", dict := none, data := .set #[] 0 (.fresh 0 0 (!w.params.followText "set-order")) } := Heap.get?_push_of_some _ hS
          exact fresh_tx hget
        case hR =>
          intro s' hm hS'
          obtain ⟨h', g2, d', tk', os'⟩ := s'
          have eg : g2 = s.gens := hm.gens
          have ed : d' = s.drawn := hm.drawn
          have eo : os' = s.os := hm.os
          subst eg; subst ed; subst eo
          show wpAny _ _ _ _ _ _
          refine wpAny_pure ?_
          show wpAny _ _ (ret Value.none) _ _ _
          refine wpAny_pure ⟨rfl, h', tk', rfl, hS', fun b o e => ?_⟩
          have hb0 : b < s.heap.objs.size := Heap.lt_size e
          have hb1 : b ≠ s.heap.objs.size := Nat.ne_of_lt hb0
          have hb2 : b ≠ (s.heap.push { cls := .type "set", dict := none, data := .set #[] 0 (.fresh 0 0 (!w.params.followText "set-order")) }).objs.size := by
            rw [Heap.size_push]; exact Nat.ne_of_lt (Nat.lt_succ_of_lt hb0)
          exact hm.heap b o (by simp only [List.mem_cons, List.mem_singleton, List.not_mem_nil, or_false, not_or]; exact ⟨hb1, hb2⟩) (Heap.get?_push_of_some _ (Heap.get?_push_of_some _ e))
      · cases r₂ with
        | error e => exact hr₂
        | ok fl₂ =>
          cases fl₂ with
          | ret r =>
            obtain ⟨rfl, h', tk, rfl, hS', hk'⟩ := hr₂
            repeat (any_goals (first | assumption | wp_step))
            exact h _ _ hS' hk'
          | _ => exact hr₂.elim
    | _ => exact hr.elim
end
end DS
namespace DS
open PySem PySem.Spec PyProof.Rows L2
section
variable {P : Program} {w : World} {A : Around} {E : Value → Shared → Prop} {s : Shared}
theorem strs_vals : ∀ {es : List (Int × Value)}, (∀ e ∈ es, GoodS w e) → StrsAre (es.map (·.2)) (es.map keyS)
  | [], _ => .nil
  | e :: es, g => by
    obtain ⟨k, tk, h1, _⟩ := g e List.mem_cons_self
    obtain ⟨h, v⟩ := e
    simp only at h1
    subst h1
    exact .cons k tk (strs_vals fun e he => g e (List.mem_cons_of_mem _ he))
theorem strs_perm {vs us : List Value} {xs : List Str} (p : vs.Perm us) (h : StrsAre us xs) : ∃ ys, StrsAre vs ys ∧ ys.Perm xs := by
  induction p generalizing xs with
  | nil => exact ⟨xs, h, .refl _⟩
  | cons v _ ih =>
    cases h with
    | cons x t r =>
      obtain ⟨ys, h1, h2⟩ := ih r
      exact ⟨x :: ys, .cons x t h1, h2.cons x⟩
  | swap v u l =>
    cases h with
    | cons x t r => cases r with
      | cons y t' r => exact ⟨y :: x :: _, .cons y t' (.cons x t r), .swap _ _ _⟩
  | trans _ _ ih1 ih2 =>
    obtain ⟨ys, h1, h2⟩ := ih2 h
    obtain ⟨zs, h3, h4⟩ := ih1 h1
    exact ⟨zs, h3, h4.trans h2⟩
theorem sorted_tx {a : Addr} {ks : List Str} {Q : Value → Shared → Prop} (R : SetTx w s.heap a ks) (hh : A.handled = none)
    (hQ : ∀ s' p (out : Array Value) (c : Nat) (ys : List Str), (∀ b o, s.heap.get? b = some o → s'.heap.get? b = some o) → s'.gens = s.gens → s'.os = s.os → s.heap.objs.size ≤ p →
      s'.heap.get? p = some (seqObj "list" out c) → StrsAre out.toList ys → ys.Perm ks → sortedS ys = true → Q (.ref p) s') :
    wpAny (model P w) A (call (.builtin "sorted") [.ref a]) Q E s := by
  obtain ⟨o, es, ep, t, ho, hex, hd, D⟩ := R
  refine Calls.call_function_entry kind_sorted plain_sorted entry_sorted (args_sorted1 _) ?_
  unfold Builtin.«sorted»
  refine wpAny_bind (m := checkCount "sorted" 1 1 _) (wpAny_pure ?_)
  refine wpAny_bind (collect_set (A := A.in1) hh ⟨o, ho, hex.1, hd⟩ D.f D.b D.r D.l fun s1 vs k1 hz g1 o1 pm => ?_)
  obtain ⟨xs, hI, hp⟩ := strs_perm pm (strs_vals D.g)
  have hl : vs.length ≤ sizeLine := by
    have q := pm.length_eq
    rw [List.length_map] at q
    have b := fits_of_scanBound D.b
    rw [q]; exact b
  refine wpAny_bind (wpAny_newList ?_ hl)
  have hoL : (s1.heap.push (seqObj "list" vs.toArray 0)).get? s1.heap.objs.size = some (seqObj "list" vs.toArray 0) := Heap.get?_push_size _ rfl
  refine wpAny_bind (wpAny_holding (wpAny_call_entry slot_list_sort ⟨_, hoL, rfl⟩ entry_list_sort (list_sort_treeKAny strKind_oneLt hoL hI.keysOf (fun v₁ v₂ rest e => keyKind_strs (by rw [← e]; exact hI)) hl fun st' a1 a2 => ⟨_, rfl, ?_⟩) (args_list_sort _)))
  obtain ⟨ys, h1, h2, h3⟩ := sorted_out_str hI a1 a2
  obtain ⟨c, hc⟩ := sortedHeap_at (vs := vs) (out := (arrOf st').map (·.2)) hoL
  refine wpAny_pure ⟨_, rfl, hQ _ s1.heap.objs.size _ c ys (fun b u e => ?_) g1 o1 hz hc h1 (h2.trans (hp.trans D.p)) h3⟩
  have q := k1 b u e
  have hlt := Heap.lt_size q
  show (sortedHeap (s1.heap.push (seqObj "list" vs.toArray 0)) s1.heap.objs.size vs ((arrOf st').map (·.2))).get? b = some u
  rw [sortedHeap_old (Nat.ne_of_lt hlt) (by rw [size_push']; exact Nat.lt_succ_of_lt hlt)]
  exact Heap.get?_push_of_some _ q
end
section
variable {X : Cx}
/-- sorted(set(xs)), xs a list or tuple of texts -/
def tSortSet (K : PySem.W.Frag) (ta : TE) : TE := fun σ H Q => ta σ H fun x H1 => ∃ l, ∃ xs : List Str, x = .ref l ∧ (SqL K H1 l (xs.map V.str) ∨ SqT K H1 l (xs.map V.str)) ∧ xs.length ≤ 2000 ∧
  ∀ (ys : List Str) (p : Addr), ys.Perm (metS xs) → sortedS ys = true → H1 p = none → Q (.ref p) (upd H1 p (.lst (ys.map V.str)))
theorem pe_sortSet {a : Expr} {ta : TE} {p p2 q pos : Pos} (hc : X.calm = true) (hg : Gl X "sorted") (hm : X.mg "sorted" = none) (hg2 : Gl X "set") (hm2 : X.mg "set" = none) (ha : PE X a ta)
    (na : starEach [a] X.env = (false, eval a X.env) :: starEach [] X.env := by rfl) : PE X (.Call (.Name "sorted" p) [.Call (.Name "set" p2) [a] [] q] [] pos) (tSortSet X.K ta) := by
  refine ⟨fun pins s σ H Q I h => ?_⟩
  refine Call_ (ld_blt I hg hm PyProof.Rows.boot_sorted ?_)
  refine PyProof.Rows.callWith_builtin1 (PyProof.Rows.args_cons ?_ rfl) rfl rfl
  refine Call_ (ld_blt I hg2 hm2 PyProof.Rows.boot_set ?_)
  refine PyProof.Rows.callWith_type1 (PyProof.Rows.args_cons (thn (ha.run pins s σ H _ I h) fun v s1 ⟨x, H1, I1, r1, q1⟩ => PyProof.Rows.args_nil ?_) na) na rfl
  obtain ⟨l, xs, rfl, hq, h1, q1⟩ := q1
  cases r1
  have hd := I1.ok.hd hc
  have fin : ∀ (h' : Heap) (tk : Nat), SetTx X.w h' s1.heap.objs.size (metS xs) → (∀ b o, s1.heap.get? b = some o → h'.get? b = some o) →
      wpAny (model X.prog X.w) X.A (spliced (backTo pos (starEach [] X.env))) (fun vs s₂ => wpAny (model X.prog X.w) X.A (call (.builtin "sorted") (Value.ref s1.heap.objs.size :: vs)) (EP X pins σ Q) X.xe s₂) X.xe { s1 with heap := h', toks := tk } := fun h' tk R hk => by
    refine PyProof.Rows.args_nil ?_
    have I2 : Inv X pins σ H1 { s1 with heap := h', toks := tk } := I1.kept hk
    refine sorted_tx (s := { s1 with heap := h', toks := tk }) R hd fun s' p out c ys k g o hp hgt hi hs hm => ?_
    have hlen : (ys.map V.str).length ≤ sizeLine := by
      have z := metS_tlen xs xs.length
      rw [List.take_length] at z
      rw [List.length_map, hs.length_eq, sizeLine_eq]; omega
    have hn : H1 p = none := I2.hok.fresh hp
    have J : Inv X pins σ (upd H1 p (.lst (ys.map V.str))) s' := I2.call' (ch := []) o (Un.laid k hp hn) (I2.hok.laid k hp ⟨hlen, out.toList, c, vals_of_strs hi, hgt⟩) (by rw [g]; exact I2.bare) (fun _ z => nomatch z)
    exact ⟨.ref p, _, J, rfl, q1 ys p hs hm hn⟩
  rcases hq with hq | hq
  · obtain ⟨its, r, pl, hz⟩ := I1.list hq
    exact call_set_list xs hd pl.isList (by simpa using strsAre_of r) (by unfold scanBound; omega) fun h' tk hS hk => fin h' tk hS hk
  · obtain ⟨its, r, pl, hz⟩ := I1.tuple hq
    exact call_set_tuple xs hd pl (by simpa using strsAre_of r) (by unfold scanBound; omega) fun h' tk hS hk => fin h' tk hS hk
end
end DS
namespace DL
open PySem PySem.Spec PyProof.Rows L2 NW
inductive DV where
  | non
  | bl (b : Bool)
  | int (i : Int)
  | str (s : Str)
  | lst (xs : List DV)
  | tup (xs : List DV)
  | dic (ks : List Key) (xs : List DV)
  | obj (C : Addr) (ns : List Str) (xs : List DV)
  | ktu (K : PySem.W.Frag)
  | err (C : Addr) (ns : List Str) (xs : List DV)
  | hote (a C d : Addr) (ns : List Str) (xs : List DV)
  | sto
/-- the empty tuple of the written part -/
def KTu (K : PySem.W.Frag) (a : Addr) : Prop := ∃ (o : Obj) (its : Array Value) (n : Nat), K.lookup a = some o ∧ o.cls = .type "tuple" ∧ o.data = .seq its n ∧ its.size ≤ sizeLine ∧ Vals [] its.toList
/-- the store of draws, what nobody may reach, the error that is handled (its address, its class, its dict) -/
structure Wd where
  st : Option Addr
  hid : Addr → Prop
def Wd.ok (W : Wd) (a : Addr) : Prop := W.st ≠ some a ∧ ¬ W.hid a
def Kp (st : Option Addr) (H H' : Hp) : Prop := match st with
  | none => Same H H'
  | some a => Keep a H H'
def StoW (st : Option Addr) (H : Hp) : Prop := match st with
  | none => True
  | some a => Sto H a
structure Wd.Ok (W : Wd) (H : Hp) : Prop where
  s : StoW W.st H
  h : ∀ a, W.hid a → (∃ o, H a = some o) ∧ W.st ≠ some a
section
variable {st : Option Addr} {H H1 H2 : Hp} {b p : Addr} {ob : HO}
theorem Kp.o (k : Kp st H H1) (h : H b = some ob) (n : st ≠ some b) : H1 b = some ob := by
  cases st with
  | none => exact k b ob h
  | some a => exact Keep.o k b ob h fun e => n (by rw [e])
theorem Kp.refl (st : Option Addr) (H : Hp) : Kp st H H := by
  cases st with
  | none => exact fun _ _ z => z
  | some a => exact Keep.refl a H
theorem Kp.trans (a : Kp st H H1) (b : Kp st H1 H2) : Kp st H H2 := by
  cases st with
  | none => exact fun c o z => b c o (a c o z)
  | some x => exact Keep.trans a b
theorem Kp.same (s : Same H H1) : Kp st H H1 := by
  cases st with
  | none => exact s
  | some a => exact Keep.same s
theorem Kp.new (a : Kp st H H1) (hp : H1 p = none) : Kp st H (upd H1 p ob) := a.trans (Kp.same (same_new hp))
theorem Kp.own (a : Kp st H H1) (hp : H p = none) (hn : st ≠ some p) : Kp st H (upd H1 p ob) := by
  cases st with
  | none =>
    intro c u z
    have e : c ≠ p := ne_of_none z hp
    rw [upd_ne e]; exact a c u z
  | some x => exact Keep.own a hp fun e => hn (by rw [e])
theorem StoW.same (s : Same H H1) (h : StoW st H) : StoW st H1 := by
  cases st with
  | none => trivial
  | some a => exact Sto.mono s h
theorem StoW.ne (h : StoW st H) (hp : H p = none) : st ≠ some p := by
  cases st with
  | none => intro e; cases e
  | some a => exact fun e => Sto.ne h hp (Option.some.inj e).symm
end
section
variable {W : Wd} {H H1 : Hp} {p : Addr} {o : HO}
theorem Wd.Ok.mono (h : W.Ok H) (k : Kp W.st H H1) (s : StoW W.st H1) : W.Ok H1 := ⟨s, fun a ha => ⟨by
  obtain ⟨⟨o, ho⟩, n⟩ := h.h a ha
  exact ⟨o, k.o ho n⟩, (h.h a ha).2⟩⟩
theorem Wd.Ok.same (h : W.Ok H) (s : Same H H1) : W.Ok H1 := h.mono (Kp.same s) (h.s.same s)
theorem Wd.Ok.new (h : W.Ok H) (hp : H p = none) : W.Ok (upd H p o) := h.same (same_new hp)
theorem Wd.Ok.fresh (h : W.Ok H) (hp : H p = none) : W.ok p := ⟨h.s.ne hp, fun z => by
  obtain ⟨⟨o, ho⟩, _⟩ := h.h p z
  rw [hp] at ho; cases ho⟩
end
mutual
inductive Is (W : Wd) (H : Hp) : V → DV → Prop where
  | non : Is W H .non .non
  | bl (b : Bool) : Is W H (.bl b) (.bl b)
  | int (i : Int) : Is W H (.int i) (.int i)
  | str (s : Str) : Is W H (.str s) (.str s)
  | lst {a : Addr} {vs : List V} {xs : List DV} : H a = some (.lst vs) → W.ok a → vs.length ≤ 1000000 → Iss W H vs xs → Is W H (.ref a) (.lst xs)
  | tup {a : Addr} {vs : List V} {xs : List DV} : H a = some (.tup vs) → W.ok a → vs.length ≤ 1000000 → Iss W H vs xs → Is W H (.ref a) (.tup xs)
  | dic {a : Addr} {kvs : List (Key × V)} {ks : List Key} {xs : List DV} : H a = some (.dK kvs) → W.ok a → kvs.length ≤ 1000000 → kvs.map (·.1) = ks → ks.Nodup → Iss W H (kvs.map (·.2)) xs → Is W H (.ref a) (.dic ks xs)
  | obj {a dx : Addr} {C : Addr} {fs : List (Str × V)} {ns : List Str} {xs : List DV} : H a = some (.ins C dx fs) → W.ok a → fs.map (·.1) = ns → Iss W H (fs.map (·.2)) xs → Is W H (.ref a) (.obj C ns xs)
  | err {a dx : Addr} {C : Addr} {fs : List (Str × V)} {ns : List Str} {xs : List DV} : H a = some (exo a C (some dx)) → H dx = some (exd dx fs) → W.ok a → W.ok dx → fs.map (·.1) = ns → Iss W H (fs.map (·.2)) xs → Is W H (.ref a) (.err C ns xs)
  | err0 {a C : Addr} : H a = some (exo a C none) → W.ok a → Is W H (.ref a) (.err C [] [])
  | hot {a dx : Addr} {C : Addr} {fs : List (Str × V)} {ns : List Str} {xs : List DV} : H dx = some (.xd fs) → W.ok dx → fs.map (·.1) = ns → Iss W H (fs.map (·.2)) xs → Is W H (.ref a) (.hote a C dx ns xs)
  | sto {a : Addr} : W.st = some a → Is W H (.ref a) .sto
  | ktu {a : Addr} {K : PySem.W.Frag} : KTu K a → Is W H (.ref a) (.ktu K)
inductive Iss (W : Wd) (H : Hp) : List V → List DV → Prop where
  | nil : Iss W H [] []
  | cons {v : V} {vs : List V} {x : DV} {xs : List DV} : Is W H v x → Iss W H vs xs → Iss W H (v :: vs) (x :: xs)
end
section
variable {W W' : Wd} {H H' : Hp}
mutual
theorem Is.tr (e1 : W'.st = W.st) (k : ∀ b o, W.ok b → H b = some o → W'.ok b ∧ H' b = some o) : ∀ {v : V} {d : DV}, Is W H v d → Is W' H' v d
  | _, _, .non => .non
  | _, _, .bl b => .bl b
  | _, _, .int i => .int i
  | _, _, .str x => .str x
  | _, _, .lst h o l t => .lst (k _ _ o h).2 (k _ _ o h).1 l (Iss.tr e1 k t)
  | _, _, .tup h o l t => .tup (k _ _ o h).2 (k _ _ o h).1 l (Iss.tr e1 k t)
  | _, _, .dic h o l e n t => .dic (k _ _ o h).2 (k _ _ o h).1 l e n (Iss.tr e1 k t)
  | _, _, .obj h o e t => .obj (k _ _ o h).2 (k _ _ o h).1 e (Iss.tr e1 k t)
  | _, _, .err h h2 o o2 e t => .err (k _ _ o h).2 (k _ _ o2 h2).2 (k _ _ o h).1 (k _ _ o2 h2).1 e (Iss.tr e1 k t)
  | _, _, .err0 h o => .err0 (k _ _ o h).2 (k _ _ o h).1
  | _, _, .hot h o e t => .hot (k _ _ o h).2 (k _ _ o h).1 e (Iss.tr e1 k t)
  | _, _, .sto z => .sto (e1.trans z)
  | _, _, .ktu z => .ktu z
theorem Iss.tr (e1 : W'.st = W.st) (k : ∀ b o, W.ok b → H b = some o → W'.ok b ∧ H' b = some o) : ∀ {vs : List V} {ds : List DV}, Iss W H vs ds → Iss W' H' vs ds
  | _, _, .nil => .nil
  | _, _, .cons a t => .cons (Is.tr e1 k a) (Iss.tr e1 k t)
end
theorem Is.mono (k : Kp W.st H H') {v : V} {d : DV} (h : Is W H v d) : Is W H' v d := h.tr rfl fun _ _ o z => ⟨o, k.o z o.1⟩
theorem Iss.mono (k : Kp W.st H H') {vs : List V} {ds : List DV} (h : Iss W H vs ds) : Iss W H' vs ds := h.tr rfl fun _ _ o z => ⟨o, k.o z o.1⟩
/-- an object that nobody reaches is changed -/
theorem Is.off {a : Addr} {u : HO} (n : ¬ W.ok a) {v : V} {d : DV} (h : Is W H v d) : Is W (upd H a u) v d := h.tr rfl fun b o k z => ⟨k, by rw [upd_ne (fun e => n (by rw [← e]; exact k))]; exact z⟩
theorem Iss.off {a : Addr} {u : HO} (n : ¬ W.ok a) {vs : List V} {ds : List DV} (h : Iss W H vs ds) : Iss W (upd H a u) vs ds := h.tr rfl fun b o k z => ⟨k, by rw [upd_ne (fun e => n (by rw [← e]; exact k))]; exact z⟩
end
section
variable {W : Wd} {H : Hp}
theorem Iss.len : ∀ {vs : List V} {xs : List DV}, Iss W H vs xs → vs.length = xs.length
  | _, _, .nil => rfl
  | _, _, .cons _ t => congrArg (· + 1) (Iss.len t)
theorem Iss.get : ∀ {vs : List V} {xs : List DV} {i : Nat} {x : DV}, Iss W H vs xs → xs[i]? = some x → ∃ v, vs[i]? = some v ∧ Is W H v x
  | _, _, _, _, .nil, h => by simp at h
  | _, _, 0, _, .cons a _, h => ⟨_, rfl, by
    have e := Option.some.inj h
    rw [← e]; exact a⟩
  | _, _, i + 1, x, .cons _ t, h => Iss.get (i := i) t h
theorem Iss.get' : ∀ {vs : List V} {xs : List DV} {i : Nat} {v : V}, Iss W H vs xs → vs[i]? = some v → ∃ x, xs[i]? = some x ∧ Is W H v x
  | _, _, _, _, .nil, h => by simp at h
  | _, _, 0, _, .cons a _, h => ⟨_, rfl, by
    have e := Option.some.inj h
    rw [← e]; exact a⟩
  | _, _, i + 1, x, .cons _ t, h => Iss.get' (i := i) t h
theorem Iss.app : ∀ {vs ws : List V} {xs ys : List DV}, Iss W H vs xs → Iss W H ws ys → Iss W H (vs ++ ws) (xs ++ ys)
  | _, _, _, _, .nil, h => h
  | _, _, _, _, .cons a t, h => .cons a (Iss.app t h)
theorem Iss.take : ∀ {vs : List V} {xs : List DV} (n : Nat), Iss W H vs xs → Iss W H (vs.take n) (xs.take n)
  | _, _, 0, _ => .nil
  | _, _, _ + 1, .nil => .nil
  | _, _, n + 1, .cons a t => .cons a (Iss.take n t)
theorem Iss.drop : ∀ {vs : List V} {xs : List DV} (n : Nat), Iss W H vs xs → Iss W H (vs.drop n) (xs.drop n)
  | _, _, 0, h => h
  | _, _, _ + 1, .nil => .nil
  | _, _, n + 1, .cons _ t => Iss.drop n t
theorem Iss.set {v : V} {x : DV} (hv : Is W H v x) : ∀ {vs : List V} {xs : List DV} (n : Nat), Iss W H vs xs → Iss W H (vs.set n v) (xs.set n x)
  | _, _, _, .nil => .nil
  | _, _, 0, .cons _ t => .cons hv t
  | _, _, n + 1, .cons a t => .cons a (Iss.set hv n t)
theorem Iss.erase : ∀ {vs : List V} {xs : List DV} (n : Nat), Iss W H vs xs → Iss W H (vs.eraseIdx n) (xs.eraseIdx n)
  | _, _, _, .nil => .nil
  | _, _, 0, .cons _ t => t
  | _, _, n + 1, .cons a t => .cons a (Iss.erase n t)
end
inductive Sl where
  | un
  | dt (d : DV)
  | ow (xs : List DV)
  | od (ks : List Key) (xs : List DV)
  | oi (C : Addr) (ns : List Str) (xs : List DV)
abbrev Env := List Sl
structure IsE (W : Wd) (own : Nat → Option Addr) (H : Hp) (σ : L2.St) (ρ : Env) : Prop where
  len : σ.length = ρ.length
  dt : ∀ (i : Nat) (d : DV), ρ[i]? = some (Sl.dt d) → ∃ v, σ[i]? = some (some v) ∧ Is W H v d
  ow : ∀ (i : Nat) (xs : List DV), ρ[i]? = some (Sl.ow xs) → ∃ a vs, own i = some a ∧ σ[i]? = some (some (.ref a)) ∧ H a = some (.lst vs) ∧ vs.length ≤ 1000000 ∧ Iss W H vs xs
  od : ∀ (i : Nat) (ks : List Key) (xs : List DV), ρ[i]? = some (Sl.od ks xs) → ∃ a kvs, own i = some a ∧ σ[i]? = some (some (.ref a)) ∧ H a = some (.dK kvs) ∧ (kvs.length ≤ 1000000 ∧ kvs.map (·.1) = ks ∧ ks.Nodup) ∧ Iss W H (kvs.map (·.2)) xs
  oi : ∀ (i : Nat) (C : Addr) (ns : List Str) (xs : List DV), ρ[i]? = some (Sl.oi C ns xs) → ∃ a fs, own i = some a ∧ σ[i]? = some (some (.ref a)) ∧ (∃ dx, H a = some (.ins C dx fs)) ∧ (fs.length ≤ 500 ∧ fs.map (·.1) = ns ∧ ns.Nodup) ∧ Iss W H (fs.map (·.2)) xs
  hd : ∀ (i : Nat) (a : Addr), own i = some a → W.hid a
/-- a value that is read at once: data, or a list of the def's own -/
def IsP (W : Wd) (own : Nat → Option Addr) (H : Hp) (v : V) (d : DV) : Prop := Is W H v d ∨ ∃ (i : Nat) (a : Addr) (vs : List V) (xs : List DV), own i = some a ∧ W.hid a ∧ v = .ref a ∧ d = .lst xs ∧ H a = some (.lst vs) ∧ vs.length ≤ 1000000 ∧ Iss W H vs xs
section
variable {W : Wd} {own : Nat → Option Addr} {H H' : Hp} {σ : L2.St} {ρ : Env}
theorem IsE.mono (h : IsE W own H σ ρ) (o : W.Ok H) (k : Kp W.st H H') : IsE W own H' σ ρ := ⟨h.len, fun i d e => by
  obtain ⟨v, a, b⟩ := h.dt i d e
  exact ⟨v, a, b.mono k⟩, fun i xs e => by
  obtain ⟨a, vs, h1, h2, h3, h4, h5⟩ := h.ow i xs e
  exact ⟨a, vs, h1, h2, k.o h3 (o.h a (h.hd i a h1)).2, h4, h5.mono k⟩, fun i ks xs e => by
  obtain ⟨a, kvs, h1, h2, h3, h4, h5⟩ := h.od i ks xs e
  exact ⟨a, kvs, h1, h2, k.o h3 (o.h a (h.hd i a h1)).2, h4, h5.mono k⟩, fun i C ns xs e => by
  obtain ⟨a, fs, h1, h2, ⟨dx, h3⟩, h4, h5⟩ := h.oi i C ns xs e
  exact ⟨a, fs, h1, h2, ⟨dx, k.o h3 (o.h a (h.hd i a h1)).2⟩, h4, h5.mono k⟩, h.hd⟩
theorem IsP.mono {v : V} {d : DV} (h : IsP W own H v d) (o : W.Ok H) (k : Kp W.st H H') : IsP W own H' v d := by
  rcases h with h | ⟨i, a, vs, xs, h1, h2, h3, h4, h5, h6, h7⟩
  · exact .inl (h.mono k)
  · exact .inr ⟨i, a, vs, xs, h1, h2, h3, h4, k.o h5 (o.h a h2).2, h6, h7.mono k⟩
theorem IsP.lst {v : V} {xs : List DV} (h : IsP W own H v (.lst xs)) : ∃ a vs, v = .ref a ∧ H a = some (.lst vs) ∧ vs.length ≤ 1000000 ∧ Iss W H vs xs := by
  rcases h with h | ⟨i, a, vs, ys, h1, h2, h3, h4, h5, h6, h7⟩
  · cases h with
    | lst a b c d => exact ⟨_, _, rfl, a, c, d⟩
  · cases h4
    exact ⟨a, vs, h3, h5, h6, h7⟩
theorem IsP.is {v : V} {d : DV} (h : IsP W own H v d) (n : ∀ xs, d ≠ .lst xs) : Is W H v d := by
  rcases h with h | ⟨i, a, vs, ys, h1, h2, h3, h4, h5, h6, h7⟩
  · exact h
  · exact absurd h4 (n ys)
theorem IsP.int {v : V} {i : Int} (h : IsP W own H v (.int i)) : v = .int i := by
  cases h.is (fun _ e => nomatch e); rfl
theorem IsP.bl {v : V} {i : Bool} (h : IsP W own H v (.bl i)) : v = .bl i := by
  cases h.is (fun _ e => nomatch e); rfl
theorem IsP.str {v : V} {i : Str} (h : IsP W own H v (.str i)) : v = .str i := by
  cases h.is (fun _ e => nomatch e); rfl
theorem IsP.non {v : V} (h : IsP W own H v .non) : v = .non := by
  cases h.is (fun _ e => nomatch e); rfl
theorem IsP.tup {v : V} {xs : List DV} (h : IsP W own H v (.tup xs)) : ∃ a vs, v = .ref a ∧ H a = some (.tup vs) ∧ vs.length ≤ 1000000 ∧ Iss W H vs xs := by
  cases h.is (fun _ e => nomatch e) with
  | tup a b c d => exact ⟨_, _, rfl, a, c, d⟩
end
abbrev WE := Env → (DV → Prop) → Prop
abbrev WT := Env → (Bool → Prop) → Prop
abbrev WA := Env → (List DV → Prop) → Prop
def Fin (W : Wd) (H : Hp) (R : DV → Prop) (Q : VK) : Prop := ∀ d v H', R d → Kp W.st H H' → W.Ok H' → Is W H' v d → Q v H'
def FinP (W : Wd) (own : Nat → Option Addr) (H : Hp) (R : DV → Prop) (Q : VK) : Prop := ∀ d v H', R d → Kp W.st H H' → W.Ok H' → IsP W own H' v d → Q v H'
def lift (w : WE) : TE := fun σ H Q => ∃ W own ρ R, W.Ok H ∧ IsE W own H σ ρ ∧ w ρ R ∧ Fin W H R Q
def liftP (w : WE) : TE := fun σ H Q => ∃ W own ρ R, W.Ok H ∧ IsE W own H σ ρ ∧ w ρ R ∧ FinP W own H R Q
def liftT (w : WT) : TT := fun σ H Q => ∃ W own ρ R, W.Ok H ∧ IsE W own H σ ρ ∧ w ρ R ∧ ∀ b H', R b → Kp W.st H H' → W.Ok H' → Q b H'
def liftA (w : WA) : TA := fun σ H Q => ∃ W own ρ R, W.Ok H ∧ IsE W own H σ ρ ∧ w ρ R ∧ ∀ ds vs H', R ds → Kp W.st H H' → W.Ok H' → Iss W H' vs ds → Q vs H'
def liftB (w : WA) : TA := fun σ H Q => ∃ W own ρ R, W.Ok H ∧ IsE W own H σ ρ ∧ w ρ R ∧ ∀ ds vs H', R ds → Kp W.st H H' → W.Ok H' → Paired (IsP W own H') vs ds → Q vs H'
section
variable {W : Wd} {own : Nat → Option Addr} {H H' : Hp} {R : DV → Prop} {Q : VK}
theorem FinP.p (h : FinP W own H R Q) : Fin W H R Q := fun d v H' r k o i => h d v H' r k o (.inl i)
theorem Fin.at (f : Fin W H R Q) (o : W.Ok H) {v : V} {d : DV} (i : Is W H v d) (r : R d) : Q v H := f d v H r (Kp.refl _ _) o i
theorem Fin.int (f : Fin W H R Q) (o : W.Ok H) {i : Int} (r : R (.int i)) : Q (.int i) H := f.at o (.int i) r
theorem Fin.bl (f : Fin W H R Q) (o : W.Ok H) {i : Bool} (r : R (.bl i)) : Q (.bl i) H := f.at o (.bl i) r
theorem Fin.str (f : Fin W H R Q) (o : W.Ok H) {i : Str} (r : R (.str i)) : Q (.str i) H := f.at o (.str i) r
theorem Fin.non (f : Fin W H R Q) (o : W.Ok H) (r : R .non) : Q .non H := f.at o .non r
theorem Fin.lst (f : Fin W H R Q) (o : W.Ok H) {vs : List V} {xs : List DV} (l : vs.length ≤ 1000000) (i : Iss W H vs xs) (r : R (.lst xs)) : NewR (.lst vs) H Q := fun q hq =>
  f (.lst xs) (.ref q) _ r (Kp.same (same_new hq)) (o.new hq) (.lst upd_same (o.fresh hq) l (i.mono (Kp.same (same_new hq))))
theorem Fin.tup (f : Fin W H R Q) (o : W.Ok H) {vs : List V} {xs : List DV} (l : vs.length ≤ 1000000) (i : Iss W H vs xs) (r : R (.tup xs)) : NewR (.tup vs) H Q := fun q hq =>
  f (.tup xs) (.ref q) _ r (Kp.same (same_new hq)) (o.new hq) (.tup upd_same (o.fresh hq) l (i.mono (Kp.same (same_new hq))))
theorem Fin.mono (f : Fin W H R Q) (k : Kp W.st H H') : Fin W H' R Q := fun d v H2 r k2 o i => f d v H2 r (k.trans k2) o i
theorem FinP.mono (f : FinP W own H R Q) (k : Kp W.st H H') : FinP W own H' R Q := fun d v H2 r k2 o i => f d v H2 r (k.trans k2) o i
end
section
variable {X : Cx} {e a b c : Expr} {w wa wb wc : WE} {pos : Pos}
theorem dp (h : PE X e (lift w)) : PE X e (liftP w) := pe_weak h fun σ H Q q => by
  obtain ⟨W, own, ρ, R, o, i, z, f⟩ := q
  exact ⟨W, own, ρ, R, o, i, z, f.p⟩
def atV (R : DV → Prop) : Option Sl → Prop
  | some (.dt d) => R d
  | _ => False
theorem atV_ex {R : DV → Prop} {o : Option Sl} (h : atV R o) : ∃ d, o = some (.dt d) ∧ R d := by
  unfold atV at h
  split at h
  · exact ⟨_, rfl, h⟩
  · exact h.elim
def atP (R : DV → Prop) : Option Sl → Prop
  | some (.dt d) => R d
  | some (.ow xs) => R (.lst xs)
  | _ => False
theorem atP_ex {R : DV → Prop} {o : Option Sl} (h : atP R o) : (∃ d, o = some (.dt d) ∧ R d) ∨ ∃ xs, o = some (.ow xs) ∧ R (.lst xs) := by
  unfold atP at h
  split at h
  · exact .inl ⟨_, rfl, h⟩
  · exact .inr ⟨_, rfl, h⟩
  · exact h.elim
def wV (i : Nat) : WE := fun ρ R => atV R ρ[i]?
/-- a name that is read at once -/
def wVP (i : Nat) : WE := fun ρ R => atP R ρ[i]?
theorem dv {e : Expr} (i : Nat) (h : PE X e (tVar i)) : PE X e (lift (wV i)) := pe_weak h fun σ H Q q => by
  obtain ⟨W, own, ρ, R, o, i', z, f⟩ := q
  obtain ⟨d, z, r⟩ := atV_ex z
  obtain ⟨v, hv, hi⟩ := i'.dt _ _ z
  exact ⟨v, hv, f.at o hi r⟩
theorem dvP {e : Expr} (i : Nat) (h : PE X e (tVar i)) : PE X e (liftP (wVP i)) := pe_weak h fun σ H Q q => by
  obtain ⟨W, own, ρ, R, o, i', z, f⟩ := q
  rcases atP_ex z with ⟨d, z, r⟩ | ⟨xs, z, r⟩
  · obtain ⟨v, hv, hi⟩ := i'.dt _ _ z
    exact ⟨v, hv, f _ _ _ r (Kp.refl _ _) o (.inl hi)⟩
  · obtain ⟨a, vs, h1, h2, h3, h4, h5⟩ := i'.ow _ _ z
    exact ⟨_, h2, f _ _ _ r (Kp.refl _ _) o (.inr ⟨i, a, vs, xs, h1, i'.hd _ _ h1, rfl, rfl, h3, h4, h5⟩)⟩
def wC (d : DV) : WE := fun _ R => R d
theorem dc {v : V} {d : DV} (h : PE X e (tC v)) (i : ∀ W H, Is W H v d) : PE X e (lift (wC d)) := pe_weak h fun σ H Q q => by
  obtain ⟨W, own, ρ, R, o, _, r, f⟩ := q
  exact f.at o (i W H) r
theorem dc_int {i : Int} {k} : PE X (.Constant (.int i) k pos) (lift (wC (.int i))) := dc pe_int fun _ _ => .int _
theorem dc_bl {i : Bool} {k} : PE X (.Constant (.bool i) k pos) (lift (wC (.bl i))) := dc pe_bl fun _ _ => .bl _
theorem dc_str {i : Str} {k} : PE X (.Constant (.str i) k pos) (lift (wC (.str i))) := dc pe_str fun _ _ => .str _
def aN : WA := fun _ R => R []
def aC (w : WE) (r : WA) : WA := fun ρ R => w ρ fun d => r ρ fun ds => R (d :: ds)
variable {es : List Expr} {r : WA}
theorem pa_weak {t t' : TA} (h : PA X es t) (w : ∀ σ H Q, t' σ H Q → t σ H Q) : PA X es t' := ⟨fun p pins s σ H Q I q => h.run p pins s σ H Q I (w σ H Q q)⟩
theorem dan : PA X [] (liftA aN) := pa_weak pa_nil fun σ H Q q => by
  obtain ⟨W, own, ρ, R, o, _, r, f⟩ := q
  exact f _ _ _ r (Kp.refl _ _) o .nil
theorem dac (ha : PE X a (lift w)) (hr : PA X es (liftA r)) (he : starEach (a :: es) X.env = (false, eval a X.env) :: starEach es X.env := by rfl) : PA X (a :: es) (liftA (aC w r)) := pa_weak (pa_cons ha hr he) fun σ H Q q => by
  obtain ⟨W, own, ρ, R, o, i, z, f⟩ := q
  refine ⟨W, own, ρ, _, o, i, z, fun d v H1 r1 k1 o1 i1 => ⟨W, own, ρ, _, o1, i.mono o k1, r1, fun ds vs H2 r2 k2 o2 i2 => ?_⟩⟩
  exact f _ _ _ r2 (k1.trans k2) o2 (.cons (i1.mono k2) i2)
theorem dbn : PA X [] (liftB aN) := pa_weak pa_nil fun σ H Q q => by
  obtain ⟨W, own, ρ, R, o, _, r, f⟩ := q
  exact f _ _ _ r (Kp.refl _ _) o .nil
theorem dbc (ha : PE X a (liftP w)) (hr : PA X es (liftB r)) (he : starEach (a :: es) X.env = (false, eval a X.env) :: starEach es X.env := by rfl) : PA X (a :: es) (liftB (aC w r)) := pa_weak (pa_cons ha hr he) fun σ H Q q => by
  obtain ⟨W, own, ρ, R, o, i, z, f⟩ := q
  refine ⟨W, own, ρ, _, o, i, z, fun d v H1 r1 k1 o1 i1 => ⟨W, own, ρ, _, o1, i.mono o k1, r1, fun ds vs H2 r2 k2 o2 i2 => ?_⟩⟩
  exact f _ _ _ r2 (k1.trans k2) o2 (.cons (i1.mono o1 k2) i2)
def wL (r : WA) : WE := fun ρ R => r ρ fun ds => ds.length ≤ 1000000 ∧ R (.lst ds)
def wTu (r : WA) : WE := fun ρ R => r ρ fun ds => ds.length ≤ 1000000 ∧ R (.tup ds)
theorem dlst (h : PA X es (liftA r)) : PE X (.List es pos) (lift (wL r)) := pe_weak (pe_lst h) fun σ H Q q => by
  obtain ⟨W, own, ρ, R, o, i, z, f⟩ := q
  refine ⟨W, own, ρ, _, o, i, z, fun ds vs H1 r1 k1 o1 i1 => ⟨?_, ?_⟩⟩
  · rw [i1.len]; exact Nat.le_trans r1.1 (by decide)
  · exact (f.mono k1).lst o1 (by rw [i1.len]; exact r1.1) i1 r1.2
end
section
variable {X : Cx} {a b c : Expr} {w wa wb wc : WE} {pos : Pos}
abbrev D2 := DV → DV → (DV → Prop) → Prop
def wOp (d : D2) (wa wb : WE) : WE := fun ρ R => wa ρ fun x => wb ρ fun y => d x y R
/-- the reading r serves the data's d -/
def Op (r : R2) (d : D2) : Prop := ∀ W own H x y a b R Q, W.Ok H → IsP W own H x a → IsP W own H y b → d a b R → Fin W H R Q → r x y H Q
theorem op_tr {r : R2} {d : D2} (h : Op r d) {ta tb : TE} {wa wb : WE} (ea : ta = liftP wa) (eb : tb = liftP wb) : ∀ σ H Q, lift (wOp d wa wb) σ H Q → tOp r ta tb σ H Q := fun σ H Q q => by
  obtain ⟨W, own, ρ, R, o, i, z, f⟩ := q
  subst ea eb
  refine ⟨W, own, ρ, _, o, i, z, fun x v H1 r1 k1 o1 i1 => ⟨W, own, ρ, _, o1, i.mono o k1, r1, fun y u H2 r2 k2 o2 i2 => ?_⟩⟩
  exact h W own H2 v u x y R Q o2 (i1.mono o1 k2) i2 r2 (f.mono (k1.trans k2))
end
end DL
namespace DL
open PySem PySem.Spec PyProof.Rows L2 NW
theorem le_line {n : Nat} (h : n ≤ 1000000) : n ≤ sizeLine := Nat.le_trans h (by decide)
theorem lt_line {n : Nat} (h : n < 1000000) : n < sizeLine := Nat.lt_of_lt_of_le h (by decide)
/-- behind it stands a list of its own: nobody else holds it -/
def FinF (W : Wd) (H : Hp) (R : List DV → Prop) (Q : VK) : Prop := ∀ (xs : List DV) (vs : List V) (q : Addr) (H1 : Hp), R xs → Kp W.st H H1 → W.Ok H1 → Iss W H1 vs xs → vs.length ≤ 1000000 → H1 q = none → Q (.ref q) (upd H1 q (.lst vs))
abbrev WF := Env → (List DV → Prop) → Prop
def liftF (w : WF) : TE := fun σ H Q => ∃ W own ρ R, W.Ok H ∧ IsE W own H σ ρ ∧ w ρ R ∧ FinF W H R Q
def wF (w : WF) : WE := fun ρ R => w ρ fun xs => R (.lst xs)
section
variable {W : Wd} {own : Nat → Option Addr} {H H' : Hp} {R : List DV → Prop} {Q : VK}
theorem FinF.new (f : FinF W H R Q) (o : W.Ok H) {vs : List V} {xs : List DV} (l : vs.length ≤ 1000000) (i : Iss W H vs xs) (r : R xs) : NewR (.lst vs) H Q := fun q hq => f xs vs q H r (Kp.refl _ _) o i l hq
theorem FinF.mono (f : FinF W H R Q) (k : Kp W.st H H') : FinF W H' R Q := fun xs vs q H1 r k1 => f xs vs q H1 r (k.trans k1)
theorem Fin.f {R : DV → Prop} (f : Fin W H R Q) : FinF W H (fun xs => R (.lst xs)) Q := fun xs vs q H1 r k o i l hq =>
  f (.lst xs) (.ref q) _ r (k.trans (Kp.same (same_new hq))) (o.new hq) (.lst upd_same (o.fresh hq) l (i.mono (Kp.same (same_new hq))))
end
section
variable {X : Cx} {e a b c : Expr} {w wa wb wc : WE} {pos : Pos}
theorem df {f : WF} (h : PE X e (liftF f)) : PE X e (lift (wF f)) := pe_weak h fun σ H Q q => by
  obtain ⟨W, own, ρ, R, o, i, z, g⟩ := q
  exact ⟨W, own, ρ, _, o, i, z, g.f⟩
def fL (r : WA) : WF := fun ρ R => r ρ fun ds => ds.length ≤ 1000000 ∧ R ds
theorem dlstF {es : List Expr} {r : WA} (h : PA X es (liftA r)) : PE X (.List es pos) (liftF (fL r)) := pe_weak (pe_lst h) fun σ H Q q => by
  obtain ⟨W, own, ρ, R, o, i, z, f⟩ := q
  refine ⟨W, own, ρ, _, o, i, z, fun ds vs H1 r1 k1 o1 i1 => ⟨?_, ?_⟩⟩
  · rw [i1.len]; exact le_line r1.1
  · exact (f.mono k1).new o1 (by rw [i1.len]; exact r1.1) i1 r1.2
end
def dAdd : D2 := fun a b R => match a, b with
  | .int i, .int j => R (.int (i + j))
  | .str i, .str j => i.length + j.length ≤ 1000000 ∧ R (.str (i ++ j))
  | .lst xs, .lst ys => xs.length + ys.length ≤ 1000000 ∧ R (.lst (xs ++ ys))
  | _, _ => False
theorem opAdd : Op aAdd dAdd := by
  intro W own H x y a b R Q o hx hy hd f
  unfold dAdd at hd
  split at hd
  · cases hx.int; cases hy.int
    exact add_ii (f.int o hd)
  · cases hx.str; cases hy.str
    exact add_ss hd.1 (f.str o hd.2)
  · obtain ⟨p, vs, rfl, h1, h2, h3⟩ := hx.lst
    obtain ⟨q, us, rfl, g1, g2, g3⟩ := hy.lst
    have l : vs.length + us.length ≤ 1000000 := by rw [h3.len, g3.len]; exact hd.1
    exact add_ll h1 g1 l (f.f.new o (by rw [List.length_append]; exact l) (h3.app g3) hd.2)
  · exact hd.elim
/-- xs + ys, a new list -/
def fCat (wa wb : WE) : WF := fun ρ R => wa ρ fun x => wb ρ fun y => match x, y with
  | .lst xs, .lst ys => xs.length + ys.length ≤ 1000000 ∧ R (xs ++ ys)
  | _, _ => False
def dSub : D2 := fun a b R => match a, b with
  | .int i, .int j => R (.int (i - j))
  | _, _ => False
theorem opSub : Op aSub dSub := by
  intro W own H x y a b R Q o hx hy hd f
  unfold dSub at hd
  split at hd
  · cases hx.int; cases hy.int
    exact sub_ii (f.int o hd)
  · exact hd.elim
def dMul : D2 := fun a b R => match a, b with
  | .int i, .int j => ((-(2 ^ 64) < i ∧ i < 2 ^ 64) ∨ (-(2 ^ 64) < j ∧ j < 2 ^ 64)) ∧ R (.int (i * j))
  | _, _ => False
/-- a text so many times -/
def repS (a : Str) (k : Nat) : Str := ⟨((List.replicate k a.cps.toList).flatten).toArray⟩
def dMulS : D2 := fun a b R => match a, b with
  | .str i, .int j => 0 ≤ j ∧ j ≤ 1000000 ∧ i.length * j.toNat ≤ 1000000 ∧ R (.str (repS i j.toNat))
  | _, _ => False
theorem opMulS : Op rMulS dMulS := by
  intro W own H x y a b R Q o hx hy hd f
  unfold dMulS at hd
  split at hd
  · rename_i i j
    cases hx.str; cases hy.int
    obtain ⟨h0, h1, h2, r⟩ := hd
    refine ⟨i, j.toNat, rfl, ?_, by omega, h2, fun b hb => ?_⟩
    · rw [Int.toNat_of_nonneg h0]
    · have e : b = repS i j.toNat := by
        obtain ⟨cps⟩ := b
        unfold repS
        rw [← hb]
      rw [e]; exact f.str o r
  · exact hd.elim
def dMulL : D2 := fun a b R => match a, b with
  | .lst xs, .int j => j ≤ 1000000 ∧ -1000000 ≤ j ∧ xs.length * j.toNat ≤ 1000000 ∧ R (.lst (List.replicate j.toNat xs).flatten)
  | _, _ => False
def dDiv : D2 := fun a b R => match a, b with
  | .int i, .int j => (0 < j ∧ j < 2 ^ 300) ∧ R (.int (i / j))
  | _, _ => False
theorem opDiv : Op aDiv dDiv := by
  intro W own H x y a b R Q o hx hy hd f
  unfold dDiv at hd
  split at hd
  · cases hx.int; cases hy.int
    exact div_ii hd.1.1 hd.1.2 (f.int o hd.2)
  · exact hd.elim
def dMod : D2 := fun a b R => match a, b with
  | .int i, .int j => 0 < j ∧ R (.int (i % j))
  | _, _ => False
theorem opMod : Op aMod dMod := by
  intro W own H x y a b R Q o hx hy hd f
  unfold dMod at hd
  split at hd
  · cases hx.int; cases hy.int
    exact mod_ii hd.1 (f.int o hd.2)
  · exact hd.elim
def ltS (a b : Str) : Bool := decide (a.cps.toList < b.cps.toList)
def dLt : D2 := fun a b R => match a, b with
  | .int i, .int j => R (.bl (decide (i < j)))
  | .str i, .str j => R (.bl (ltS i j))
  | _, _ => False
def dLe : D2 := fun a b R => match a, b with
  | .int i, .int j => R (.bl (decide (i ≤ j)))
  | .str i, .str j => R (.bl (!ltS j i))
  | _, _ => False
def dGt : D2 := fun a b R => match a, b with
  | .int i, .int j => R (.bl (decide (j < i)))
  | .str i, .str j => R (.bl (ltS j i))
  | _, _ => False
def dGe : D2 := fun a b R => match a, b with
  | .int i, .int j => R (.bl (decide (j ≤ i)))
  | .str i, .str j => R (.bl (!ltS i j))
  | _, _ => False
def rLtS : R2 := fun x y H Q => ∃ i j, x = .str i ∧ y = .str j ∧ Q (.bl (decide (i.cps.toList < j.cps.toList))) H
def rLeS : R2 := fun x y H Q => ∃ i j, x = .str i ∧ y = .str j ∧ Q (.bl (!decide (j.cps.toList < i.cps.toList))) H
def rGtS : R2 := fun x y H Q => ∃ i j, x = .str i ∧ y = .str j ∧ Q (.bl (decide (j.cps.toList < i.cps.toList))) H
def rGeS : R2 := fun x y H Q => ∃ i j, x = .str i ∧ y = .str j ∧ Q (.bl (!decide (i.cps.toList < j.cps.toList))) H
def bLt : R2 := fun x y H Q => aLt x y H Q ∨ rLtS x y H Q
def bLe : R2 := fun x y H Q => aLe x y H Q ∨ rLeS x y H Q
def bGt : R2 := fun x y H Q => aGt x y H Q ∨ rGtS x y H Q
def bGe : R2 := fun x y H Q => aGe x y H Q ∨ rGeS x y H Q
theorem kLt {X : Cx} : OpR X (compareOp .Lt) bLt := orOp oLt op_lt_str
theorem kLe {X : Cx} : OpR X (compareOp .LtE) bLe := orOp oLe op_le_str
theorem kGt {X : Cx} : OpR X (compareOp .Gt) bGt := orOp oGt op_gt_str
theorem kGe {X : Cx} : OpR X (compareOp .GtE) bGe := orOp oGe op_ge_str
theorem opLt : Op bLt dLt := by
  intro W own H x y a b R Q o hx hy hd f
  unfold dLt at hd
  split at hd
  · cases hx.int; cases hy.int
    exact .inl (lt_ii (f.bl o hd))
  · cases hx.str; cases hy.str
    exact .inr ⟨_, _, rfl, rfl, f.bl o hd⟩
  · exact hd.elim
theorem opLe : Op bLe dLe := by
  intro W own H x y a b R Q o hx hy hd f
  unfold dLe at hd
  split at hd
  · cases hx.int; cases hy.int
    exact .inl (le_ii (f.bl o hd))
  · cases hx.str; cases hy.str
    exact .inr ⟨_, _, rfl, rfl, f.bl o hd⟩
  · exact hd.elim
theorem opGt : Op bGt dGt := by
  intro W own H x y a b R Q o hx hy hd f
  unfold dGt at hd
  split at hd
  · cases hx.int; cases hy.int
    exact .inl (gt_ii (f.bl o hd))
  · cases hx.str; cases hy.str
    exact .inr ⟨_, _, rfl, rfl, f.bl o hd⟩
  · exact hd.elim
theorem opGe : Op bGe dGe := by
  intro W own H x y a b R Q o hx hy hd f
  unfold dGe at hd
  split at hd
  · cases hx.int; cases hy.int
    exact .inl (ge_ii (f.bl o hd))
  · cases hx.str; cases hy.str
    exact .inr ⟨_, _, rfl, rfl, f.bl o hd⟩
  · exact hd.elim
/-- == of scalars -/
def eqD (a b : DV) (R : Bool → Prop) : Prop := match a, b with
  | .int i, .int j => R (decide (i = j))
  | .str i, .str j => R (decide (i = j))
  | .bl i, .bl j => R (decide (i = j))
  | _, _ => False
def dEq : D2 := fun a b R => eqD a b fun k => R (.bl k)
def dNe : D2 := fun a b R => eqD a b fun k => R (.bl (!k))
theorem eqD_sc {W : Wd} {own : Nat → Option Addr} {H : Hp} {x y : V} {a b : DV} {R : Bool → Prop} (hx : IsP W own H x a) (hy : IsP W own H y b) (h : eqD a b R) : scal x y = true ∧ R (decide (x = y)) := by
  unfold eqD at h
  split at h
  · cases hx.int; cases hy.int
    refine ⟨rfl, ?_⟩
    rw [dec_int, Bool.beq_eq_decide_eq]; exact h
  · rename_i i j
    cases hx.str; cases hy.str
    refine ⟨rfl, ?_⟩
    have e : decide (V.str i = V.str j) = decide (i = j) := decide_eq_decide.mpr ⟨fun z => V.str.inj z, fun z => by rw [z]⟩
    rw [e]; exact h
  · cases hx.bl; cases hy.bl
    refine ⟨rfl, ?_⟩
    rw [dec_bl, Bool.beq_eq_decide_eq]; exact h
  · exact h.elim
theorem opEq : Op aEq dEq := by
  intro W own H x y a b R Q o hx hy hd f
  obtain ⟨h1, h2⟩ := eqD_sc hx hy hd
  exact eq_sc h1 (f.bl o h2)
def inD (a b : DV) (R : Bool → Prop) : Prop := match a, b with
  | .str s, .str t => ∃ c, s = ⟨#[c]⟩ ∧ R (decide (c ∈ t.cps.toList))
  | .str s, .lst xs => ∃ ss : List Str, xs = ss.map DV.str ∧ R (decide (s ∈ ss))
  | .str s, .tup xs => ∃ ss : List Str, xs = ss.map DV.str ∧ R (decide (s ∈ ss))
  | .int s, .lst xs => ∃ ss : List Int, xs = ss.map DV.int ∧ R (decide (s ∈ ss))
  | .int s, .tup xs => ∃ ss : List Int, xs = ss.map DV.int ∧ R (decide (s ∈ ss))
  | _, _ => False
def dIn : D2 := fun a b R => inD a b fun k => R (.bl k)
def dNi : D2 := fun a b R => inD a b fun k => R (.bl (!k))
def rInSg (n : Bool) : R2 := fun x y H Q => ∃ (c : Nat) (z : Str), x = .str ⟨#[c]⟩ ∧ y = .str z ∧ Q (.bl (if n then !decide (c ∈ z.cps.toList) else decide (c ∈ z.cps.toList))) H
def bIn (K : PySem.W.Frag) (n : Bool) : R2 := fun x y H Q => rIn K n x y H Q ∨ rInSg n x y H Q
theorem kIn {X : Cx} : OpR X (compareOp .In) (bIn X.K false) := orOp op_in_seq op_in_sign
theorem kNi {X : Cx} : OpR X (compareOp .NotIn) (bIn X.K true) := orOp op_notIn_seq op_notIn_sign
theorem iss_str {W : Wd} {H : Hp} : ∀ {ss : List Str} {vs : List V}, Iss W H vs (ss.map DV.str) → vs = ss.map V.str
  | [], _, .nil => rfl
  | s :: ss, _, .cons (.str _) t => by rw [iss_str t]; rfl
theorem iss_int {W : Wd} {H : Hp} : ∀ {ss : List Int} {vs : List V}, Iss W H vs (ss.map DV.int) → vs = ss.map V.int
  | [], _, .nil => rfl
  | s :: ss, _, .cons (.int _) t => by rw [iss_int t]; rfl
theorem iss_bl {W : Wd} {H : Hp} : ∀ {ss : List Bool} {vs : List V}, Iss W H vs (ss.map DV.bl) → vs = ss.map V.bl
  | [], _, .nil => rfl
  | s :: ss, _, .cons (.bl _) t => by rw [iss_bl t]; rfl
theorem str_iss {W : Wd} {H : Hp} : ∀ ss : List Str, Iss W H (ss.map V.str) (ss.map DV.str)
  | [] => .nil
  | s :: ss => .cons (.str s) (str_iss ss)
theorem flat_strs (ss : List Str) : (ss.map V.str).all flatV = true := by
  rw [List.all_eq_true]; intro x hx
  obtain ⟨s, _, rfl⟩ := List.mem_map.mp hx
  rfl
theorem flat_ints (ss : List Int) : (ss.map V.int).all flatV = true := by
  rw [List.all_eq_true]; intro x hx
  obtain ⟨s, _, rfl⟩ := List.mem_map.mp hx
  rfl
theorem in_strs (s : Str) (ss : List Str) : inV (.str s) (ss.map V.str) = decide (s ∈ ss) := by
  unfold inV
  rw [List.any_map, Bool.eq_iff_iff, List.any_eq_true, decide_eq_true_iff]
  constructor
  · rintro ⟨x, hx, e⟩
    have e2 : (x == s) = true := e
    rw [← beq_iff_eq.mp e2]; exact hx
  · intro h
    exact ⟨s, h, beq_self_eq_true s⟩
theorem in_ints (s : Int) (ss : List Int) : inV (.int s) (ss.map V.int) = decide (s ∈ ss) := by
  unfold inV
  rw [List.any_map, Bool.eq_iff_iff, List.any_eq_true, decide_eq_true_iff]
  constructor
  · rintro ⟨x, hx, e⟩
    have e2 : (x == s) = true := e
    rw [← beq_iff_eq.mp e2]; exact hx
  · intro h
    exact ⟨s, h, beq_self_eq_true s⟩
theorem in_ok {K : PySem.W.Frag} {n : Bool} {W : Wd} {own : Nat → Option Addr} {H : Hp} {x y : V} {a b : DV} {R : Bool → Prop} {Q : VK} (hx : IsP W own H x a) (hy : IsP W own H y b) (h : inD a b R) (q : ∀ k, R k → Q (.bl (if n then !k else k)) H) : bIn K n x y H Q := by
  unfold inD at h
  split at h
  · obtain ⟨c, rfl, r⟩ := h
    cases hx.str; cases hy.str
    exact .inr ⟨c, _, rfl, rfl, q _ r⟩
  · obtain ⟨ss, rfl, r⟩ := h
    cases hx.str
    obtain ⟨p, vs, rfl, h1, h2, h3⟩ := hy.lst
    obtain rfl := iss_str h3
    exact .inl ⟨p, _, rfl, .inl (SqL.of h1), rfl, flat_strs _, by rw [in_strs]; exact q _ r⟩
  · obtain ⟨ss, rfl, r⟩ := h
    cases hx.str
    obtain ⟨p, vs, rfl, h1, h2, h3⟩ := hy.tup
    obtain rfl := iss_str h3
    exact .inl ⟨p, _, rfl, .inr (SqT.of h1), rfl, flat_strs _, by rw [in_strs]; exact q _ r⟩
  · obtain ⟨ss, rfl, r⟩ := h
    cases hx.int
    obtain ⟨p, vs, rfl, h1, h2, h3⟩ := hy.lst
    obtain rfl := iss_int h3
    exact .inl ⟨p, _, rfl, .inl (SqL.of h1), rfl, flat_ints _, by rw [in_ints]; exact q _ r⟩
  · obtain ⟨ss, rfl, r⟩ := h
    cases hx.int
    obtain ⟨p, vs, rfl, h1, h2, h3⟩ := hy.tup
    obtain rfl := iss_int h3
    exact .inl ⟨p, _, rfl, .inr (SqT.of h1), rfl, flat_ints _, by rw [in_ints]; exact q _ r⟩
  · exact h.elim
theorem opIn {K : PySem.W.Frag} : Op (bIn K false) dIn := by
  intro W own H x y a b R Q o hx hy hd f
  exact in_ok hx hy hd fun k r => f.bl o r
theorem opNi {K : PySem.W.Frag} : Op (bIn K true) dNi := by
  intro W own H x y a b R Q o hx hy hd f
  exact in_ok hx hy hd fun k r => f.bl o r
def dIx : D2 := fun a b R => match a, b with
  | .lst xs, .int i => ∃ d, atI xs i = some d ∧ R d
  | .tup xs, .int i => ∃ d, atI xs i = some d ∧ R d
  | .str s, .int i => s.length ≤ 1000000 ∧ ∃ c, atI s.cps.toList i = some c ∧ R (.str ⟨#[c]⟩)
  | _, _ => False
theorem iss_at {W : Wd} {H : Hp} {vs : List V} {xs : List DV} {i : Int} {d : DV} (h : Iss W H vs xs) (e : atI xs i = some d) : ∃ v, atI vs i = some v ∧ Is W H v d := by
  unfold atI at e ⊢
  rw [h.len]
  cases z : ixN xs.length i with
  | none => rw [z] at e; cases e
  | some j =>
    rw [z] at e
    exact h.get e
theorem opIx {K : PySem.W.Frag} : Op (aIx K) dIx := by
  intro W own H x y a b R Q o hx hy hd f
  unfold dIx at hd
  split at hd
  · obtain ⟨d, e, r⟩ := hd
    obtain ⟨p, vs, rfl, h1, h2, h3⟩ := hx.lst
    cases hy.int
    obtain ⟨v, hv, hi⟩ := iss_at h3 e
    exact ix_m h1 hv (f.at o hi r)
  · obtain ⟨d, e, r⟩ := hd
    obtain ⟨p, vs, rfl, h1, h2, h3⟩ := hx.tup
    cases hy.int
    obtain ⟨v, hv, hi⟩ := iss_at h3 e
    exact ix_t (SqT.of h1) hv (f.at o hi r)
  · obtain ⟨l, c, e, r⟩ := hd
    cases hx.str; cases hy.int
    exact .inr (.inr ⟨_, _, c, rfl, rfl, le_line l, e, f.str o r⟩)
  · exact hd.elim
section
variable {X : Cx} {e a b c : Expr} {w wa wb wc : WE} {t : WT} {pos : Pos}
theorem dop {op : Operator} {r : R2} {d : D2} (ho : OpR X (binaryOp op) r) (h : Op r d) (ha : PE X a (liftP wa)) (hb : PE X b (liftP wb)) : PE X (.BinOp a op b pos) (lift (wOp d wa wb)) := pe_weak (pe_op ho ha hb) (op_tr h rfl rfl)
theorem dcmp {op : CmpOp} {r : R2} {d : D2} (ho : OpR X (compareOp op) r) (h : Op r d) (ha : PE X a (liftP wa)) (hb : PE X b (liftP wb)) (hm : behindInMarks op b = false) : PE X (.Compare a [op] [b] pos) (lift (wOp d wa wb)) := pe_weak (pe_cmpR ho ha hb hm) (op_tr h rfl rfl)
theorem dix {r : R2} {d : D2} (ho : IxR X r) (h : Op r d) (ha : PE X a (liftP wa)) (hb : PE X b (liftP wb)) (hs : PlainIx b) : PE X (.Subscript a b pos) (lift (wOp d wa wb)) := pe_weak (pe_ix ho ha hb hs) (op_tr h rfl rfl)
theorem dcat (ha : PE X a (liftP wa)) (hb : PE X b (liftP wb)) : PE X (.BinOp a .Add b pos) (liftF (fCat wa wb)) := pe_weak (pe_op oAdd ha hb) fun σ H Q q => by
  obtain ⟨W, own, ρ, R, o, i, z, f⟩ := q
  refine ⟨W, own, ρ, _, o, i, z, fun x v H1 r1 k1 o1 i1 => ⟨W, own, ρ, _, o1, i.mono o k1, r1, fun y u H2 r2 k2 o2 i2 => ?_⟩⟩
  have i3 := i1.mono o1 k2
  split at r2
  · obtain ⟨p, vs, rfl, h1, h2, h3⟩ := i3.lst
    obtain ⟨q, us, rfl, g1, g2, g3⟩ := i2.lst
    have l : vs.length + us.length ≤ 1000000 := by rw [h3.len, g3.len]; exact r2.1
    exact add_ll h1 g1 l ((f.mono (k1.trans k2)).new o2 (by rw [List.length_append]; exact l) (h3.app g3) r2.2)
  · exact r2.elim
/-- a test of a comparison -/
def wTB (w : WE) : WT := fun ρ R => w ρ fun d => match d with
  | .bl k => R k
  | _ => False
theorem pt_weak {e : Expr} {t t' : TT} (h : PT X e t) (w : ∀ σ H Q, t' σ H Q → t σ H Q) : PT X e t' := ⟨fun pins s σ H Q I q => h.run pins s σ H Q I (w σ H Q q)⟩
theorem dtcmp {op : CmpOp} {r : R2} {d : D2} (ho : OpR X (compareOp op) r) (h : Op r d) (ha : PE X a (liftP wa)) (hb : PE X b (liftP wb)) (hm : behindInMarks op b = false) : PT X (.Compare a [op] [b] pos) (liftT (wTB (wOp d wa wb))) := pt_weak (pt_cmpR ho ha hb hm) fun σ H Q q => by
  obtain ⟨W, own, ρ, R, o, i, z, f⟩ := q
  refine op_tr h rfl rfl σ H _ ⟨W, own, ρ, _, o, i, z, fun d v H' r k o' i' => ?_⟩
  split at r
  · cases i'
    exact ⟨_, rfl, f _ _ r k o'⟩
  · exact r.elim
def isNon : DV → Bool
  | .non => true
  | _ => false
def wIsN (w : WE) : WE := fun ρ R => w ρ fun d => R (.bl (isNon d))
/-- truth -/
def dTru (d : DV) (R : Bool → Prop) : Prop := match d with
  | .non => R false
  | .bl k => R k
  | .int i => R (i != 0)
  | .str s => s.length ≤ 1000000 ∧ R ((s.length : Int) != 0)
  | .lst xs => R (!xs.isEmpty)
  | .tup xs => R (!xs.isEmpty)
  | .dic ks _ => R (!ks.isEmpty)
  | _ => False
def wTru (w : WE) : WT := fun ρ R => w ρ fun d => dTru d R
theorem emp_len {α β : Type} {a : List α} {b : List β} (h : a.length = b.length) : a.isEmpty = b.isEmpty := by
  cases a <;> cases b <;> first | rfl | cases h
theorem tru_ok {K : PySem.W.Frag} {W : Wd} {own : Nat → Option Addr} {H : Hp} {v : V} {d : DV} {R : Bool → Prop} (h : IsP W own H v d) (r : dTru d R) : ∃ k, TruV K v H k ∧ R k := by
  cases d with
  | non => cases h.non; exact ⟨false, rfl, r⟩
  | bl k => cases h.bl; exact ⟨k, rfl, r⟩
  | int i => cases h.int; exact ⟨_, rfl, r⟩
  | str s => cases h.str; exact ⟨_, ⟨le_line r.1, rfl⟩, r.2⟩
  | lst xs =>
    obtain ⟨p, vs, rfl, h1, h2, h3⟩ := h.lst
    exact ⟨!vs.isEmpty, .inl ⟨vs, SqL.of h1, rfl⟩, by rw [emp_len h3.len]; exact r⟩
  | tup xs =>
    obtain ⟨p, vs, rfl, h1, h2, h3⟩ := h.tup
    exact ⟨!vs.isEmpty, .inr (.inl ⟨vs, SqT.of h1, rfl⟩), by rw [emp_len h3.len]; exact r⟩
  | dic ks xs =>
    cases h.is (fun _ e => nomatch e) with
    | @dic a kvs _ _ h1 h2 h3 h4 h5 h6 =>
      refine ⟨!kvs.isEmpty, .inr (.inr ⟨kvs, h1, rfl⟩), ?_⟩
      have e : kvs.isEmpty = ks.isEmpty := emp_len (by rw [← h4, List.length_map])
      rw [e]; exact r
  | _ => exact r.elim
theorem dtru (ha : PE X a (liftP wa)) (he : ∀ whole, isTrue a X.env whole = (do let v ← whole; standAt a.pos; holding [v] (truthy v)) := by exact fun _ => rfl) : PT X a (liftT (wTru wa)) := pt_weak (pt_truth ha he) fun σ H Q q => by
  obtain ⟨W, own, ρ, R, o, i, z, f⟩ := q
  refine ⟨W, own, ρ, _, o, i, z, fun d v H' r k o' i' => ?_⟩
  obtain ⟨b, h1, h2⟩ := tru_ok i' r
  exact ⟨b, h1, f _ _ h2 k o'⟩
def wAnd (a b : WT) : WT := fun ρ R => a ρ fun k => if k = true then b ρ R else R false
def wOr (a b : WT) : WT := fun ρ R => a ρ fun k => if k = true then R true else b ρ R
def wNot (a : WT) : WT := fun ρ R => a ρ fun k => R (!k)
variable {ta tb : WT} {rest : List Expr}
theorem pw_weak {e : Expr} {t t' : TT} (h : PW X e t) (w : ∀ σ H Q, t' σ H Q → t σ H Q) : PW X e t' := ⟨fun wh pins s σ H Q I q => h.run wh pins s σ H Q I (w σ H Q q)⟩
theorem dand1 (ha : PT X a (liftT ta)) : PW X (.BoolOp .And [a] pos) (liftT ta) := pw_and1 ha
theorem dor1 (ha : PT X a (liftT ta)) : PW X (.BoolOp .Or [a] pos) (liftT ta) := pw_or1 ha
theorem dand (ha : PT X a (liftT ta)) (hb : PW X (.BoolOp .And (b :: rest) pos) (liftT tb)) : PW X (.BoolOp .And (a :: b :: rest) pos) (liftT (wAnd ta tb)) := pw_weak (pw_and ha hb) fun σ H Q q => by
  obtain ⟨W, own, ρ, R, o, i, z, f⟩ := q
  refine ⟨W, own, ρ, _, o, i, z, fun k H' r kk o' => ?_⟩
  cases k with
  | true => exact ⟨W, own, ρ, R, o', i.mono o kk, r, fun b H2 r2 k2 o2 => f b H2 r2 (kk.trans k2) o2⟩
  | false => exact f _ _ r kk o'
theorem dor (ha : PT X a (liftT ta)) (hb : PW X (.BoolOp .Or (b :: rest) pos) (liftT tb)) : PW X (.BoolOp .Or (a :: b :: rest) pos) (liftT (wOr ta tb)) := pw_weak (pw_or ha hb) fun σ H Q q => by
  obtain ⟨W, own, ρ, R, o, i, z, f⟩ := q
  refine ⟨W, own, ρ, _, o, i, z, fun k H' r kk o' => ?_⟩
  cases k with
  | false => exact ⟨W, own, ρ, R, o', i.mono o kk, r, fun b H2 r2 k2 o2 => f b H2 r2 (kk.trans k2) o2⟩
  | true => exact f _ _ r kk o'
theorem dnot (ha : PT X a (liftT ta)) : PT X (.UnaryOp .Not a pos) (liftT (wNot ta)) := pt_weak (pt_not ha) fun σ H Q q => by
  obtain ⟨W, own, ρ, R, o, i, z, f⟩ := q
  exact ⟨W, own, ρ, _, o, i, z, fun k H' r kk o' => f _ _ r kk o'⟩
/-- values of and, or, not: truth values -/
def wAndV (wa wb : WE) : WE := fun ρ R => wa ρ fun d => match d with
  | .bl k => if k = true then wb ρ R else R (.bl false)
  | _ => False
def wOrV (wa wb : WE) : WE := fun ρ R => wa ρ fun d => match d with
  | .bl k => if k = true then R (.bl true) else wb ρ R
  | _ => False
def wNotV (wa : WE) : WE := fun ρ R => wa ρ fun d => dTru d fun k => R (.bl (!k))
theorem done {op} (h : PE X a (lift wa)) : PE X (.BoolOp op [a] pos) (lift wa) := pe_one h
theorem dandV (ha : PE X a (lift wa)) (hb : PE X (.BoolOp .And (b :: rest) pos) (lift wb)) : PE X (.BoolOp .And (a :: b :: rest) pos) (lift (wAndV wa wb)) := pe_weak (pe_and ha hb) fun σ H Q q => by
  obtain ⟨W, own, ρ, R, o, i, z, f⟩ := q
  refine ⟨W, own, ρ, _, o, i, z, fun d v H1 r1 k1 o1 i1 => ?_⟩
  split at r1
  · rename_i k
    cases i1
    refine ⟨k, rfl, ?_⟩
    cases k with
    | true => exact ⟨W, own, ρ, R, o1, i.mono o k1, r1, f.mono k1⟩
    | false => exact (f.mono k1).bl o1 r1
  · exact r1.elim
theorem dorV (ha : PE X a (lift wa)) (hb : PE X (.BoolOp .Or (b :: rest) pos) (lift wb)) : PE X (.BoolOp .Or (a :: b :: rest) pos) (lift (wOrV wa wb)) := pe_weak (pe_or ha hb) fun σ H Q q => by
  obtain ⟨W, own, ρ, R, o, i, z, f⟩ := q
  refine ⟨W, own, ρ, _, o, i, z, fun d v H1 r1 k1 o1 i1 => ?_⟩
  split at r1
  · rename_i k
    cases i1
    refine ⟨k, rfl, ?_⟩
    cases k with
    | false => exact ⟨W, own, ρ, R, o1, i.mono o k1, r1, f.mono k1⟩
    | true => exact (f.mono k1).bl o1 r1
  · exact r1.elim
def wIf (t : WT) (wa wb : WE) : WE := fun ρ R => t ρ fun k => if k = true then wa ρ R else wb ρ R
/-- a < b < c -/
def wChain (d d' : D2) (wa wb wc : WE) : WE := fun ρ R => wa ρ fun x => wb ρ fun y => d x y fun z => match z with
  | .bl k => if k = true then wc ρ fun z' => d' y z' R else R (.bl false)
  | _ => False
theorem chain_tr {r r' : R2} {d d' : D2} (h : Op r d) (h' : Op r' d') : ∀ σ H Q, lift (wChain d d' wa wb wc) σ H Q → tChain r r' (liftP wa) (liftP wb) (liftP wc) σ H Q := fun σ H Q q => by
  obtain ⟨W, own, ρ, R, o, i, z, f⟩ := q
  refine ⟨W, own, ρ, _, o, i, z, fun x v H1 r1 k1 o1 i1 => ⟨W, own, ρ, _, o1, i.mono o k1, r1, fun y u H2 r2 k2 o2 i2 => ?_⟩⟩
  refine h W own H2 v u x y _ _ o2 (i1.mono o1 k2) i2 r2 fun z zv H3 r3 k3 o3 i3 => ?_
  have k13 := (k1.trans k2).trans k3
  split at r3
  · rename_i k
    cases i3
    refine ⟨k, rfl, ?_⟩
    cases k with
    | true => exact ⟨W, own, ρ, _, o3, i.mono o k13, r3, fun z' zv H4 r4 k4 o4 i4 => h' W own H4 u zv y z' R Q o4 (i2.mono o2 (k3.trans k4)) i4 r4 (f.mono (k13.trans k4))⟩
    | false => exact (f.mono k13).bl o3 r3
  · exact r3.elim
abbrev DA := List DV → (DV → Prop) → Prop
def Cl (r : List V → Hp → VK → Prop) (d : DA) : Prop := ∀ W own H vs ds R Q, W.Ok H → Paired (IsP W own H) vs ds → d ds R → Fin W H R Q → r vs H Q
def wCB (d : DA) (wa : WA) : WE := fun ρ R => wa ρ fun ds => d ds R
theorem cb_tr {r : List V → Hp → VK → Prop} {d : DA} (h : Cl r d) {wa : WA} : ∀ σ H Q, lift (wCB d wa) σ H Q → tCB r (liftB wa) σ H Q := fun σ H Q q => by
  obtain ⟨W, own, ρ, R, o, i, z, f⟩ := q
  exact ⟨W, own, ρ, _, o, i, z, fun ds vs H1 r1 k1 o1 i1 => h W own H1 vs ds R Q o1 i1 r1 (f.mono k1)⟩
end
end DL
namespace DL
open PySem PySem.Spec PyProof.Rows L2 NW
structure WEnds where
  nx : Env → Prop
  rt : DV → Prop
  bk : Env → Prop := fun _ => False
  ct : Env → Prop := fun _ => False
  xc : DV → Env → Prop := fun _ _ => False
abbrev WS := WEnds → Env → Prop
/-- what stands fast through a def: the store, what nobody may reach, the heap at the def's entry -/
structure Bs where
  st : Option Addr
  hid : Addr → Prop
  H0 : Hp
def Bs.w (B : Bs) (own : Nat → Option Addr) : Wd := ⟨B.st, fun a => B.hid a ∨ ∃ i, own i = some a⟩
def Bs.w0 (B : Bs) : Wd := ⟨B.st, B.hid⟩
structure Ctx (B : Bs) (own : Nat → Option Addr) (H : Hp) (σ : L2.St) (ρ : Env) : Prop where
  s0 : StoW B.st B.H0
  k : Kp B.st B.H0 H
  ok : (B.w own).Ok H
  e : IsE (B.w own) own H σ ρ
  o : ∀ i a, own i = some a → B.H0 a = none ∧ ¬ B.hid a
  inj : ∀ i j a, own i = some a → own j = some a → i = j
structure Dl (B : Bs) (E : WEnds) (D : Ends) (Ex : L2.WX) : Prop where
  nx : ∀ own ρ σ H, E.nx ρ → Ctx B own H σ ρ → D.nx σ H
  bk : ∀ own ρ σ H, E.bk ρ → Ctx B own H σ ρ → D.bk σ H
  ct : ∀ own ρ σ H, E.ct ρ → Ctx B own H σ ρ → D.ct σ H
  rt : ∀ d v H, E.rt d → Kp B.st B.H0 H → B.w0.Ok H → Is B.w0 H v d → D.rt v H
  xc : ∀ own ρ σ H C ns xs dd fs, E.xc (.err C ns xs) ρ → Ctx B own H σ ρ → H dd = some (.xd fs) → (B.w own).ok dd → fs.map (·.1) = ns → Iss (B.w own) H (fs.map (·.2)) xs → Ex (.ref C) (some dd) σ H
def liftS (Ex : L2.WX) (w : WS) : TS := fun D σ H => ∃ B own ρ E, Ctx B own H σ ρ ∧ w E ρ ∧ Dl B E D Ex
section
variable {B : Bs} {own own' : Nat → Option Addr} {H H' : Hp} {σ : L2.St} {ρ : Env}
/-- less is hidden -/
theorem Is.less {W W' : Wd} (e1 : W'.st = W.st) (s : ∀ a, W'.hid a → W.hid a) {v : V} {d : DV} (h : Is W H v d) : Is W' H v d := h.tr e1 fun b _ k z => ⟨⟨by rw [e1]; exact k.1, fun q => k.2 (s b q)⟩, z⟩
theorem Iss.less {W W' : Wd} (e1 : W'.st = W.st) (s : ∀ a, W'.hid a → W.hid a) {v : List V} {d : List DV} (h : Iss W H v d) : Iss W' H v d := h.tr e1 fun b _ k z => ⟨⟨by rw [e1]; exact k.1, fun q => k.2 (s b q)⟩, z⟩
theorem ok_less {W W' : Wd} (e1 : W'.st = W.st) (s : ∀ a, W'.hid a → W.hid a) (h : W.Ok H) : W'.Ok H := ⟨by rw [e1]; exact h.s, fun a ha => by rw [e1]; exact h.h a (s a ha)⟩
theorem Ctx.mono (c : Ctx B own H σ ρ) (k : Kp B.st H H') (o : (B.w own).Ok H') : Ctx B own H' σ ρ := ⟨c.s0, c.k.trans k, o, c.e.mono c.ok k, c.o, c.inj⟩
theorem w0_sub : ∀ a, B.w0.hid a → (B.w own).hid a := fun _ h => .inl h
theorem Ctx.ok0 (c : Ctx B own H σ ρ) : B.w0.Ok H := ok_less (W := B.w own) (W' := B.w0) rfl w0_sub c.ok
/-- own names let go -/
theorem Ctx.sub (c : Ctx B own H σ ρ) (s : ∀ i a, own' i = some a → own i = some a) {σ' : L2.St} {ρ' : Env} (e : IsE (B.w own') own' H σ' ρ') : Ctx B own' H σ' ρ' :=
  ⟨c.s0, c.k, ok_less (W := B.w own) (W' := B.w own') rfl (fun a h => h.elim .inl fun ⟨i, z⟩ => .inr ⟨i, s i a z⟩) c.ok, e, fun i a z => c.o i a (s i a z), fun i j a z z' => c.inj i j a (s i a z) (s j a z')⟩
def cut (own : Nat → Option Addr) (i : Nat) : Nat → Option Addr := fun j => if j = i then none else own j
theorem cut_sub {i : Nat} : ∀ j a, cut own i j = some a → own j = some a := fun j a h => by
  unfold cut at h
  split at h
  · cases h
  · exact h
theorem cut_ne {i j : Nat} (n : j ≠ i) : cut own i j = own j := if_neg n
theorem hid_cut {i : Nat} : ∀ a, (B.w (cut own i)).hid a → (B.w own).hid a := fun a h => h.elim .inl fun ⟨j, z⟩ => .inr ⟨j, cut_sub j a z⟩
theorem get_set {α : Type} {l : List α} {i j : Nat} {x y : α} (h : (l.set i x)[j]? = some y) : (j = i ∧ i < l.length ∧ y = x) ∨ (j ≠ i ∧ l[j]? = some y) := by
  rw [List.getElem?_set] at h
  split at h
  · rename_i e
    split at h
    · rename_i e2
      exact .inl ⟨e.symm, e2, (Option.some.inj h).symm⟩
    · cases h
  · rename_i e
    exact .inr ⟨fun z => e z.symm, h⟩
theorem Is.cut {i : Nat} {v : V} {d : DV} (h : Is (B.w own) H v d) : Is (B.w (DL.cut own i)) H v d := Is.less (W := B.w own) (W' := B.w (DL.cut own i)) rfl hid_cut h
theorem Iss.cut {i : Nat} {v : List V} {d : List DV} (h : Iss (B.w own) H v d) : Iss (B.w (DL.cut own i)) H v d := Iss.less (W := B.w own) (W' := B.w (DL.cut own i)) rfl hid_cut h
theorem Is.w0 {v : V} {d : DV} (h : Is (B.w own) H v d) : Is B.w0 H v d := Is.less (W := B.w own) (W' := B.w0) rfl w0_sub h
theorem Iss.w0 {v : List V} {d : List DV} (h : Iss (B.w own) H v d) : Iss B.w0 H v d := Iss.less (W := B.w own) (W' := B.w0) rfl w0_sub h
/-- a name gets data -/
theorem Ctx.set (c : Ctx B own H σ ρ) (i : Nat) {v : V} {d : DV} (h : Is (B.w own) H v d) : Ctx B (cut own i) H (σ.set i (some v)) (ρ.set i (.dt d)) := by
  refine c.sub cut_sub ⟨?_, fun j x e => ?_, fun j xs e => ?_, fun j ks xs e => ?_, fun j C ns xs e => ?_, fun j a z => .inr ⟨j, z⟩⟩
  · rw [List.length_set, List.length_set]; exact c.e.len
  · rcases get_set e with ⟨rfl, l, z⟩ | ⟨n, z⟩
    · cases z
      refine ⟨v, ?_, h.cut⟩
      rw [List.getElem?_set_self (by rw [c.e.len]; exact l)]
    · obtain ⟨u, h1, h2⟩ := c.e.dt j x z
      exact ⟨u, by rw [List.getElem?_set_ne (Ne.symm n)]; exact h1, h2.cut⟩
  · rcases get_set e with ⟨rfl, l, z⟩ | ⟨n, z⟩
    · cases z
    · obtain ⟨a, vs, h1, h2, h3, h4, h5⟩ := c.e.ow j xs z
      exact ⟨a, vs, by rw [cut_ne n]; exact h1, by rw [List.getElem?_set_ne (Ne.symm n)]; exact h2, h3, h4, h5.cut⟩
  · rcases get_set e with ⟨rfl, l, z⟩ | ⟨n, z⟩
    · cases z
    · obtain ⟨a, vs, h1, h2, h3, h4, h5⟩ := c.e.od j ks xs z
      exact ⟨a, vs, by rw [cut_ne n]; exact h1, by rw [List.getElem?_set_ne (Ne.symm n)]; exact h2, h3, h4, h5.cut⟩
  · rcases get_set e with ⟨rfl, l, z⟩ | ⟨n, z⟩
    · cases z
    · obtain ⟨a, vs, h1, h2, h3, h4, h5⟩ := c.e.oi j C ns xs z
      exact ⟨a, vs, by rw [cut_ne n]; exact h1, by rw [List.getElem?_set_ne (Ne.symm n)]; exact h2, h3, h4, h5.cut⟩
def owi (own : Nat → Option Addr) (i : Nat) (q : Addr) : Nat → Option Addr := fun j => if j = i then some q else own j
/-- a name gets a fresh list of its own -/
theorem Ctx.setO (c : Ctx B own H σ ρ) (i : Nat) {q : Addr} {vs : List V} {xs : List DV} (hq : H q = none) (l : vs.length ≤ 1000000) (h : Iss (B.w own) H vs xs) : Ctx B (owi own i q) (upd H q (.lst vs)) (σ.set i (some (.ref q))) (ρ.set i (.ow xs)) := by
  have fr := c.ok.fresh hq
  have s := same_new (o := .lst vs) hq
  have hide : ∀ a, (B.w (owi own i q)).hid a → (B.w own).hid a ∨ a = q := fun a h => by
    rcases h with h | ⟨j, z⟩
    · exact .inl (.inl h)
    · unfold owi at z
      split at z
      · exact .inr (Option.some.inj z).symm
      · exact .inl (.inr ⟨j, z⟩)
  have is2 : ∀ {v : V} {d : DV}, Is (B.w own) H v d → Is (B.w (owi own i q)) (upd H q (.lst vs)) v d := fun h => Is.tr (W := B.w own) (W' := B.w (owi own i q)) rfl (fun b o k z => ⟨⟨k.1, fun w => (hide b w).elim k.2 fun e => ne_of_none z hq e⟩, s b o z⟩) h
  have iss2 : ∀ {v : List V} {d : List DV}, Iss (B.w own) H v d → Iss (B.w (owi own i q)) (upd H q (.lst vs)) v d := fun h => Iss.tr (W := B.w own) (W' := B.w (owi own i q)) rfl (fun b o k z => ⟨⟨k.1, fun w => (hide b w).elim k.2 fun e => ne_of_none z hq e⟩, s b o z⟩) h
  have h0 : B.H0 q = none := by
    cases e : B.H0 q with
    | none => rfl
    | some o =>
      have z := c.k.o e fr.1
      rw [hq] at z; cases z
  refine ⟨c.s0, c.k.trans (Kp.same s), ⟨c.ok.s.same s, fun a ha => ?_⟩, ⟨?_, fun j x e => ?_, fun j ys e => ?_, fun j ks ys e => ?_, fun j C ns ys e => ?_, fun j a z => .inr ⟨j, z⟩⟩, fun j a z => ?_, fun j k a z z' => ?_⟩
  · rcases hide a ha with ha | rfl
    · obtain ⟨⟨o, ho⟩, n⟩ := c.ok.h a ha
      exact ⟨⟨o, s _ _ ho⟩, n⟩
    · exact ⟨⟨_, upd_same⟩, fr.1⟩
  · rw [List.length_set, List.length_set]; exact c.e.len
  · rcases get_set e with ⟨rfl, l, z⟩ | ⟨n, z⟩
    · cases z
    · obtain ⟨u, h1, h2⟩ := c.e.dt j x z
      exact ⟨u, by rw [List.getElem?_set_ne (Ne.symm n)]; exact h1, is2 h2⟩
  · rcases get_set e with ⟨rfl, l2, z⟩ | ⟨n, z⟩
    · cases z
      refine ⟨q, vs, if_pos rfl, ?_, upd_same, l, iss2 h⟩
      rw [List.getElem?_set_self (by rw [c.e.len]; exact l2)]
    · obtain ⟨a, us, h1, h2, h3, h4, h5⟩ := c.e.ow j ys z
      exact ⟨a, us, by unfold owi; rw [if_neg n]; exact h1, by rw [List.getElem?_set_ne (Ne.symm n)]; exact h2, s _ _ h3, h4, iss2 h5⟩
  · rcases get_set e with ⟨rfl, l2, z⟩ | ⟨n, z⟩
    · cases z
    · obtain ⟨a, us, h1, h2, h3, h4, h5⟩ := c.e.od j ks ys z
      exact ⟨a, us, by unfold owi; rw [if_neg n]; exact h1, by rw [List.getElem?_set_ne (Ne.symm n)]; exact h2, s _ _ h3, h4, iss2 h5⟩
  · rcases get_set e with ⟨rfl, l2, z⟩ | ⟨n, z⟩
    · cases z
    · obtain ⟨a, us, h1, h2, ⟨dx, h3⟩, h4, h5⟩ := c.e.oi j C ns ys z
      exact ⟨a, us, by unfold owi; rw [if_neg n]; exact h1, by rw [List.getElem?_set_ne (Ne.symm n)]; exact h2, ⟨dx, s _ _ h3⟩, h4, iss2 h5⟩
  · unfold owi at z
    split at z
    · cases z
      exact ⟨h0, fun w => fr.2 (.inl w)⟩
    · exact c.o j a z
  · unfold owi at z z'
    split at z <;> split at z'
    · rename_i e1 e2; rw [e1, e2]
    · cases z
      obtain ⟨⟨o, ho⟩, _⟩ := c.ok.h _ (.inr ⟨k, z'⟩)
      rw [hq] at ho; cases ho
    · cases z'
      obtain ⟨⟨o, ho⟩, _⟩ := c.ok.h _ (.inr ⟨j, z⟩)
      rw [hq] at ho; cases ho
    · exact c.inj j k a z z'
/-- a list of one's own changes -/
theorem Ctx.updO (c : Ctx B own H σ ρ) (i : Nat) {a : Addr} {vs : List V} {xs ys : List DV} (h : own i = some a) (r : ρ[i]? = some (.ow xs)) (l : vs.length ≤ 1000000) (is : Iss (B.w own) H vs ys) : Ctx B own (upd H a (.lst vs)) σ (ρ.set i (.ow ys)) := by
  have nk : ¬ (B.w own).ok a := fun k => k.2 (.inr ⟨i, h⟩)
  have na := (c.ok.h a (.inr ⟨i, h⟩)).2
  have h0 := (c.o i a h).1
  have hl : i < ρ.length := (List.getElem?_eq_some_iff.mp r).1
  obtain ⟨a', vs', g1, g2, g3, g4, g5⟩ := c.e.ow i xs r
  rw [h] at g1; cases g1
  refine ⟨c.s0, c.k.own h0 na, ⟨?_, fun b hb => ?_⟩, ⟨?_, fun j x e => ?_, fun j zs e => ?_, fun j ks zs e => ?_, fun j C ns zs e => ?_, c.e.hd⟩, c.o, c.inj⟩
  · have s := c.ok.s
    have kk := c.k
    show StoW B.st _
    have s : StoW B.st H := s
    cases e : B.st with
    | none => trivial
    | some st =>
      rw [e] at s kk
      have n1 : a ≠ st := fun z => na (by show B.st = _; rw [e, z])
      have s0 := c.s0
      rw [e] at s0
      obtain ⟨cl, ns, q1, q2, q3, q4, q5, w1, w2, w3⟩ := s0
      obtain ⟨r', hr⟩ := Keep.h kk _ _ w1
      exact Sto.own s hr n1 fun z => by rw [z, w2] at h0; cases h0
  · obtain ⟨⟨o, ho⟩, n⟩ := c.ok.h b hb
    by_cases e : b = a
    · rw [e]; exact ⟨⟨_, upd_same⟩, na⟩
    · exact ⟨⟨o, by rw [upd_ne e]; exact ho⟩, n⟩
  · rw [List.length_set]; exact c.e.len
  · rcases get_set e with ⟨rfl, l, z⟩ | ⟨n, z⟩
    · cases z
    · obtain ⟨u, h1, h2⟩ := c.e.dt j x z
      exact ⟨u, h1, h2.off nk⟩
  · rcases get_set e with ⟨rfl, l2, z⟩ | ⟨n, z⟩
    · cases z
      exact ⟨a, vs, h, g2, upd_same, l, is.off nk⟩
    · obtain ⟨b, us, h1, h2, h3, h4, h5⟩ := c.e.ow j zs z
      have nb : b ≠ a := fun e => n (c.inj j i a (by rw [← e]; exact h1) h)
      exact ⟨b, us, h1, h2, by rw [upd_ne nb]; exact h3, h4, h5.off nk⟩
  · rcases get_set e with ⟨rfl, l2, z⟩ | ⟨n, z⟩
    · cases z
    · obtain ⟨b, us, h1, h2, h3, h4, h5⟩ := c.e.od j ks zs z
      have nb : b ≠ a := fun e => n (c.inj j i a (by rw [← e]; exact h1) h)
      exact ⟨b, us, h1, h2, by rw [upd_ne nb]; exact h3, h4, h5.off nk⟩
  · rcases get_set e with ⟨rfl, l2, z⟩ | ⟨n, z⟩
    · cases z
    · obtain ⟨b, us, h1, h2, ⟨dx, h3⟩, h4, h5⟩ := c.e.oi j C ns zs z
      have nb : b ≠ a := fun e => n (c.inj j i a (by rw [← e]; exact h1) h)
      exact ⟨b, us, h1, h2, ⟨dx, by rw [upd_ne nb]; exact h3⟩, h4, h5.off nk⟩
/-- a name gets a fresh dict of its own -/
theorem Ctx.setD (c : Ctx B own H σ ρ) (i : Nat) {q : Addr} {kv : List (Key × V)} {kk : List Key} {xs : List DV} (hq : H q = none) (l : kv.length ≤ 1000000 ∧ kv.map (·.1) = kk ∧ kk.Nodup) (h : Iss (B.w own) H (kv.map (·.2)) xs) : Ctx B (owi own i q) (upd H q (.dK kv)) (σ.set i (some (.ref q))) (ρ.set i (.od kk xs)) := by
  have fr := c.ok.fresh hq
  have s := same_new (o := .dK kv) hq
  have hide : ∀ a, (B.w (owi own i q)).hid a → (B.w own).hid a ∨ a = q := fun a h => by
    rcases h with h | ⟨j, z⟩
    · exact .inl (.inl h)
    · unfold owi at z
      split at z
      · exact .inr (Option.some.inj z).symm
      · exact .inl (.inr ⟨j, z⟩)
  have is2 : ∀ {v : V} {d : DV}, Is (B.w own) H v d → Is (B.w (owi own i q)) (upd H q (.dK kv)) v d := fun h => Is.tr (W := B.w own) (W' := B.w (owi own i q)) rfl (fun b o k z => ⟨⟨k.1, fun w => (hide b w).elim k.2 fun e => ne_of_none z hq e⟩, s b o z⟩) h
  have iss2 : ∀ {v : List V} {d : List DV}, Iss (B.w own) H v d → Iss (B.w (owi own i q)) (upd H q (.dK kv)) v d := fun h => Iss.tr (W := B.w own) (W' := B.w (owi own i q)) rfl (fun b o k z => ⟨⟨k.1, fun w => (hide b w).elim k.2 fun e => ne_of_none z hq e⟩, s b o z⟩) h
  have h0 : B.H0 q = none := by
    cases e : B.H0 q with
    | none => rfl
    | some o =>
      have z := c.k.o e fr.1
      rw [hq] at z; cases z
  refine ⟨c.s0, c.k.trans (Kp.same s), ⟨c.ok.s.same s, fun a ha => ?_⟩, ⟨?_, fun j x e => ?_, fun j ys e => ?_, fun j ks ys e => ?_, fun j C ns ys e => ?_, fun j a z => .inr ⟨j, z⟩⟩, fun j a z => ?_, fun j k a z z' => ?_⟩
  · rcases hide a ha with ha | rfl
    · obtain ⟨⟨o, ho⟩, n⟩ := c.ok.h a ha
      exact ⟨⟨o, s _ _ ho⟩, n⟩
    · exact ⟨⟨_, upd_same⟩, fr.1⟩
  · rw [List.length_set, List.length_set]; exact c.e.len
  · rcases get_set e with ⟨rfl, l, z⟩ | ⟨n, z⟩
    · cases z
    · obtain ⟨u, h1, h2⟩ := c.e.dt j x z
      exact ⟨u, by rw [List.getElem?_set_ne (Ne.symm n)]; exact h1, is2 h2⟩
  · rcases get_set e with ⟨rfl, l2, z⟩ | ⟨n, z⟩
    · cases z
    · obtain ⟨a, us, h1, h2, h3, h4, h5⟩ := c.e.ow j ys z
      exact ⟨a, us, by unfold owi; rw [if_neg n]; exact h1, by rw [List.getElem?_set_ne (Ne.symm n)]; exact h2, s _ _ h3, h4, iss2 h5⟩
  · rcases get_set e with ⟨rfl, l2, z⟩ | ⟨n, z⟩
    · cases z
      refine ⟨q, kv, if_pos rfl, ?_, upd_same, l, iss2 h⟩
      rw [List.getElem?_set_self (by rw [c.e.len]; exact l2)]
    · obtain ⟨a, us, h1, h2, h3, h4, h5⟩ := c.e.od j ks ys z
      exact ⟨a, us, by unfold owi; rw [if_neg n]; exact h1, by rw [List.getElem?_set_ne (Ne.symm n)]; exact h2, s _ _ h3, h4, iss2 h5⟩
  · rcases get_set e with ⟨rfl, l2, z⟩ | ⟨n, z⟩
    · cases z
    · obtain ⟨a, us, h1, h2, ⟨dx, h3⟩, h4, h5⟩ := c.e.oi j C ns ys z
      exact ⟨a, us, by unfold owi; rw [if_neg n]; exact h1, by rw [List.getElem?_set_ne (Ne.symm n)]; exact h2, ⟨dx, s _ _ h3⟩, h4, iss2 h5⟩
  · unfold owi at z
    split at z
    · cases z
      exact ⟨h0, fun w => fr.2 (.inl w)⟩
    · exact c.o j a z
  · unfold owi at z z'
    split at z <;> split at z'
    · rename_i e1 e2; rw [e1, e2]
    · cases z
      obtain ⟨⟨o, ho⟩, _⟩ := c.ok.h _ (.inr ⟨k, z'⟩)
      rw [hq] at ho; cases ho
    · cases z'
      obtain ⟨⟨o, ho⟩, _⟩ := c.ok.h _ (.inr ⟨j, z⟩)
      rw [hq] at ho; cases ho
    · exact c.inj j k a z z'
/-- a dict of one's own changes -/
theorem Ctx.updD (c : Ctx B own H σ ρ) (i : Nat) {a : Addr} {kv : List (Key × V)} {kk kk' : List Key} {xs ys : List DV} (h : own i = some a) (r : ρ[i]? = some (.od kk xs)) (l : kv.length ≤ 1000000 ∧ kv.map (·.1) = kk' ∧ kk'.Nodup) (is : Iss (B.w own) H (kv.map (·.2)) ys) : Ctx B own (upd H a (.dK kv)) σ (ρ.set i (.od kk' ys)) := by
  have nk : ¬ (B.w own).ok a := fun k => k.2 (.inr ⟨i, h⟩)
  have na := (c.ok.h a (.inr ⟨i, h⟩)).2
  have h0 := (c.o i a h).1
  have hl : i < ρ.length := (List.getElem?_eq_some_iff.mp r).1
  obtain ⟨a', vs', g1, g2, g3, g4, g5⟩ := c.e.od i kk xs r
  rw [h] at g1; cases g1
  refine ⟨c.s0, c.k.own h0 na, ⟨?_, fun b hb => ?_⟩, ⟨?_, fun j x e => ?_, fun j zs e => ?_, fun j ks zs e => ?_, fun j C ns zs e => ?_, c.e.hd⟩, c.o, c.inj⟩
  · have s := c.ok.s
    have kk := c.k
    show StoW B.st _
    have s : StoW B.st H := s
    cases e : B.st with
    | none => trivial
    | some st =>
      rw [e] at s kk
      have n1 : a ≠ st := fun z => na (by show B.st = _; rw [e, z])
      have s0 := c.s0
      rw [e] at s0
      obtain ⟨cl, ns, q1, q2, q3, q4, q5, w1, w2, w3⟩ := s0
      obtain ⟨r', hr⟩ := Keep.h kk _ _ w1
      exact Sto.own s hr n1 fun z => by rw [z, w2] at h0; cases h0
  · obtain ⟨⟨o, ho⟩, n⟩ := c.ok.h b hb
    by_cases e : b = a
    · rw [e]; exact ⟨⟨_, upd_same⟩, na⟩
    · exact ⟨⟨o, by rw [upd_ne e]; exact ho⟩, n⟩
  · rw [List.length_set]; exact c.e.len
  · rcases get_set e with ⟨rfl, l, z⟩ | ⟨n, z⟩
    · cases z
    · obtain ⟨u, h1, h2⟩ := c.e.dt j x z
      exact ⟨u, h1, h2.off nk⟩
  · rcases get_set e with ⟨rfl, l2, z⟩ | ⟨n, z⟩
    · cases z
    · obtain ⟨b, us, h1, h2, h3, h4, h5⟩ := c.e.ow j zs z
      have nb : b ≠ a := fun e => n (c.inj j i a (by rw [← e]; exact h1) h)
      exact ⟨b, us, h1, h2, by rw [upd_ne nb]; exact h3, h4, h5.off nk⟩
  · rcases get_set e with ⟨rfl, l2, z⟩ | ⟨n, z⟩
    · cases z
      exact ⟨a, kv, h, g2, upd_same, l, is.off nk⟩
    · obtain ⟨b, us, h1, h2, h3, h4, h5⟩ := c.e.od j ks zs z
      have nb : b ≠ a := fun e => n (c.inj j i a (by rw [← e]; exact h1) h)
      exact ⟨b, us, h1, h2, by rw [upd_ne nb]; exact h3, h4, h5.off nk⟩
  · rcases get_set e with ⟨rfl, l2, z⟩ | ⟨n, z⟩
    · cases z
    · obtain ⟨b, us, h1, h2, ⟨dx, h3⟩, h4, h5⟩ := c.e.oi j C ns zs z
      have nb : b ≠ a := fun e => n (c.inj j i a (by rw [← e]; exact h1) h)
      exact ⟨b, us, h1, h2, ⟨dx, by rw [upd_ne nb]; exact h3⟩, h4, h5.off nk⟩
end
end DL
namespace DL
open PySem PySem.Spec PyProof.Rows L2 NW
def frz1 : Sl → Sl
  | .ow xs => .dt (.lst xs)
  | .od ks xs => .dt (.dic ks xs)
  | .oi C ns xs => .dt (.obj C ns xs)
  | s => s
def frzE (ρ : Env) : Env := ρ.map frz1
section
variable {Ex : L2.WX}
variable {B : Bs} {own : Nat → Option Addr} {H H' : Hp} {σ : L2.St} {ρ : Env}
theorem Ctx.frz (c : Ctx B own H σ ρ) : IsE B.w0 (fun _ => none) H σ (frzE ρ) := by
  refine ⟨?_, fun i d e => ?_, fun i xs e => ?_, fun i ks xs e => ?_, fun i C ns xs e => ?_, fun _ _ z => nomatch z⟩
  · unfold frzE; rw [List.length_map]; exact c.e.len
  · unfold frzE at e
    rw [List.getElem?_map] at e
    cases z : ρ[i]? with
    | none => rw [z] at e; cases e
    | some s =>
      rw [z] at e
      have e : frz1 s = .dt d := Option.some.inj e
      cases s with
      | un => cases e
      | dt d' =>
        cases e
        obtain ⟨v, h1, h2⟩ := c.e.dt i d z
        exact ⟨v, h1, h2.w0⟩
      | ow xs =>
        cases e
        obtain ⟨a, vs, h1, h2, h3, h4, h5⟩ := c.e.ow i xs z
        exact ⟨_, h2, .lst h3 ⟨(c.ok.h a (.inr ⟨i, h1⟩)).2, (c.o i a h1).2⟩ h4 h5.w0⟩
      | od ks xs =>
        cases e
        obtain ⟨a, kvs, h1, h2, h3, h4, h5⟩ := c.e.od i ks xs z
        exact ⟨_, h2, .dic h3 ⟨(c.ok.h a (.inr ⟨i, h1⟩)).2, (c.o i a h1).2⟩ h4.1 h4.2.1 h4.2.2 h5.w0⟩
      | oi C ns xs =>
        cases e
        obtain ⟨a, fs, h1, h2, ⟨dx, h3⟩, h4, h5⟩ := c.e.oi i C ns xs z
        exact ⟨_, h2, .obj h3 ⟨(c.ok.h a (.inr ⟨i, h1⟩)).2, (c.o i a h1).2⟩ h4.2.1 h5.w0⟩
  · unfold frzE at e
    rw [List.getElem?_map] at e
    cases z : ρ[i]? with
    | none => rw [z] at e; cases e
    | some s =>
      rw [z] at e
      cases s <;> cases (Option.some.inj e)
  · unfold frzE at e
    rw [List.getElem?_map] at e
    cases z : ρ[i]? with
    | none => rw [z] at e; cases e
    | some s =>
      rw [z] at e
      cases s <;> cases (Option.some.inj e)
  · unfold frzE at e
    rw [List.getElem?_map] at e
    cases z : ρ[i]? with
    | none => rw [z] at e; cases e
    | some s =>
      rw [z] at e
      cases s <;> cases (Option.some.inj e)
theorem w_none : B.w (fun _ => none) = B.w0 := by
  unfold Bs.w Bs.w0
  have e : (fun a => B.hid a ∨ ∃ i : Nat, (none : Option Addr) = some a) = B.hid := by
    funext a
    exact propext ⟨fun h => h.elim (fun z => z) (fun ⟨_, z⟩ => nomatch z), fun h => Or.inl h⟩
  rw [e]
end
/-- all that stands is taken for the def's base, its own lists left out -/
noncomputable def Bs.base (B : Bs) (own : Nat → Option Addr) (H : Hp) : Bs := { B with H0 := fun b => @ite _ (∃ i, own i = some b) (Classical.propDecidable _) none (H b) }
section
variable {Ex : L2.WX}
variable {B : Bs} {own own' : Nat → Option Addr} {H H' : Hp} {σ σ' : L2.St} {ρ ρ' : Env} {E : WEnds} {D : Ends}
theorem base_get {a : Addr} {o : HO} (h : (B.w own).ok a) (e : H a = some o) : (B.base own H).H0 a = some o := by
  show @ite _ (∃ i, own i = some a) (Classical.propDecidable _) none (H a) = _
  rw [if_neg fun z => h.2 (.inr z)]; exact e
theorem Ctx.base_of (c : Ctx B own H σ ρ) {b : Addr} {o : HO} (e : B.H0 b = some o) (n : B.st ≠ some b) : (B.base own H).H0 b = some o := by
  show @ite _ (∃ i, own i = some b) (Classical.propDecidable _) none (H b) = _
  rw [if_neg fun ⟨i, z⟩ => by rw [(c.o i b z).1] at e; cases e]
  exact c.k.o e n
theorem Ctx.base (c : Ctx B own H σ ρ) : Ctx (B.base own H) own H σ ρ := by
  have sub : ∀ b o, (B.base own H).H0 b = some o → H b = some o := fun b o e => by
    have e : @ite _ (∃ i, own i = some b) (Classical.propDecidable _) none (H b) = some o := e
    split at e
    · cases e
    · exact e
  refine ⟨?_, Kp.same sub, c.ok, c.e, fun i a z => ⟨if_pos ⟨i, z⟩, (c.o i a z).2⟩, c.inj⟩
  have s0 := c.s0
  have kk := c.k
  have so := c.ok.s
  have no : ∀ i a, own i = some a → B.st ≠ some a := fun i a z => (c.ok.h a (.inr ⟨i, z⟩)).2
  show StoW B.st (B.base own H).H0
  have so : StoW B.st H := so
  cases e : B.st with
  | none => trivial
  | some st =>
    rw [e] at s0 so kk
    obtain ⟨cl, ns, q1, q2, q3, q4, q5, w1, w2, w3⟩ := so
    obtain ⟨cl0, ns0, p1, p2, p3, p4, p5, v1, v2, v3⟩ := s0
    obtain ⟨r', hr⟩ := Keep.h kk _ _ v1
    rw [w1] at hr
    have ecl : cl = cl0 := by
      injection hr with hr
      injection hr with hr
      injection hr with hr
      injection hr
    refine ⟨cl, ns, q1, q2, q3, q4, q5, ?_, ?_, w3⟩
    · show @ite _ (∃ i, own i = some st) (Classical.propDecidable _) none (H st) = _
      rw [if_neg fun ⟨i, z⟩ => no i st z e]; exact w1
    · show @ite _ (∃ i, own i = some cl) (Classical.propDecidable _) none (H cl) = _
      rw [if_neg fun ⟨i, z⟩ => by rw [ecl] at z; rw [(c.o i _ z).1] at v2; cases v2]; exact w2
theorem Ctx.kp_base (c : Ctx B own H σ ρ) (k : Kp B.st (B.base own H).H0 H') : Kp B.st B.H0 H' := by
  have s0 := c.s0
  have b0 := fun b o e n => c.base_of (b := b) (o := o) e n
  have ck := c.k
  have no : ∀ i a, own i = some a → B.st ≠ some a := fun i a z => (c.ok.h a (.inr ⟨i, z⟩)).2
  cases e : B.st with
  | none =>
    rw [e] at k b0
    exact fun b o z => k b o (b0 b o z (fun w => nomatch w))
  | some st =>
    rw [e] at k b0 ck
    refine ⟨fun b o z n => Keep.o k b o (b0 b o z fun w => n (Option.some.inj w).symm) n, fun v r z => ?_⟩
    obtain ⟨r1, h1⟩ := Keep.h ck v r z
    refine Keep.h k v r1 ?_
    show @ite _ (∃ i, own i = some st) (Classical.propDecidable _) none (H st) = _
    rw [if_neg fun ⟨i, w⟩ => no i st w e]; exact h1
theorem Ctx.of_base (c : Ctx B own H σ ρ) (c2 : Ctx (B.base own H) own' H' σ' ρ') : Ctx B own' H' σ' ρ' := by
  refine ⟨c.s0, c.kp_base c2.k, c2.ok, c2.e, fun i a z => ⟨?_, (c2.o i a z).2⟩, c2.inj⟩
  cases e : B.H0 a with
  | none => rfl
  | some o =>
    have n : B.st ≠ some a := (c2.ok.h a (.inr ⟨i, z⟩)).2
    have g := c.base_of e n
    rw [(c2.o i a z).1] at g
    cases g
theorem Dl.base (d : Dl B E D Ex) (c : Ctx B own H σ ρ) : Dl (B.base own H) E D Ex :=
  ⟨fun o r s h z cc => d.nx o r s h z (c.of_base cc), fun o r s h z cc => d.bk o r s h z (c.of_base cc), fun o r s h z cc => d.ct o r s h z (c.of_base cc), fun x v h z k o i => d.rt x v h z (c.kp_base k) o i, fun o r s h cc ns xs dd fs z c2 g1 g2 g3 g4 => d.xc o r s h cc ns xs dd fs z (c.of_base c2) g1 g2 g3 g4⟩
end
section
variable {Ex : L2.WX}
variable {X : Cx} {e a b c : Expr} {w wa wb : WE} {s s' : WS} {t : WT} {pos : Pos} {st : Stmt} {rest bs cs : List Stmt}
theorem ps_weak {t t' : TS} (h : PS X st t) (w : ∀ D σ H, t' D σ H → t D σ H) : PS X st t' := ⟨fun pins s σ H D I q => h.run pins s σ H D I (w D σ H q)⟩
theorem pss_weak {t t' : TS} (h : PSs X bs t) (w : ∀ D σ H, t' D σ H → t D σ H) : PSs X bs t' := ⟨fun pins s σ H D I q => h.run pins s σ H D I (w D σ H q)⟩
def wSeq (s s' : WS) : WS := fun E ρ => s { E with nx := fun ρ' => s' E ρ' } ρ
def wCut (s s' : WS) : WS := fun E ρ => ∃ M : Env → Prop, s { E with nx := M } ρ ∧ ∀ ρ', M ρ' → s' E ρ'
def wNx : WS := fun E ρ => E.nx ρ
theorem dss0 : PSs X [] (liftS Ex wNx) := pss_weak pss_nil fun D σ H q => by
  obtain ⟨B, own, ρ, E, c, h, d⟩ := q
  exact d.nx _ _ _ _ h c
theorem dss1 (h : PS X st (liftS Ex s)) : PSs X [st] (liftS Ex s) := pss_one h
theorem dss (h : PS X st (liftS Ex s)) (h2 : PSs X rest (liftS Ex s')) : PSs X (st :: rest) (liftS Ex (wSeq s s')) := pss_weak (pss_cons h h2) fun D σ H q => by
  obtain ⟨B, own, ρ, E, c, h, d⟩ := q
  exact ⟨B, own, ρ, _, c, h, ⟨fun own' ρ' σ' H' z c' => ⟨B, own', ρ', E, c', z, d⟩, d.bk, d.ct, d.rt, d.xc⟩⟩
theorem dsc (h : PS X st (liftS Ex s)) (h2 : PSs X rest (liftS Ex s')) : PSs X (st :: rest) (liftS Ex (wCut s s')) := pss_weak (pss_cons h h2) fun D σ H q => by
  obtain ⟨B, own, ρ, E, c, ⟨M, h, hM⟩, d⟩ := q
  exact ⟨B, own, ρ, _, c, h, ⟨fun own' ρ' σ' H' z c' => ⟨B, own', ρ', E, c', hM _ z, d⟩, d.bk, d.ct, d.rt, d.xc⟩⟩
/-- all lists of one's own are let go ahead of it -/
def wFz (s : WS) : WS := fun E ρ => s E (frzE ρ)
def wAsg (i : Nat) (w : WE) : WS := fun E ρ => w ρ fun d => E.nx (ρ.set i (.dt d))
theorem asg_tr (i : Nat) {D : Ends} {σ : L2.St} {H : Hp} (q : liftS Ex (wAsg i w) D σ H) : tAsg (lift w) (gName i) D σ H := by
  obtain ⟨B, own, ρ, E, c, h, d⟩ := q
  exact ⟨B.w own, own, ρ, _, c.ok, c.e, h, fun x v H1 r k o i1 => d.nx _ _ _ _ r ((c.mono k o).set i i1)⟩
theorem dasg (i : Nat) (h : ∀ te, PE X e te → PS X st (tAsg te (gName i))) (he : PE X e (lift w)) : PS X st (liftS Ex (wAsg i w)) := ps_weak (h _ he) fun _ _ _ => asg_tr i
def wAsgO (i : Nat) (w : WF) : WS := fun E ρ => w ρ fun xs => E.nx (ρ.set i (.ow xs))
theorem asgO_tr {w : WF} (i : Nat) {D : Ends} {σ : L2.St} {H : Hp} (q : liftS Ex (wAsgO i w) D σ H) : tAsg (liftF w) (gName i) D σ H := by
  obtain ⟨B, own, ρ, E, c, h, d⟩ := q
  exact ⟨B.w own, own, ρ, _, c.ok, c.e, h, fun xs vs q H1 r k o i1 l hq => d.nx _ _ _ _ r ((c.mono k o).setO i hq l i1)⟩
theorem dasgO {w : WF} (i : Nat) (h : ∀ te, PE X e te → PS X st (tAsg te (gName i))) (he : PE X e (liftF w)) : PS X st (liftS Ex (wAsgO i w)) := ps_weak (h _ he) fun _ _ _ => asgO_tr i
def wDrop (w : WE) : WS := fun E ρ => w ρ fun _ => E.nx ρ
def wRet (w : WE) : WS := fun E ρ => w (frzE ρ) E.rt
theorem dret (he : PE X e (lift w)) : PS X (.Return (some e) pos) (liftS Ex (wRet w)) := ps_weak (ps_ret he) fun D σ H q => by
  obtain ⟨B, own, ρ, E, c, h, d⟩ := q
  exact ⟨B.w0, _, _, _, c.ok0, c.frz, h, fun x v H1 r k o i1 => d.rt x v H1 r (c.k.trans k) o i1⟩
def wIfS (t : WT) (s s' : WS) : WS := fun E ρ => t ρ fun k => if k = true then s E ρ else s' E ρ
theorem difS (ht : PT X e (liftT t)) (ha : PSs X bs (liftS Ex s)) (hb : PSs X cs (liftS Ex s')) : PS X (.If e bs cs pos) (liftS Ex (wIfS t s s')) := ps_weak (ps_if ht ha hb) fun D σ H q => by
  obtain ⟨B, own, ρ, E, c, h, d⟩ := q
  refine ⟨B.w own, own, ρ, _, c.ok, c.e, h, fun k H1 r kk o => ?_⟩
  cases k with
  | true => exact ⟨B, own, ρ, E, c.mono kk o, r, d⟩
  | false => exact ⟨B, own, ρ, E, c.mono kk o, r, d⟩
def wPass : WS := fun E ρ => E.nx ρ
def wBk : WS := fun E ρ => E.bk ρ
def wCt : WS := fun E ρ => E.ct ρ
/-- x op= e -/
def wAug (i : Nat) (d : D2) (w : WE) : WS := fun E ρ => atV (fun x => w ρ fun y => d x y fun z => E.nx (ρ.set i (.dt z))) ρ[i]?
theorem aug_tr (i : Nat) {r : TIp} {d : D2} (h : Op r d) {D : Ends} {σ : L2.St} {H : Hp} (q : liftS Ex (wAug i d w) D σ H) : tAug i (liftP w) r D σ H := by
  obtain ⟨B, own, ρ, E, c, hx, d⟩ := q
  obtain ⟨x, hx, h1⟩ := atV_ex hx
  obtain ⟨v, h2, h3⟩ := c.e.dt i x hx
  refine ⟨v, h2, B.w own, own, ρ, _, c.ok, c.e, h1, fun y u H1 r1 k1 o1 i1 => ?_⟩
  exact h (B.w own) own H1 v u x y _ _ o1 (.inl (h3.mono k1)) i1 r1 fun z zv H2 r2 k2 o2 i2 => d.nx _ _ _ _ r2 ((c.mono (k1.trans k2) o2).set i i2)
theorem daug (i : Nat) {r : TIp} {d : D2} (o : Op r d) (h : ∀ te, PE X e te → PS X st (tAug i te r)) (he : PE X e (liftP w)) : PS X st (liftS Ex (wAug i d w)) := ps_weak (h _ he) fun _ _ _ => aug_tr i o
/-- x.append(e) of a list of one's own -/
def atO (R : List DV → Prop) : Option Sl → Prop
  | some (.ow xs) => R xs
  | _ => False
theorem atO_ex {R : List DV → Prop} {o : Option Sl} (h : atO R o) : ∃ xs, o = some (.ow xs) ∧ R xs := by
  unfold atO at h
  split at h
  · exact ⟨_, rfl, h⟩
  · exact h.elim
def wApp (i : Nat) (w : WE) : WS := fun E ρ => atO (fun xs => w ρ fun d => xs.length < 1000000 ∧ E.nx (ρ.set i (.ow (xs ++ [d])))) ρ[i]?
theorem app_tr {K : PySem.W.Frag} (i : Nat) {D : Ends} {σ : L2.St} {H : Hp} (q : liftS Ex (wApp i w) D σ H) : tDrop (tBM K "list" rAppend (tVar i) (tCons (lift w) tNil)) D σ H := by
  obtain ⟨B, own, ρ, E, c, hx, d⟩ := q
  obtain ⟨xs, hx, h1⟩ := atO_ex hx
  obtain ⟨a, vs, g1, g2, g3, g4, g5⟩ := c.e.ow i xs hx
  refine ⟨_, g2, .inl ⟨rfl, vs, SqL.of g3⟩, B.w own, own, ρ, _, c.ok, c.e, h1, fun y u H1 r1 k1 o1 i1 => ?_⟩
  have g3' := k1.o g3 (c.ok.h a (.inr ⟨i, g1⟩)).2
  have l : vs.length < 1000000 := by rw [g5.len]; exact r1.1
  refine ⟨a, vs, u, rfl, rfl, g3', lt_line l, d.nx _ _ _ _ r1.2 ((c.mono k1 o1).updO i g1 hx ?_ ((g5.mono k1).app (.cons i1 .nil)))⟩
  rw [List.length_append]; exact l
theorem dapp {K : PySem.W.Frag} (i : Nat) (h : ∀ te, PE X e te → PS X st (tDrop (tBM K "list" rAppend (tVar i) (tCons te tNil)))) (he : PE X e (lift w)) : PS X st (liftS Ex (wApp i w)) := ps_weak (h _ he) fun _ _ _ => app_tr i
/-- x.append(y.pop(e)), both lists of one's own -/
def wAppPop (i j : Nat) (w : WE) : WS := fun E ρ => atO (fun xs => atO (fun ys => w ρ fun d => i ≠ j ∧ xs.length < 1000000 ∧ ∃ k : Nat, d = .int k ∧ ∃ y, ys[k]? = some y ∧ E.nx ((ρ.set j (.ow (ys.eraseIdx k))).set i (.ow (xs ++ [y])))) ρ[j]?) ρ[i]?
theorem appPop_tr {K : PySem.W.Frag} (i j : Nat) {D : Ends} {σ : L2.St} {H : Hp} (q : liftS Ex (wAppPop i j w) D σ H) : tDrop (tBM K "list" rAppend (tVar i) (tCons (tBM K "list" rPopAt (tVar j) (tCons (lift w) tNil)) tNil)) D σ H := by
  obtain ⟨B, own, ρ, E, c, hx, d⟩ := q
  obtain ⟨xs, hx, h1⟩ := atO_ex hx
  obtain ⟨ys, hy, h1⟩ := atO_ex h1
  obtain ⟨a, vs, g1, g2, g3, g4, g5⟩ := c.e.ow i xs hx
  obtain ⟨b, us, f1, f2, f3, f4, f5⟩ := c.e.ow j ys hy
  refine ⟨_, g2, .inl ⟨rfl, vs, SqL.of g3⟩, _, f2, .inl ⟨rfl, us, SqL.of f3⟩, B.w own, own, ρ, _, c.ok, c.e, h1, fun y u H1 r1 k1 o1 i1 => ?_⟩
  obtain ⟨nij, lx, k, rfl, y, hk, r1⟩ := r1
  cases i1
  have f3' := k1.o f3 (c.ok.h b (.inr ⟨j, f1⟩)).2
  have g3' := k1.o g3 (c.ok.h a (.inr ⟨i, g1⟩)).2
  have fi := f5.mono k1
  have gi := g5.mono k1
  obtain ⟨v, hv, iv⟩ := fi.get hk
  have hkl : k < us.length := (List.getElem?_eq_some_iff.mp hv).1
  have ab : a ≠ b := fun e => nij (c.inj i j a g1 (by rw [e]; exact f1))
  have nkb : ¬ (B.w own).ok b := fun k => k.2 (.inr ⟨j, f1⟩)
  refine pop_l f3' rfl hkl f4 fun y' e => ?_
  rw [hv] at e; cases e
  have c1 := (c.mono k1 o1).updO j f1 hy (vs := us.eraseIdx k) (by rw [List.length_eraseIdx]; split <;> omega) (fi.erase k)
  have hx' : (ρ.set j (.ow (ys.eraseIdx k)))[i]? = some (.ow xs) := by rw [List.getElem?_set_ne (Ne.symm nij)]; exact hx
  have g3'' : upd H1 b (.lst (us.eraseIdx k)) a = some (.lst vs) := by rw [upd_ne ab]; exact g3'
  have l : vs.length < 1000000 := by rw [g5.len]; exact lx
  refine ⟨a, vs, v, rfl, rfl, g3'', lt_line l, d.nx _ _ _ _ r1 (c1.updO i g1 hx' ?_ ((gi.off nkb).app (.cons (iv.off nkb) .nil)))⟩
  rw [List.length_append]; exact l
theorem dappPop {K : PySem.W.Frag} (i j : Nat) (h : ∀ te, PE X e te → PS X st (tDrop (tBM K "list" rAppend (tVar i) (tCons (tBM K "list" rPopAt (tVar j) (tCons te tNil)) tNil)))) (he : PE X e (lift w)) : PS X st (liftS Ex (wAppPop i j w)) := ps_weak (h _ he) fun _ _ _ => appPop_tr i j
abbrev WG := DV → Env → (Env → Prop) → Prop
def gN (i : Nat) : WG := fun d ρ K => K (ρ.set i (.dt d))
/-- the target's reading serves the data's -/
def Tg (g : TG) (gg : WG) : Prop := ∀ (B : Bs) (own : Nat → Option Addr) (H : Hp) (σ : L2.St) (ρ : Env) (v : V) (d : DV) (K : Env → Prop) (Q : L2.St → Hp → Prop), Ctx B own H σ ρ → Is (B.w own) H v d → gg d ρ K → (∀ own' ρ' σ', K ρ' → Ctx B own' H σ' ρ' → Q σ' H) → g v σ H Q
theorem tgN (i : Nat) : Tg (gName i) (gN i) := fun B own H σ ρ v d K Q c h k q => q _ _ _ k (c.set i h)
def forL (g : WG) (s : WS) (E : WEnds) : List DV → Env → Prop
  | [], ρ => E.nx ρ
  | x :: xs, ρ => g x ρ fun ρ' => s { E with nx := forL g s E xs, ct := forL g s E xs, bk := E.nx } ρ'
end
end DL
namespace DL
open PySem PySem.Spec PyProof.Rows L2 NW
/-- the iterator gives xs, one by one, whatever else happens over the heap Hb -/
structure Wks (J : It) (W : Wd) (Hb : Hp) (xs : List DV) : Prop where
  go : ∀ n H', Kp W.st Hb H' → n < xs.length → J.go n H'
  stop : ∀ n H', Kp W.st Hb H' → n = xs.length → J.stop n H'
  yl : ∀ n H' v H2, Kp W.st Hb H' → J.yld n H' v H2 → n < xs.length → H2 = H' ∧ ∃ x, xs[n]? = some x ∧ Is W Hb v x
abbrev WI := Env → (List DV → Prop) → Prop
def Thr (W : Wd) (H Hb : Hp) : Prop := ∀ b o, W.ok b → H b = some o → Hb b = some o
def liftI (w : WI) : TI := fun σ H R => ∃ W own ρ Rd, W.Ok H ∧ IsE W own H σ ρ ∧ w ρ Rd ∧ ∀ J xs H1, Rd xs → Kp W.st H H1 → W.Ok H1 → (∀ Hb, Thr W H1 Hb → Wks J W Hb xs) → R J H1
section
variable {Ex : L2.WX}
variable {W : Wd} {H Hb : Hp} {K : PySem.W.Frag}
theorem wks_list {a : Addr} {vs : List V} {xs : List DV} (h1 : H a = some (.lst vs)) (h2 : W.ok a) (h4 : Iss W H vs xs) (t : Thr W H Hb) : Wks (Itl K a) W Hb xs := by
  have hb := t a _ h2 h1
  have i2 : Iss W Hb vs xs := h4.tr rfl fun b o k z => ⟨k, t b o k z⟩
  refine ⟨fun n H' k l => ?_, fun n H' k l => ?_, fun n H' v H2 k y l => ?_⟩
  · rw [← i2.len] at l
    exact ⟨vs, vs[n], SqL.of (k.o hb h2.1), List.getElem?_eq_getElem l⟩
  · exact ⟨vs, SqL.of (k.o hb h2.1), by rw [i2.len, l]; exact Nat.le_refl _⟩
  · obtain ⟨e, z⟩ := y
    have zz := z vs (SqL.of (k.o hb h2.1))
    obtain ⟨x, hx, ix⟩ := i2.get' zz
    exact ⟨e, x, hx, ix⟩
theorem wks_tup {a : Addr} {vs : List V} {xs : List DV} (h1 : H a = some (.tup vs)) (h2 : W.ok a) (h4 : Iss W H vs xs) (t : Thr W H Hb) : Wks (Itt K a) W Hb xs := by
  have hb := t a _ h2 h1
  have i2 : Iss W Hb vs xs := h4.tr rfl fun b o k z => ⟨k, t b o k z⟩
  refine ⟨fun n H' k l => ?_, fun n H' k l => ?_, fun n H' v H2 k y l => ?_⟩
  · rw [← i2.len] at l
    exact ⟨vs, vs[n], SqT.of (k.o hb h2.1), List.getElem?_eq_getElem l⟩
  · exact ⟨vs, SqT.of (k.o hb h2.1), by rw [i2.len, l]; exact Nat.le_refl _⟩
  · obtain ⟨e, z⟩ := y
    have zz := z vs (SqT.of (k.o hb h2.1))
    obtain ⟨x, hx, ix⟩ := i2.get' zz
    exact ⟨e, x, hx, ix⟩
/-- lo, lo + 1, .. -/
def intL (lo : Int) (n : Nat) : List DV := (List.range n).map fun k => .int (lo + (k : Nat))
theorem intL_len (lo : Int) (n : Nat) : (intL lo n).length = n := by unfold intL; rw [List.length_map, List.length_range]
theorem wks_rng {lo : Int} {n : Nat} : Wks (Itr lo n) W Hb (intL lo n) := by
  refine ⟨fun k H' _ l => by rw [intL_len] at l; exact l, fun k H' _ l => by rw [l, intL_len]; exact Nat.le_refl _, fun k H' v H2 _ y l => ?_⟩
  obtain ⟨e, z⟩ := y
  subst z
  rw [intL_len] at l
  refine ⟨e, .int (lo + k), ?_, .int _⟩
  unfold intL
  rw [List.getElem?_map, List.getElem?_range l]
  rfl
def signs (s : Str) : List DV := s.cps.toList.map fun c => .str ⟨#[c]⟩
theorem wks_str {s : Str} : Wks (Its s) W Hb (signs s) := by
  have e : (signs s).length = s.cps.size := by unfold signs; rw [List.length_map, Array.length_toList]
  refine ⟨fun k H' _ l => by rw [e] at l; exact l, fun k H' _ l => by rw [l, e]; exact Nat.le_refl _, fun k H' v H2 _ y l => ?_⟩
  obtain ⟨e, c, h1, h2⟩ := y
  subst h2
  refine ⟨e, .str ⟨#[c]⟩, ?_, .str _⟩
  unfold signs
  rw [List.getElem?_map, Array.getElem?_toList, h1]
  rfl
end
section
variable {Ex : L2.WX}
variable {X : Cx} {e a b c tg : Expr} {w : WE} {pos : Pos}
theorem pi_weak {t t' : TI} (h : PI X tg e t) (w : ∀ σ H Q, t' σ H Q → t σ H Q) : PI X tg e t' := ⟨fun pins s σ H Q I q => h.run pins s σ H Q I (w σ H Q q)⟩
def iL (w : WE) : WI := fun ρ R => w ρ fun d => ∃ xs, d = .lst xs ∧ R xs
theorem diL (h : PE X e (lift w)) : PI X tg e (liftI (iL w)) := pi_weak (pi_list h) fun σ H R q => by
  obtain ⟨W, own, ρ, Rd, o, i, z, f⟩ := q
  refine ⟨W, own, ρ, _, o, i, z, fun d v H1 r k o1 i1 => ?_⟩
  obtain ⟨xs, rfl, r⟩ := r
  cases i1 with
  | @lst p vs _ h1 h2 h3 h4 => exact ⟨p, rfl, ⟨vs, SqL.of h1⟩, f _ _ _ r k o1 fun Hb t => wks_list h1 h2 h4 t⟩
def iT (w : WE) : WI := fun ρ R => w ρ fun d => ∃ xs, d = .tup xs ∧ R xs
/-- a name that holds a list or a tuple -/
def iV (i : Nat) : WI := fun ρ R => atV (fun d => ∃ xs, (d = .lst xs ∨ d = .tup xs) ∧ R xs) ρ[i]?
theorem diV (i : Nat) (h : PE X e (tVar i)) (hp : ∀ t, PE X e t → PI X tg e (iSeq X.K t)) : PI X tg e (liftI (iV i)) := pi_weak (hp _ h) fun σ H R q => by
  obtain ⟨W, own, ρ, Rd, o, ie, z, f⟩ := q
  obtain ⟨d, z, xs, e, r⟩ := atV_ex z
  obtain ⟨v, hv, hi⟩ := ie.dt _ _ z
  rcases e with rfl | rfl
  · cases hi with
    | @lst p vs _ h1 h2 h3 h4 => exact .inl ⟨_, hv, p, rfl, ⟨vs, SqL.of h1⟩, f _ _ _ r (Kp.refl _ _) o fun Hb t => wks_list h1 h2 h4 t⟩
  · cases hi with
    | @tup p vs _ h1 h2 h3 h4 => exact .inr ⟨_, hv, p, rfl, ⟨vs, SqT.of h1⟩, f _ _ _ r (Kp.refl _ _) o fun Hb t => wks_tup h1 h2 h4 t⟩
def iS (w : WE) : WI := fun ρ R => w ρ fun d => ∃ s, d = .str s ∧ R (signs s)
theorem diS (h : PE X e (lift w)) : PI X tg e (liftI (iS w)) := pi_weak (pi_str h) fun σ H R q => by
  obtain ⟨W, own, ρ, Rd, o, i, z, f⟩ := q
  refine ⟨W, own, ρ, _, o, i, z, fun d v H1 r k o1 i1 => ?_⟩
  obtain ⟨s, rfl, r⟩ := r
  cases i1
  exact ⟨s, rfl, f _ _ _ r k o1 fun Hb t => wks_str⟩
variable {r : WA}
def iR1 (r : WA) : WI := fun ρ R => r ρ fun ds => ∃ j, ds = [.int j] ∧ -(2 ^ 62) ≤ j ∧ j < 2 ^ 62 ∧ R (intL 0 j.toNat)
theorem diR1 (hp : ∀ ta, PA X [a] ta → PI X tg e (iRng1 ta)) (h : PA X [a] (liftA r)) : PI X tg e (liftI (iR1 r)) := pi_weak (hp _ h) fun σ H R q => by
  obtain ⟨W, own, ρ, Rd, o, i, z, f⟩ := q
  refine ⟨W, own, ρ, _, o, i, z, fun ds vs H1 r k o1 i1 => ?_⟩
  obtain ⟨j, rfl, h1, h2, r⟩ := r
  cases i1 with
  | cons x y =>
    cases x; cases y
    exact ⟨j, rfl, h1, h2, f _ _ _ r k o1 fun Hb t => wks_rng⟩
def iR2 (r : WA) : WI := fun ρ R => r ρ fun ds => ∃ l j, ds = [.int l, .int j] ∧ (-(2 ^ 62) ≤ l ∧ l < 2 ^ 62 ∧ -(2 ^ 62) ≤ j ∧ j < 2 ^ 62) ∧ R (intL l (j - l).toNat)
theorem loop_wks {J : It} {g : TG} {gg : WG} {s : WS} (hg : Tg g gg) {B : Bs} {own : Nat → Option Addr} {ρ : Env} {E : WEnds} {D : Ends} {σ : L2.St} {H : Hp} {xs : List DV} (c : Ctx B own H σ ρ) (hw : Wks J (B.w own) (B.base own H).H0 xs) (hf : forL gg s E xs ρ) (d : Dl B E D Ex) : LoopI J g (liftS Ex s) D σ H := by
  have d' := d.base c
  have c' := c.base
  refine ⟨fun n m σ' H' => m = xs.length - n ∧ n ≤ xs.length ∧ ∃ own' ρ', Ctx (B.base own H) own' H' σ' ρ' ∧ forL gg s E (xs.drop n) ρ', ⟨_, rfl, Nat.zero_le _, own, ρ, c', hf⟩, ?_⟩
  rintro n m σ' H' ⟨rfl, hn, own', ρ', c2, hf⟩
  by_cases hlt : n < xs.length
  · refine .inr ⟨hw.go n H' c2.k hlt, fun σ' H' => ∃ own' ρ', Ctx (B.base own H) own' H' σ' ρ' ∧ forL gg s E (xs.drop (n + 1)) ρ', fun σ' H' z => ⟨xs.length - (n + 1), by omega, rfl, hlt, z⟩, fun x H2 y => ?_⟩
    obtain ⟨rfl, y, hy, iy⟩ := hw.yl n H' x H2 c2.k y hlt
    rw [List.drop_eq_getElem_cons (List.getElem?_eq_some_iff.mp hy).1, (List.getElem?_eq_some_iff.mp hy).2] at hf
    have iy2 : Is ((B.base own H).w own') H2 x y := Is.tr (W := B.w own) (W' := (B.base own H).w own') rfl (fun b o k g => ⟨⟨k.1, fun w => w.elim (fun q => k.2 (.inl q)) fun ⟨j, q⟩ => by rw [(c2.o j b q).1] at g; cases g⟩, c2.k.o g k.1⟩) iy
    exact hg _ _ _ _ _ _ _ _ _ c2 iy2 hf fun own3 ρ3 σ3 h3 c3 => ⟨_, own3, ρ3, _, c3, h3, ⟨fun o r s h z cc => ⟨o, r, cc, z⟩, fun o r s h z cc => d'.nx o r s h z cc, fun o r s h z cc => ⟨o, r, cc, z⟩, d'.rt, d'.xc⟩⟩
  · have e : n = xs.length := by omega
    subst e
    rw [List.drop_length] at hf
    exact .inl ⟨hw.stop _ H' c2.k rfl, d'.nx _ _ _ _ hf c2⟩
def wFor (w : WI) (g : WG) (s : WS) : WS := fun E ρ => w ρ fun xs => forL g s E xs ρ
theorem for_tr {g : TG} {gg : WG} {s : WS} {wi : WI} (hg : Tg g gg) {D : Ends} {σ : L2.St} {H : Hp} (q : liftS Ex (wFor wi gg s) D σ H) : tFor (liftI wi) g (liftS Ex s) D σ H := by
  obtain ⟨B, own, ρ, E, c, h, d⟩ := q
  refine ⟨B.w own, own, ρ, _, c.ok, c.e, h, fun J xs H1 r k o hw => ?_⟩
  have c1 := c.mono k o
  exact loop_wks hg c1 (hw _ fun b o k z => base_get k z) r d
variable {g : TG} {gg : WG} {s : WS} {wi : WI} {body : List Stmt}
theorem dfor (hp : PassesOwn (model X.prog X.w) X.A X.env X.xe) (hc : X.calm = true) (hi : PI X tg e (liftI wi)) (hg : PG X tg g) (hgg : Tg g gg) (hb : PSs X body (liftS Ex s)) (hs : ∀ x, foldedSetIterable e X.env x = pure x := by intro _; rfl) : PS X (.For tg e body [] pos) (liftS Ex (wFor wi gg s)) := ps_weak (ps_for hp hc hi hg hb hs) fun _ _ _ => for_tr hgg
def wWhile (t : WT) (s : WS) : WS := fun E ρ => ∃ I : Nat → Env → Prop, (∃ m, I m ρ) ∧ ∀ m ρ, I m ρ → t ρ fun k => if k = true then s { nx := fun ρ' => ∃ m', m' < m ∧ I m' ρ', ct := fun ρ' => ∃ m', m' < m ∧ I m' ρ', bk := E.nx, rt := E.rt, xc := E.xc } ρ else E.nx ρ
theorem dwhile {t : WT} (hp : PassesOwn (model X.prog X.w) X.A X.env X.xe) (ht : PT X e (liftT t)) (hb : PSs X body (liftS Ex s)) : PS X (.While e body [] pos) (liftS Ex (wWhile t s)) := ps_weak (ps_while hp ht hb) fun D σ H q => by
  obtain ⟨B, own, ρ, E, c, ⟨I, ⟨m0, i0⟩, hI⟩, d⟩ := q
  refine ⟨fun m σ H => ∃ own ρ, Ctx B own H σ ρ ∧ I m ρ, ⟨m0, own, ρ, c, i0⟩, ?_⟩
  rintro m σ H ⟨own, ρ, c, im⟩
  refine ⟨B.w own, own, ρ, _, c.ok, c.e, hI m ρ im, fun k H1 r kk o => ?_⟩
  have c1 := c.mono kk o
  cases k with
  | false => exact d.nx _ _ _ _ r c1
  | true =>
    refine ⟨fun σ' H' => ∃ own' ρ', Ctx B own' H' σ' ρ' ∧ ∃ m', m' < m ∧ I m' ρ', fun σ' H' ⟨o, r, c, m', l, i⟩ => ⟨m', l, o, r, c, i⟩, B, own, ρ, _, c1, r, ⟨fun o r s h z cc => ⟨o, r, cc, z⟩, fun o r s h z cc => d.nx o r s h z cc, fun o r s h z cc => ⟨o, r, cc, z⟩, d.rt, d.xc⟩⟩
end
end DL
namespace DL
open PySem PySem.Spec PyProof.Rows L2 NW
def lcL (g : WG) (t : WT) (w : WE) : List DV → Env → List DV → (List DV → Prop) → Prop
  | [], _, acc, R => R acc
  | x :: xs, ρ, acc, R => g x ρ fun ρ' => t ρ' fun k => if k = true then w ρ' fun y => lcL g t w xs ρ (acc ++ [y]) R else lcL g t w xs ρ acc R
def wiL (ρ : Env) : List Nat → Env
  | [] => ρ
  | v :: vs => (wiL ρ vs).set v .un
/-- a comprehension's target: it stores the names vs alone -/
def Tc (g : TG) (gg : WG) (vs : List Nat) : Prop := ∀ (W : Wd) (own : Nat → Option Addr) (H : Hp) (σ : L2.St) (ρ : Env) (v : V) (d : DV) (K : Env → Prop) (Q : L2.St → Hp → Prop), W.Ok H → IsE W own H (wipe σ vs) (wiL ρ vs) → Is W H v d → gg d (wiL ρ vs) K → (∀ ρ' σ', K ρ' → IsE W own H σ' ρ' → wipe σ' vs = wipe σ vs → Q σ' H) → g v (wipe σ vs) H Q
section
variable {W : Wd} {own : Nat → Option Addr} {H H' : Hp} {σ : L2.St} {ρ : Env}
theorem IsE.un (h : IsE W own H σ ρ) (i : Nat) : IsE W own H (σ.set i none) (ρ.set i .un) := by
  refine ⟨?_, fun j x e => ?_, fun j xs e => ?_, fun j ks xs e => ?_, fun j C ns xs e => ?_, h.hd⟩
  · rw [List.length_set, List.length_set]; exact h.len
  · rcases get_set e with ⟨rfl, l, z⟩ | ⟨n, z⟩
    · cases z
    · obtain ⟨u, h1, h2⟩ := h.dt j x z
      exact ⟨u, by rw [List.getElem?_set_ne (Ne.symm n)]; exact h1, h2⟩
  · rcases get_set e with ⟨rfl, l, z⟩ | ⟨n, z⟩
    · cases z
    · obtain ⟨a, vs, h1, h2, h3⟩ := h.ow j xs z
      exact ⟨a, vs, h1, by rw [List.getElem?_set_ne (Ne.symm n)]; exact h2, h3⟩
  · rcases get_set e with ⟨rfl, l, z⟩ | ⟨n, z⟩
    · cases z
    · obtain ⟨a, vs, h1, h2, h3⟩ := h.od j ks xs z
      exact ⟨a, vs, h1, by rw [List.getElem?_set_ne (Ne.symm n)]; exact h2, h3⟩
  · rcases get_set e with ⟨rfl, l, z⟩ | ⟨n, z⟩
    · cases z
    · obtain ⟨a, vs, h1, h2, h3⟩ := h.oi j C ns xs z
      exact ⟨a, vs, h1, by rw [List.getElem?_set_ne (Ne.symm n)]; exact h2, h3⟩
theorem IsE.set (h : IsE W own H σ ρ) (i : Nat) {v : V} {d : DV} (x : Is W H v d) : IsE W own H (σ.set i (some v)) (ρ.set i (.dt d)) := by
  refine ⟨?_, fun j x e => ?_, fun j xs e => ?_, fun j ks xs e => ?_, fun j C ns xs e => ?_, h.hd⟩
  · rw [List.length_set, List.length_set]; exact h.len
  · rcases get_set e with ⟨rfl, l, z⟩ | ⟨n, z⟩
    · cases z
      exact ⟨v, by rw [List.getElem?_set_self (by rw [h.len]; exact l)], x⟩
    · obtain ⟨u, h1, h2⟩ := h.dt j _ z
      exact ⟨u, by rw [List.getElem?_set_ne (Ne.symm n)]; exact h1, h2⟩
  · rcases get_set e with ⟨rfl, l, z⟩ | ⟨n, z⟩
    · cases z
    · obtain ⟨a, vs, h1, h2, h3⟩ := h.ow j xs z
      exact ⟨a, vs, h1, by rw [List.getElem?_set_ne (Ne.symm n)]; exact h2, h3⟩
  · rcases get_set e with ⟨rfl, l, z⟩ | ⟨n, z⟩
    · cases z
    · obtain ⟨a, vs, h1, h2, h3⟩ := h.od j ks xs z
      exact ⟨a, vs, h1, by rw [List.getElem?_set_ne (Ne.symm n)]; exact h2, h3⟩
  · rcases get_set e with ⟨rfl, l, z⟩ | ⟨n, z⟩
    · cases z
    · obtain ⟨a, vs, h1, h2, h3⟩ := h.oi j C ns xs z
      exact ⟨a, vs, h1, by rw [List.getElem?_set_ne (Ne.symm n)]; exact h2, h3⟩
theorem IsE.wipe : ∀ vs : List Nat, IsE W own H σ ρ → IsE W own H (wipe σ vs) (wiL ρ vs)
  | [], h => h
  | v :: vs, h => (IsE.wipe vs h).un v
theorem tcN (i : Nat) : Tc (gName i) (gN i) [i] := fun W own H σ ρ v d K Q o e h k q => by
  refine q _ _ k (e.set i h) ?_
  show (((σ.set i none).set i (some v)).set i none) = σ.set i none
  rw [List.set_set, List.set_set]
end
noncomputable def mns (H : Hp) (D : Addr) : Hp := fun b => if b = D then none else H b
section
variable {H H1 : Hp} {D b : Addr} {o : HO} {st : Option Addr}
theorem mns_same : mns H D D = none := if_pos rfl
theorem mns_ne (h : b ≠ D) : mns H D b = H b := if_neg h
theorem mns_upd (h : H D = some o) : upd (mns H D) D o = H := by
  funext b
  by_cases e : b = D
  · rw [e, upd_same, h]
  · rw [upd_ne e, mns_ne e]
theorem Kp.mns (k : Kp st H1 H) (h : H1 D = none) (n : st ≠ some D) : Kp st H1 (DL.mns H D) := by
  cases st with
  | none => exact fun b o z => by rw [mns_ne fun e => by rw [e, h] at z; cases z]; exact k b o z
  | some a => exact ⟨fun b o z q => by rw [mns_ne fun e => by rw [e, h] at z; cases z]; exact Keep.o k b o z q, fun v r z => by
      obtain ⟨r', h'⟩ := Keep.h k v r z
      exact ⟨r', by rw [mns_ne fun e => n (by rw [e])]; exact h'⟩⟩
theorem StoW.cl (s0 : StoW st H1) (k : Kp st H1 H) (s : StoW st H) (h : H1 D = none) (a : Addr) (e : st = some a) : ∃ (cl : Addr) (r : List V), H a = some (.lst (.ref cl :: r)) ∧ cl ≠ D ∧ Sto H a := by
  subst e
  obtain ⟨cl, ns, q1, q2, q3, q4, q5, w1, w2, w3⟩ := s0
  obtain ⟨r', hr⟩ := Keep.h k _ _ w1
  exact ⟨cl, r', hr, (fun z => by rw [z, h] at w2; cases w2), s⟩
theorem StoW.own (s0 : StoW st H1) (k : Kp st H1 H) (s : StoW st H) (h : H1 D = none) (n : st ≠ some D) : StoW st (upd H D o) := by
  cases e : st with
  | none => trivial
  | some a =>
    obtain ⟨cl, r, h1, h2, h3⟩ := StoW.cl s0 k s h a e
    exact Sto.own h3 h1 (fun z => n (by rw [e, z])) (Ne.symm h2)
theorem StoW.mns (s0 : StoW st H1) (k : Kp st H1 H) (s : StoW st H) (h : H1 D = none) (n : st ≠ some D) : StoW st (DL.mns H D) := by
  cases e : st with
  | none => trivial
  | some a =>
    obtain ⟨cl, r, h1, h2, h3⟩ := StoW.cl s0 k s h a e
    obtain ⟨cl', ns, q1, q2, q3, q4, q5, w1, w2, w3⟩ := h3
    have ec : cl' = cl := by
      rw [w1] at h1
      injection h1 with h1
      injection h1 with h1
      injection h1 with h1
      injection h1
    exact ⟨cl', ns, q1, q2, q3, q4, q5, by rw [mns_ne fun z => n (by rw [e, z])]; exact w1, by rw [mns_ne (by rw [ec]; exact h2)]; exact w2, w3⟩
end
def wYes : WT := fun _ R => R true
section
variable {X : Cx} {e : Expr} {wi : WI} {t : WT} {w : WE} {g : TG} {gg : WG} {vs : List Nat}
/-- [w for .. in wi if t] -/
def fLc (wi : WI) (gg : WG) (t : WT) (w : WE) (vs : List Nat) : WF := fun ρ R => wi ρ fun xs => xs.length ≤ 1000000 ∧ lcL gg t w xs (wiL ρ vs) [] R
theorem lc_tr (hg : Tc g gg vs) {tt : TT} (ht : ∀ σ H Q, liftT t σ H Q → tt σ H Q) {σ : L2.St} {H : Hp} {Q : VK} (q : liftF (fLc wi gg t w vs) σ H Q) : tLc (liftI wi) g tt (lift w) vs σ H Q := by
  obtain ⟨W, own, ρ, R, o, i, z, f⟩ := q
  refine ⟨W, own, ρ, _, o, i, z, fun J xs H1 r k1 o1 hw D hD => ?_⟩
  obtain ⟨lx, r⟩ := r
  have i1 := i.mono o k1
  have wk := hw H1 fun _ _ _ z => z
  have sD := same_new (o := .lst []) hD
  have okD := o1.fresh hD
  -- the world in which the new list is hidden
  let W2 : Wd := ⟨W.st, fun a => W.hid a ∨ a = D⟩
  have e2 : IsE W own H1 (wipe σ vs) (wiL ρ vs) := i1.wipe vs
  have hideI : ∀ {v : V} {d : DV}, Is W H1 v d → Is W2 H1 v d := fun {v d} h => Is.tr (W := W) (W' := W2) rfl (fun b o k z => ⟨⟨k.1, fun w => w.elim k.2 fun e => ne_of_none z hD e⟩, z⟩) h
  have hideL : ∀ {v : List V} {d : List DV}, Iss W H1 v d → Iss W2 H1 v d := fun {v d} h => Iss.tr (W := W) (W' := W2) rfl (fun b o k z => ⟨⟨k.1, fun w => w.elim k.2 fun e => ne_of_none z hD e⟩, z⟩) h
  have e3 : ∀ {H' : Hp}, Kp W.st H1 H' → IsE W2 own H' (wipe σ vs) (wiL ρ vs) := fun {H'} k => ⟨e2.len, fun i d z => by
    obtain ⟨v, a, b⟩ := e2.dt i d z
    exact ⟨v, a, Is.mono (W := W2) k (hideI b)⟩, fun i xs z => by
    obtain ⟨a, us, h1, h2, h3, h4, h5⟩ := e2.ow i xs z
    exact ⟨a, us, h1, h2, k.o h3 (o1.h a (e2.hd i a h1)).2, h4, Iss.mono (W := W2) k (hideL h5)⟩, fun i ks xs z => by
    obtain ⟨a, us, h1, h2, h3, h4, h5⟩ := e2.od i ks xs z
    exact ⟨a, us, h1, h2, k.o h3 (o1.h a (e2.hd i a h1)).2, h4, Iss.mono (W := W2) k (hideL h5)⟩, fun i C ns xs z => by
    obtain ⟨a, us, h1, h2, ⟨dx, h3⟩, h4, h5⟩ := e2.oi i C ns xs z
    exact ⟨a, us, h1, h2, ⟨dx, k.o h3 (o1.h a (e2.hd i a h1)).2⟩, h4, Iss.mono (W := W2) k (hideL h5)⟩, fun i a z => .inl (e2.hd i a z)⟩
  have nD : W.st ≠ some D := okD.1
  have nkD : ¬ W2.ok D := fun k => k.2 (.inr rfl)
  have ok2 : ∀ {H' : Hp}, W2.Ok H' → W.Ok H' := fun h => ⟨h.s, fun a z => h.h a (.inl z)⟩
  refine ⟨fun n m H' => m = xs.length - n ∧ n ≤ xs.length ∧ ∃ (acc : List DV) (us : List V), H' D = some (.lst us) ∧ Kp W.st H1 H' ∧ W2.Ok H' ∧ Iss W2 H' us acc ∧ acc.length ≤ n ∧ lcL gg t w (xs.drop n) (wiL ρ vs) acc R, ?_, ?_⟩
  · refine ⟨_, rfl, Nat.zero_le _, [], [], upd_same, Kp.same sD, ⟨o1.s.same sD, fun a ha => ?_⟩, .nil, Nat.le_refl _, r⟩
    rcases ha with ha | rfl
    · obtain ⟨⟨o, ho⟩, n⟩ := o1.h a ha
      exact ⟨⟨o, sD _ _ ho⟩, n⟩
    · exact ⟨⟨_, upd_same⟩, nD⟩
  · rintro n m H' ⟨rfl, hn, acc, us, hus, kH, oH, iH, ln, hf⟩
    by_cases hlt : n < xs.length
    · refine .inr ⟨wk.go n H' kH hlt, fun H' => n + 1 ≤ xs.length ∧ ∃ (acc : List DV) (us : List V), H' D = some (.lst us) ∧ Kp W.st H1 H' ∧ W2.Ok H' ∧ Iss W2 H' us acc ∧ acc.length ≤ n + 1 ∧ lcL gg t w (xs.drop (n + 1)) (wiL ρ vs) acc R, fun H' z => ⟨xs.length - (n + 1), by omega, rfl, z⟩, fun v H2 y => ?_⟩
      obtain ⟨rfl, x, hx, ix⟩ := wk.yl n H' v H2 kH y hlt
      rw [List.drop_eq_getElem_cons (List.getElem?_eq_some_iff.mp hx).1, (List.getElem?_eq_some_iff.mp hx).2] at hf
      refine hg W2 own H2 σ ρ v x _ _ oH (e3 kH) (Is.mono (W := W2) kH (hideI ix)) hf fun ρ' σ' h3 ie ew => ⟨ew, ht _ _ _ ⟨W2, own, ρ', _, oH, ie, h3, fun k H3 r3 k3 o3 => ?_⟩⟩
      have us3 := k3.o hus nD
      cases k with
      | false => exact ⟨hlt, acc, us, us3, kH.trans k3, o3, iH.mono k3, by omega, r3⟩
      | true =>
        refine ⟨W2, own, ρ', _, o3, ie.mono oH k3, r3, fun y u H4 r4 k4 o4 i4 => ?_⟩
        have k34 := k3.trans k4
        have kH4 : Kp W.st H1 H4 := kH.trans k34
        have us4 := k34.o hus nD
        have il := iH.mono k34
        have lu : us.length < 1000000 := by rw [il.len]; omega
        refine ⟨us, us4, lt_line lu, hlt, acc ++ [y], us ++ [u], upd_same, kH4.own hD nD, ⟨StoW.own o1.s kH4 o4.s hD nD, fun a ha => ?_⟩, ?_, by rw [List.length_append]; exact Nat.succ_le_succ ln, r4⟩
        · obtain ⟨⟨o, ho⟩, na⟩ := o4.h a ha
          by_cases e : a = D
          · rw [e]; exact ⟨⟨_, upd_same⟩, nD⟩
          · exact ⟨⟨o, by rw [upd_ne e]; exact ho⟩, na⟩
        · exact (il.off nkD).app (.cons (i4.off nkD) .nil)
    · have e : n = xs.length := by omega
      subst e
      rw [List.drop_length] at hf
      refine .inl ⟨wk.stop _ H' kH rfl, ?_⟩
      have z := f acc us D (mns H' D) hf (k1.trans (kH.mns hD nD)) ⟨StoW.mns o1.s kH oH.s hD nD, fun a ha => ?_⟩ (Iss.tr (W := W2) (W' := W) rfl (fun b o k z => ⟨⟨k.1, fun w => k.2 (.inl w)⟩, by rw [mns_ne fun e => k.2 (.inr e)]; exact z⟩) iH) (by rw [iH.len]; omega) mns_same
      · rw [mns_upd hus] at z
        exact z
      · obtain ⟨⟨o, ho⟩, na⟩ := o1.h a ha
        exact ⟨⟨o, by rw [mns_ne fun e => by rw [e, hD] at ho; cases ho]; exact kH.o ho na⟩, na⟩
theorem yes_tr : ∀ σ H Q, liftT wYes σ H Q → tYes σ H Q := fun σ H Q q => by
  obtain ⟨W, own, ρ, R, o, i, z, f⟩ := q
  exact f _ _ z (Kp.refl _ _) o
end
end DL
namespace DL
open PySem PySem.Spec PyProof.Rows L2 NW
abbrev DS1 := List DV → (DV → Prop) → Prop
/-- called with data, a def gives data -/
def dsp (s : DS1) : Sp := fun vs H Q _ => ∃ W ds R, W.Ok H ∧ Iss W H vs ds ∧ s ds R ∧ Fin W H R Q
def startD (n : Nat) (ds : List DV) : Env := ds.map Sl.dt ++ List.replicate (n - ds.length) Sl.un
theorem isE_start {W : Wd} {H : Hp} {N : List Str} {vs : List V} {ds : List DV} (h : Iss W H vs ds) : IsE W (fun _ => none) H (L2.start N vs) (startD N.length ds) := by
  have l := h.len
  refine ⟨?_, fun i d e => ?_, fun i xs e => ?_, fun i ks xs e => ?_, fun i C ns xs e => ?_, fun _ _ z => nomatch z⟩
  · unfold L2.start startD
    rw [List.length_append, List.length_append, List.length_map, List.length_map, List.length_replicate, List.length_replicate, l]
  · unfold startD at e
    by_cases hi : i < ds.length
    · rw [List.getElem?_append_left (by rw [List.length_map]; exact hi), List.getElem?_map] at e
      cases z : ds[i]? with
      | none => rw [z] at e; cases e
      | some d' =>
        rw [z] at e
        cases e
        obtain ⟨v, h1, h2⟩ := h.get z
        refine ⟨v, ?_, h2⟩
        unfold L2.start
        rw [List.getElem?_append_left (by rw [List.length_map, l]; exact hi), List.getElem?_map, h1]
        rfl
    · rw [List.getElem?_append_right (by rw [List.length_map]; omega)] at e
      have := List.mem_of_getElem? e
      rw [List.mem_replicate] at this
      cases this.2
  · unfold startD at e
    have := List.mem_of_getElem? e
    rw [List.mem_append, List.mem_map, List.mem_replicate] at this
    rcases this with ⟨_, _, z⟩ | ⟨_, z⟩ <;> cases z
  · unfold startD at e
    have := List.mem_of_getElem? e
    rw [List.mem_append, List.mem_map, List.mem_replicate] at this
    rcases this with ⟨_, _, z⟩ | ⟨_, z⟩ <;> cases z
  · unfold startD at e
    have := List.mem_of_getElem? e
    rw [List.mem_append, List.mem_map, List.mem_replicate] at this
    rcases this with ⟨_, _, z⟩ | ⟨_, z⟩ <;> cases z
/-- what a body owes -/
def Owes (n : Nat) (s : DS1) (w : WS) : Prop := ∀ ds R, s ds R → w { nx := fun _ => R .non, rt := R } (startD n ds)
theorem dl_start {Ex : L2.WX} {s : DS1} {w : WS} {N : List Str} (o : Owes N.length s w) (vs : List V) (H : Hp) (Q : VK) (E : XK) (h : dsp s vs H Q E) : liftS Ex w { nx := fun _ H' => Q .non H', rt := Q } (L2.start N vs) H := by
  obtain ⟨W, ds, R, ok, i, hs, f⟩ := h
  refine ⟨⟨W.st, W.hid, H⟩, fun _ => none, _, _, ⟨ok.s, Kp.refl _ _, by rw [w_none]; exact ok, by rw [w_none]; exact isE_start i, (fun _ _ z => nomatch z), (fun _ _ _ z => nomatch z)⟩, o ds R hs, ⟨fun own ρ σ H' r c => ?_, fun _ _ _ _ z => z.elim, fun _ _ _ _ z => z.elim, fun d v H' r k o i => f d v H' r k o i, fun _ _ _ _ _ _ _ _ _ z => z.elim⟩⟩
  exact f _ _ _ r c.k c.ok0 .non
def wCall (s : DS1) (r : WA) : WE := fun ρ R => r ρ fun ds => s ds R
theorem call_tr {s : DS1} {r : WA} {E : XK} : ∀ σ H Q, lift (wCall s r) σ H Q → tCall (dsp s) [] E (liftA r) σ H Q := fun σ H Q q => by
  obtain ⟨W, own, ρ, R, o, i, z, f⟩ := q
  refine ⟨W, own, ρ, _, o, i, z, fun ds vs H1 r1 k1 o1 i1 => ?_⟩
  show dsp s (vs ++ []) H1 Q E
  rw [List.append_nil]
  exact ⟨W, ds, R, o1, i1, r1, f.mono k1⟩
section
variable {Ex : L2.WX}
variable {X : Cx} {e a b c : Expr} {es : List Expr} {w wa : WE} {s : DS1} {r : WA} {pos p : Pos}
theorem dcall (h : PE X e (tCall (dsp s) [] E0 (liftA r))) : PE X e (lift (wCall s r)) := pe_weak h call_tr
theorem dcb {d : DA} {rr : List V → Hp → VK → Prop} (hc : Cl rr d) (h : PE X e (tCB rr (liftB r))) : PE X e (lift (wCB d r)) := pe_weak h (cb_tr hc)
theorem pair1 {W : Wd} {own : Nat → Option Addr} {H : Hp} {vs : List V} {d : DV} (h : Paired (IsP W own H) vs [d]) : ∃ v, vs = [v] ∧ IsP W own H v d := by
  cases h with
  | cons x t => cases t; exact ⟨_, rfl, x⟩
theorem pair2 {W : Wd} {own : Nat → Option Addr} {H : Hp} {vs : List V} {d d2 : DV} (h : Paired (IsP W own H) vs [d, d2]) : ∃ v v2, vs = [v, v2] ∧ IsP W own H v d ∧ IsP W own H v2 d2 := by
  cases h with
  | cons x t =>
    cases t with
    | cons y t => cases t; exact ⟨_, _, rfl, x, y⟩
def dLen : DA := fun ds R => match ds with
  | [.str s] => s.length ≤ 1000000 ∧ R (.int (s.length : Nat))
  | [.lst xs] => R (.int (xs.length : Nat))
  | [.tup xs] => R (.int (xs.length : Nat))
  | _ => False
theorem clLen {K : PySem.W.Frag} : Cl (aLen K) dLen := by
  intro W own H vs ds R Q o h hd f
  unfold dLen at hd
  split at hd
  · obtain ⟨v, rfl, i⟩ := pair1 h
    cases i.str
    exact ⟨_, _, rfl, ⟨le_line hd.1, rfl⟩, f.int o hd.2⟩
  · obtain ⟨v, rfl, i⟩ := pair1 h
    obtain ⟨p, us, rfl, h1, h2, h3⟩ := i.lst
    exact ⟨_, _, rfl, .inl ⟨us, SqL.of h1, rfl⟩, by rw [h3.len]; exact f.int o hd⟩
  · obtain ⟨v, rfl, i⟩ := pair1 h
    obtain ⟨p, us, rfl, h1, h2, h3⟩ := i.tup
    exact ⟨_, _, rfl, .inr ⟨us, SqT.of h1, rfl⟩, by rw [h3.len]; exact f.int o hd⟩
  · exact hd.elim
def dInt : DA := fun ds R => match ds with
  | [.int i] => R (.int i)
  | _ => False
theorem clInt : Cl aInt dInt := by
  intro W own H vs ds R Q o h hd f
  unfold dInt at hd
  split at hd
  · obtain ⟨v, rfl, i⟩ := pair1 h
    cases i.int
    exact .inl (.inl ⟨_, rfl, f.int o hd⟩)
  · exact hd.elim
def dAbs : DA := fun ds R => match ds with
  | [.int i] => R (.int (if i < 0 then -i else i))
  | _ => False
def dMax : DA := fun ds R => match ds with
  | [.int i, .int j] => R (.int (if j > i then j else i))
  | _ => False
theorem clMax : Cl aMax dMax := by
  intro W own H vs ds R Q o h hd f
  unfold dMax at hd
  split at hd
  · obtain ⟨v, u, rfl, i, j⟩ := pair2 h
    cases i.int; cases j.int
    exact ⟨_, _, rfl, f.int o hd⟩
  · exact hd.elim
def dMin : DA := fun ds R => match ds with
  | [.int i, .int j] => R (.int (if j < i then j else i))
  | _ => False
theorem clMin : Cl aMin dMin := by
  intro W own H vs ds R Q o h hd f
  unfold dMin at hd
  split at hd
  · obtain ⟨v, u, rfl, i, j⟩ := pair2 h
    cases i.int; cases j.int
    exact ⟨_, _, rfl, f.int o hd⟩
  · exact hd.elim
/-- list(x): a new list -/
def dList : DA := fun ds R => match ds with
  | [.lst xs] => R (.lst xs)
  | [.tup xs] => R (.lst xs)
  | _ => False
theorem clList {K : PySem.W.Frag} : Cl (aList K) dList := by
  intro W own H vs ds R Q o h hd f
  unfold dList at hd
  split at hd
  · obtain ⟨v, rfl, i⟩ := pair1 h
    obtain ⟨p, us, rfl, h1, h2, h3⟩ := i.lst
    exact ⟨_, us, rfl, .inl (SqL.of h1), f.f.new o h2 h3 hd⟩
  · obtain ⟨v, rfl, i⟩ := pair1 h
    obtain ⟨p, us, rfl, h1, h2, h3⟩ := i.tup
    exact ⟨_, us, rfl, .inr (SqT.of h1), f.f.new o h2 h3 hd⟩
  · exact hd.elim
def fList (w : WE) : WF := fun ρ R => w ρ fun d => match d with
  | .lst xs => R xs
  | .tup xs => R xs
  | _ => False
def dTup : DA := fun ds R => match ds with
  | [.lst xs] => R (.tup xs)
  | [.tup xs] => R (.tup xs)
  | _ => False
theorem clTup {K : PySem.W.Frag} : Cl (aTup K) dTup := by
  intro W own H vs ds R Q o h hd f
  unfold dTup at hd
  split at hd
  · obtain ⟨v, rfl, i⟩ := pair1 h
    obtain ⟨p, us, rfl, h1, h2, h3⟩ := i.lst
    exact tup_l h1 (f.tup o h2 h3 hd)
  · obtain ⟨v, rfl, i⟩ := pair1 h
    have i' := i.is (fun _ e => nomatch e)
    cases i' with
    | tup h1 h2 h3 h4 => exact tup_t h1 (f.at o (.tup h1 h2 h3 h4) hd)
  · exact hd.elim
def dStr : DA := fun ds R => match ds with
  | [.int i] => i.natAbs < 2 ^ 300 ∧ R (.str (toString i))
  | _ => False
theorem clStr : Cl aStr dStr := by
  intro W own H vs ds R Q o h hd f
  unfold dStr at hd
  split at hd
  · obtain ⟨v, rfl, i⟩ := pair1 h
    cases i.int
    exact str_i hd.1 (f.str o hd.2)
  · exact hd.elim
def dAll : DA := fun ds R => match ds with
  | [.lst xs] => ∃ bs : List Bool, xs = bs.map DV.bl ∧ R (.bl (bs.all id))
  | _ => False
theorem clAll {K : PySem.W.Frag} : Cl (rAll K) dAll := by
  intro W own H vs ds R Q o h hd f
  unfold dAll at hd
  split at hd
  · obtain ⟨v, rfl, i⟩ := pair1 h
    obtain ⟨ns, rfl, r⟩ := hd
    obtain ⟨p, us, rfl, h1, h2, h3⟩ := i.lst
    obtain rfl := iss_bl h3
    exact ⟨p, ns, rfl, SqL.of h1, f.bl o r⟩
  · exact hd.elim
def tyS : DV → Option String
  | .non => some "NoneType"
  | .bl _ => some "bool"
  | .int _ => some "int"
  | .str _ => some "str"
  | .lst _ => some "list"
  | .tup _ => some "tuple"
  | .dic _ _ => some "dict"
  | _ => none
theorem ty_of {K : PySem.W.Frag} {W : Wd} {own : Nat → Option Addr} {H : Hp} {v : V} {d : DV} {a : String} (h : IsP W own H v d) (e : tyS d = some a) : TyX K H v (.type a) := by
  cases d with
  | non => cases h.non; cases e; exact .base .non
  | bl b => cases h.bl; cases e; exact .base (.bl _)
  | int b => cases h.int; cases e; exact .base (.int _)
  | str b => cases h.str; cases e; exact .base (.str _)
  | lst xs =>
    obtain ⟨p, us, rfl, h1, _⟩ := h.lst
    cases e; exact .base (.lst h1)
  | tup xs =>
    obtain ⟨p, us, rfl, h1, _⟩ := h.tup
    cases e; exact .base (.tup h1)
  | dic ks xs =>
    cases h.is (fun _ e => nomatch e) with
    | dic h1 => cases e; exact .base (.dK h1)
  | _ => cases e
def isiB (T : String) (d : DV) : Option Bool := (tyS d).bind fun a => kitB a T
def wIsi (T : String) (w : WE) : WE := fun ρ R => w ρ fun d => ∃ b, isiB T d = some b ∧ R (.bl b)
theorem isiB_ty {T : String} {d : DV} {b : Bool} (h : isiB T d = some b) : ∃ a, tyS d = some a ∧ kitB a T = some b := by
  unfold isiB at h
  cases e : tyS d with
  | none => rw [e] at h; cases h
  | some a => rw [e] at h; exact ⟨a, rfl, h⟩
theorem disi {K : PySem.W.Frag} {T : String} (h : PE X e (tCB (aIsi K) (tCons (liftP w) (tCons (tC (.ty T)) tNil)))) : PE X e (lift (wIsi T w)) := pe_weak h fun σ H Q q => by
  obtain ⟨W, own, ρ, R, o, i, z, f⟩ := q
  refine ⟨W, own, ρ, _, o, i, z, fun d v H1 r k1 o1 i1 => ?_⟩
  obtain ⟨b, h1, r⟩ := r
  obtain ⟨t, h2, h3⟩ := isiB_ty h1
  exact isi_of (ty_of i1 h2) h3 ((f.mono k1).bl o1 r)
def wIsi2 (T U : String) (w : WE) : WE := fun ρ R => w ρ fun d => ∃ b c, isiB T d = some b ∧ isiB U d = some c ∧ R (.bl (b || c))
theorem isi_non_bool  : isiB "bool" .non = some false := by show kitB "NoneType" "bool" = some false; decide +kernel
theorem isi_non_int  : isiB "int" .non = some false := by show kitB "NoneType" "int" = some false; decide +kernel
theorem isi_bl_bool {k : Bool} : isiB "bool" (.bl k) = some true := by show kitB "bool" "bool" = some true; decide +kernel
theorem isi_bl_int {k : Bool} : isiB "int" (.bl k) = some true := by show kitB "bool" "int" = some true; decide +kernel
theorem isi_int_bool {k : Int} : isiB "bool" (.int k) = some false := by show kitB "int" "bool" = some false; decide +kernel
theorem isi_int_int {k : Int} : isiB "int" (.int k) = some true := by show kitB "int" "int" = some true; decide +kernel
theorem isi_str_bool {k : Str} : isiB "bool" (.str k) = some false := by show kitB "str" "bool" = some false; decide +kernel
theorem isi_str_int {k : Str} : isiB "int" (.str k) = some false := by show kitB "str" "int" = some false; decide +kernel
theorem isi_str_str {k : Str} : isiB "str" (.str k) = some true := by show kitB "str" "str" = some true; decide +kernel
theorem isi_lst_list {k : List DV} : isiB "list" (.lst k) = some true := by show kitB "list" "list" = some true; decide +kernel
theorem isi_tup_tuple {k : List DV} : isiB "tuple" (.tup k) = some true := by show kitB "tuple" "tuple" = some true; decide +kernel
end
end DL
namespace DL
open PySem PySem.Spec PyProof.Rows L2 NW
abbrev DS2 := List DV → (DV → Prop) → (DV → Prop) → Prop
def FinX (W : Wd) (H : Hp) (RX : DV → Prop) (E : XK) : Prop := ∀ C ns xs dd H' fs, RX (.err C ns xs) → Kp W.st H H' → W.Ok H' → H' dd = some (.xd fs) → W.ok dd → fs.map (·.1) = ns → Iss W H' (fs.map (·.2)) xs → E (.ref C) (some dd) H'
/-- a def that may raise -/
def dspX (s : DS2) : Sp := fun vs H Q E => ∃ W ds R RX, W.Ok H ∧ Iss W H vs ds ∧ s ds R RX ∧ Fin W H R Q ∧ FinX W H RX E
def OwesX (n : Nat) (s : DS2) (w : WS) : Prop := ∀ ds R RX, s ds R RX → w { nx := fun _ => R .non, rt := R, xc := fun e _ => RX e } (startD n ds)
theorem dl_startX {s : DS2} {w : WS} {N : List Str} (o : OwesX N.length s w) (vs : List V) (H : Hp) (Q : VK) (E : XK) (h : dspX s vs H Q E) : liftS (fun cls d _ H => E cls d H) w { nx := fun _ H' => Q .non H', rt := Q } (L2.start N vs) H := by
  obtain ⟨W, ds, R, RX, ok, i, hs, f, g⟩ := h
  refine ⟨⟨W.st, W.hid, H⟩, fun _ => none, _, _, ⟨ok.s, Kp.refl _ _, by rw [w_none]; exact ok, by rw [w_none]; exact isE_start i, (fun _ _ z => nomatch z), (fun _ _ _ z => nomatch z)⟩, o ds R RX hs, ⟨fun own ρ σ H' r c => ?_, fun _ _ _ _ z => z.elim, fun _ _ _ _ z => z.elim, fun d v H' r k o i => f d v H' r k o i, fun own ρ σ H' C ns xs dd fs r c h1 h2 h3 h4 => ?_⟩⟩
  · exact f _ _ _ r c.k c.ok0 .non
  · exact g C ns xs dd H' fs r c.k c.ok0 h1 ⟨h2.1, fun z => h2.2 (.inl z)⟩ h3 h4.w0
/-- a call that raises nothing -/
def wCallN (s : DS2) (r : WA) : WE := fun ρ R => r ρ fun ds => s ds R fun _ => False
section
variable {Ex : L2.WX}
variable {X : Cx} {e a b c : Expr} {es : List Expr} {w wa : WE} {s : DS2} {r : WA} {pos p : Pos} {st : Stmt}
theorem fx_of {B : Bs} {own : Nat → Option Addr} {H H1 : Hp} {σ : L2.St} {ρ : Env} {E : WEnds} {D : Ends} (c : Ctx B own H σ ρ) (d : Dl B E D Ex) (k : Kp B.st H H1) : FinX (B.w own) H1 (fun x => E.xc x ρ) (L2.WE Ex σ) := fun C ns xs dd H' fs r k' o h1 h2 h3 h4 =>
  d.xc own ρ σ H' C ns xs dd fs r (c.mono (k.trans k') o) h1 h2 h3 h4
/-- x = f(..), f(..), return f(..), where what f raises is wished for -/
def wAsgX (i : Nat) (s : DS2) (r : WA) : WS := fun E ρ => r ρ fun ds => s ds (fun d => E.nx (ρ.set i (.dt d))) fun x => E.xc x ρ
def wDropX (s : DS2) (r : WA) : WS := fun E ρ => r ρ fun ds => s ds (fun _ => E.nx ρ) fun x => E.xc x ρ
theorem ddropX (h : ∀ te, PE X e te → PS X st (tDrop te)) (he : PE X e (tCallS (dspX s) (L2.WE Ex) (liftA r))) : PS X st (liftS Ex (wDropX s r)) := ps_weak (h _ he) fun D σ H q => by
  obtain ⟨B, own, ρ, E, c, h, d⟩ := q
  refine ⟨B.w own, own, ρ, _, c.ok, c.e, h, fun ds vs H1 r1 k1 o1 i1 => ⟨B.w own, ds, _, _, o1, i1, r1, fun x v H2 r2 k2 o2 i2 => ?_, fx_of c d k1⟩⟩
  exact d.nx _ _ _ _ r2 (c.mono (k1.trans k2) o2)
/-- raise C(e), one field -/
def wRaise1 (K : PySem.W.Frag) (cn fl : Str) (w : WE) : WS := fun E ρ => w ρ fun d => E.xc (.err (He.ga K cn) [fl] [d]) ρ
theorem draise1 {K : PySem.W.Frag} {E0' : XK} {cn fl : Str} (he : PS X st (tRaise E0' (tMkO (He.ga K cn) (sp_init1 K (He.ga K cn) fl) [] (tCons (lift w) tNil)))) : PS X st (liftS (fun cls d _ H => E0' cls d H) (wRaise1 K cn fl w)) := ps_weak he fun D σ H q => by
  obtain ⟨B, own, ρ, E, c, h, d⟩ := q
  refine s_raise1 ⟨B.w own, own, ρ, _, c.ok, c.e, h, fun x v H1 r1 k1 o1 i1 => mk_r fun dd hd => ?_⟩
  have s := same_new (o := .xd [(fl, v)]) hd
  have c1 := (c.mono k1 o1).mono (Kp.same s) (o1.same s)
  exact d.xc own ρ σ _ _ _ _ dd [(fl, v)] r1 c1 upd_same (o1.fresh hd) rfl (.cons (i1.mono (Kp.same s)) .nil)
/-- what an error class has to do with the handler -/
def liftH (w : Addr → Value → Option Addr → WS) (a : Addr) (cls : Value) (d : Option Addr) : TS := liftS (fun _ _ _ _ => False) (w a cls d)
def wTry (K : PySem.W.Frag) (i : Nat) (L : List Str) (s : WS) (h : Addr → Value → Option Addr → WS) : WS := fun E ρ => s { E with xc := fun x ρ' => ∃ (cn : Str) (ns : List Str) (xs : List DV), x = .err (He.ga K cn) ns xs ∧ cn ∈ L ∧ ∀ a dd, h a (.ref (He.ga K cn)) (some dd) { nx := fun _ => False, rt := fun v => E.rt v } (ρ'.set i (.dt (.hote a (He.ga K cn) dd ns xs))) } ρ
theorem try_tr {K : PySem.W.Frag} {i : Nat} {L : List Str} {s : WS} {h : Addr → Value → Option Addr → WS} {Wout : L2.WX} (hL : ∀ cn ∈ L, PySem.W.exmOne K (.ref (He.ga K cn)) (.ref (He.ga K "NestError")) = some true) {D : Ends} {σ : L2.St} {H : Hp} (q : liftS Ex (wTry K i L s h) D σ H) : tTryA K (.ref (He.ga K "NestError")) i (fun W => liftS W s) (liftH h) Wout D σ H := by
  obtain ⟨B, own, ρ, E, c, hw, d⟩ := q
  refine ⟨B, own, ρ, _, c, hw, ⟨d.nx, d.bk, d.ct, d.rt, fun own' ρ' σ' H' C ns xs dd fs r c' h1 h2 h3 h4 => ?_⟩⟩
  obtain ⟨cn, ns', xs', ex, hm, r⟩ := r
  injection ex with e1 e2 e3
  subst e1 e2 e3
  refine was_y (hL cn hm) fun a ha => ⟨B, cut own' i, _, _, c'.set i (v := .ref a) (.hot h1 h2 h3 h4), r a dd, ⟨fun _ _ _ _ z => z.elim, fun _ _ _ _ z => z.elim, fun _ _ _ _ z => z.elim, d.rt, fun _ _ _ _ _ _ _ _ _ z => z.elim⟩⟩
/-- what is asked of the error classes L -/
structure Errs (K : PySem.W.Frag) (L : List Str) : Prop where
  f : ∀ c ∈ L, ErrF K (He.ga K c) (inL (kindsOf c))
def selD (c : Str) : List DV := (kindsOf c).map DV.str
def sp_kindF (E a : Addr) (d : Option Addr) (b : Str → Bool) : Sp := fun vs H Q _ => vs = [.ref a] ∧ (∀ dd, d = some dd → ∃ fs, H dd = some (.xd fs)) ∧ ∀ (l : Addr) (H' : Hp), Same H H' → H l = none → H' l = some (.lst (sel (kindsAll b))) → Q (.ref l) H'
theorem l_kindF (E a : Addr) (d : Option Addr) (b : Str → Bool) : ∀ vs H Q X, sp_kindF E a d b vs H Q X → vs.length = 1 := fun _ _ _ _ h => by rw [h.1]; rfl
theorem none_back {H H' : Hp} {D : Addr} (s : Same H H') (h : H' D = none) : H D = none := by
  cases e : H D with
  | none => rfl
  | some o => rw [s _ _ e] at h; cases h
theorem p_kindF (K : PySem.W.Frag) (E a : Addr) (d : Option Addr) (b : Str → Bool) (F : KitF K E b) (vs : List V) (H : Hp) (Q : VK) (X : XK) (h : sp_kindF E a d b vs H Q X) : t_kinds K E a d { nx := fun _ H' => Q .non H', rt := Q } (L2.start ["error", "rows", "row"] vs) H := by
  obtain ⟨ev, hd, q⟩ := h
  subst ev
  show t_kinds K E a d _ [some (.ref a), none, none] H
  rw [t_kinds_eq]
  have M : ∀ n, n ∈ errN1 ++ errN2 → PySem.W.kitOne K (.ref E) (.ref (He.ga K n)) = some (b n) := F.c
  refine s_seq ?_
  refine row0 (.ty _) F.v (.own _) (M "NestError" (by decide +kernel)) hd (Same.refl H) fun r H1 w1 s1 e1 a1 n1 => ?_
  refine p_rows K E a d b H _ _ _ hd kindPairs r H1 w1 _ (fun q hq => ⟨M _ (pairs_in q hq).1, M _ (pairs_in q hq).2⟩) s1 e1 a1 (by rw [n1]; decide) fun r2 H2 w2 s2 e2 a2 l2 => ?_
  refine s_seq ?_
  refine row1 (.own _) (M "BadClaim" (by decide +kernel)) hd s2 e2 a2 l2 fun r3 H3 w3 s3 e3 a3 => ?_
  exact ⟨_, rfl, r3, w3, kindsAll b, rfl, e3, a3, fun D hD => q D _ (s3.trans (same_new hD)) (none_back s3 hD) upd_same⟩
def tKdF (K : PySem.W.Frag) (cls : Value) (a : Addr) (d : Option Addr) (te : TE) : TE := fun σ H Q => ∃ (C : Addr) (b : Str → Bool), cls = .ref C ∧ KitF K C b ∧ ExcC K C ∧ tCall (sp_kindF C a d b) [] E0 (tCons te tNil) σ H Q
theorem pe_kdF {X : Cx} {a : Addr} {oe : Obj} {cls : Value} {d : Option Addr} {pn : List (Addr × Obj)} {k j : Nat} {ps : List Str} {x : Str} {q pos : Pos} {e : Expr} {te : TE}
    (h : ∀ C b, KitF X.K C b → ExcC X.K C → Zc (.ref C) d oe → HasH X.prog X.w X.K X.mg X.base (a, oe) x k ps (sp_kindF C a d b)) (hr : L2H.RoomH j (X.suite a ((a, oe) :: pn)).A) (hz : L2N.Zn cls d oe) (hf : ∃ vs, oe.data = .fields vs)
    (he : PE (X.suite a ((a, oe) :: pn)) e te) (hk : k ≤ j := by decide) (hg : Gl (X.suite a ((a, oe) :: pn)) x := by rfl) (hdb : (x == ("__debug__" : Str)) = false := by decide)
    (hs : starEach [e] (X.suite a ((a, oe) :: pn)).env = (false, eval e (X.suite a ((a, oe) :: pn)).env) :: starEach [] (X.suite a ((a, oe) :: pn)).env := by rfl) (hpl : (backTo pos (starEach [] (X.suite a ((a, oe) :: pn)).env)).any (·.1) = false := by rfl) : PE (X.suite a ((a, oe) :: pn)) (.Call (.Name x q) [e] [] pos) (tKdF X.K cls a d te) := by
  refine ⟨fun pins s σ H Q I hh => ?_⟩
  obtain ⟨C, b, ec, F, G, hq⟩ := hh
  subst ec
  exact (pe_hc (X := X.suite a ((a, oe) :: pn)) (h C b F G hz.zc) hr (hotS hz hf) (pa_cons he pa_nil (hs := hs)) hk hg hdb hs hpl).run pins s σ H Q I hq
def wKd (K : PySem.W.Frag) (L : List Str) (a : Addr) (cls : Value) (d : Option Addr) (i : Nat) : WE := fun ρ R => atV (fun e => ∃ (cn : Str) (dd : Addr) (ns : List Str) (xs : List DV), e = .hote a (He.ga K cn) dd ns xs ∧ cls = .ref (He.ga K cn) ∧ d = some dd ∧ cn ∈ L ∧ R (.lst (selD cn))) ρ[i]?
theorem kd_tr {K : PySem.W.Frag} {L : List Str} {a : Addr} {cls : Value} {d : Option Addr} {i : Nat} (F : Errs K L) (hL : ∀ c ∈ L, sel (kindsAll (inL (kindsOf c))) = (kindsOf c).map V.str ∧ (kindsOf c).length ≤ 100) : ∀ σ H Q, lift (wKd K L a cls d i) σ H Q → tKdF K cls a d (tVar i) σ H Q := fun σ H Q q => by
  obtain ⟨W, own, ρ, R, o, ie, z, f⟩ := q
  obtain ⟨_, z2, cn, dd, ns, xs, rfl, rfl, rfl, hm, r⟩ := atV_ex z
  obtain ⟨v, hv, hi⟩ := ie.dt _ _ z2
  cases hi with
  | hot h1 h2 h3 h4 =>
    refine ⟨_, _, rfl, (F.f cn hm).kit, (F.f cn hm).exc, _, hv, rfl, fun dd' e => ⟨_, by cases e; exact h1⟩, fun l H' s n e => ?_⟩
    rw [(hL cn hm).1] at e
    refine f (.lst (selD cn)) (.ref l) H' r (Kp.same s) (o.same s) ?_
    refine .lst e (o.fresh n) ?_ (str_iss _)
    rw [List.length_map]
    exact Nat.le_trans (hL cn hm).2 (by decide)
theorem dkd {K : PySem.W.Frag} {L : List Str} {aa : Addr} {cls : Value} {d : Option Addr} {i : Nat} (F : Errs K L) (hL : ∀ c ∈ L, sel (kindsAll (inL (kindsOf c))) = (kindsOf c).map V.str ∧ (kindsOf c).length ≤ 100) (h : PE X e (tKdF K cls aa d (tVar i))) : PE X e (lift (wKd K L aa cls d i)) := pe_weak h (kd_tr F hL)
/-- a field of the handled error -/
def lkD : List Str → List DV → Str → Option DV
  | n :: ns, x :: xs, m => if m = n then some x else lkD ns xs m
  | _, _, _ => none
theorem lk_ok {W : Wd} {H : Hp} {m : Str} : ∀ {fs : List (Str × V)} {ns : List Str} {xs : List DV} {x : DV}, fs.map (·.1) = ns → Iss W H (fs.map (·.2)) xs → lkD ns xs m = some x → ∃ v, fs.lookup m = some v ∧ Is W H v x
  | [], ns, xs, x, e, i, h => by
    subst e
    cases i
    cases h
  | (n, v) :: fs, ns, xs, x, e, i, h => by
    subst e
    cases i with
    | @cons _ _ y ys a t =>
      have h : (if m = n then some y else lkD (fs.map (·.1)) ys m) = some x := h
      rw [List.lookup_cons]
      by_cases z : m = n
      · have z' : (m == n) = true := beq_iff_eq.mpr z
        rw [if_pos z] at h
        rw [z']
        cases h
        exact ⟨v, rfl, a⟩
      · have z' : (m == n) = false := beq_eq_false_iff_ne.mpr z
        rw [if_neg z] at h
        rw [z']
        exact lk_ok rfl t h
def wXf (K : PySem.W.Frag) (L : List (Str × Str)) (a : Addr) (cls : Value) (d : Option Addr) (f : Str) (i : Nat) : WE := fun ρ R => atV (fun e => ∃ (cn : Str) (dd : Addr) (ns : List Str) (xs : List DV) (x : DV), e = .hote a (He.ga K cn) dd ns xs ∧ cls = .ref (He.ga K cn) ∧ d = some dd ∧ (cn, f) ∈ L ∧ lkD ns xs f = some x ∧ R x) ρ[i]?
theorem xf_tr {K : PySem.W.Frag} {L : List (Str × Str)} {a : Addr} {cls : Value} {d : Option Addr} {f : Str} {i : Nat} (F : ∀ c ∈ L, XfC K (He.ga K c.1) ∧ PySem.W.findIn K (.ref (He.ga K c.1)) c.2 = some none) : ∀ σ H Q, lift (wXf K L a cls d f i) σ H Q → tXfE K a cls d f (tVar i) σ H Q := fun σ H Q q => by
  obtain ⟨W, own, ρ, R, o, ie, z, g⟩ := q
  obtain ⟨_, z2, cn, dd, ns, xs, x, rfl, rfl, rfl, hm, hx, r⟩ := atV_ex z
  obtain ⟨v, hv, hi⟩ := ie.dt _ _ z2
  cases hi with
  | hot h1 h2 h3 h4 =>
    obtain ⟨u, hu, iu⟩ := lk_ok h3 h4 hx
    exact c_xf (F _ hm).1 (F _ hm).2 ⟨_, hv, rfl, dd, _, u, rfl, h1, hu, g.at o iu r⟩ ⟨i, rfl⟩
theorem dxf {K : PySem.W.Frag} {L : List (Str × Str)} {aa : Addr} {cls : Value} {d : Option Addr} {f : Str} {i : Nat} (F : ∀ c ∈ L, XfC K (He.ga K c.1) ∧ PySem.W.findIn K (.ref (He.ga K c.1)) c.2 = some none) (h : PE X e (tXfE K aa cls d f (tVar i))) : PE X e (lift (wXf K L aa cls d f i)) := pe_weak h (xf_tr F)
end
end DL
namespace DL
open PySem PySem.Spec PyProof.Rows L2 NW
section
variable {Ex : L2.WX}
variable {X : Cx} {e a b c : Expr} {es : List Expr} {w wa wb wc : WE} {pos p : Pos} {st : Stmt}
def dNeg (d : DV) (R : DV → Prop) : Prop := match d with
  | .int i => R (.int (-i))
  | _ => False
def wNeg (w : WE) : WE := fun ρ R => w ρ fun d => dNeg d R
theorem dtchain {r r' : R2} {d d' : D2} (h : Op r d) (h' : Op r' d') (hm : PT X e (tTest (tChain r r' (liftP wa) (liftP wb) (liftP wc)))) : PT X e (liftT (wTB (wChain d d' wa wb wc))) := pt_weak hm fun σ H Q q => by
  obtain ⟨W, own, ρ, R, o, i, z, f⟩ := q
  refine chain_tr h h' σ H _ ⟨W, own, ρ, _, o, i, z, fun d v H' r k o' i' => ?_⟩
  split at r
  · cases i'
    exact ⟨_, rfl, f _ _ r k o'⟩
  · exact r.elim
abbrev WP := Env → (Option Int → Prop) → Prop
def liftO (w : WP) : TO := fun σ H Q => ∃ W own ρ R, W.Ok H ∧ IsE W own H σ ρ ∧ w ρ R ∧ ∀ o H', R o → Kp W.st H H' → W.Ok H' → Q o H'
def pN : WP := fun _ R => R none
def pP (w : WE) : WP := fun ρ R => w ρ fun d => match d with
  | .int i => R (some i)
  | _ => False
theorem po_weak {e : Option Expr} {t t' : TO} (h : PO X e t) (w : ∀ σ H Q, t' σ H Q → t σ H Q) : PO X e t' := ⟨fun pins s σ H Q I q => h.run pins s σ H Q I (w σ H Q q)⟩
theorem dpo0 : PO X none (liftO pN) := po_weak po_none fun σ H Q q => by
  obtain ⟨W, own, ρ, R, o, i, z, f⟩ := q
  exact f _ _ z (Kp.refl _ _) o
theorem dpo (h : PE X a (liftP w)) : PO X (some a) (liftO (pP w)) := po_weak (po_some h) fun σ H Q q => by
  obtain ⟨W, own, ρ, R, o, i, z, f⟩ := q
  refine ⟨W, own, ρ, _, o, i, z, fun d v H1 r k o1 i1 => ?_⟩
  split at r
  · cases i1.int
    exact ⟨_, rfl, f _ _ r k o1⟩
  · exact r.elim
def cutG {α : Type} (xs : List α) (lo hi : Option Int) : List α := (xs.drop (HT.sIx xs.length 0 lo)).take (HT.sIx xs.length xs.length hi - HT.sIx xs.length 0 lo)
theorem cutG_len {α : Type} (xs : List α) (lo hi : Option Int) : (cutG xs lo hi).length ≤ xs.length := by
  unfold cutG
  rw [List.length_take, List.length_drop]
  omega
theorem iss_cut {W : Wd} {H : Hp} {vs : List V} {xs : List DV} {lo hi : Option Int} (h : Iss W H vs xs) : Iss W H (cutV vs lo hi) (cutG xs lo hi) := by
  unfold cutV cutG
  rw [h.len]
  exact (h.drop _).take _
def dSl (d : DV) (lo hi : Option Int) (R : DV → Prop) : Prop := match d with
  | .lst xs => R (.lst (cutG xs lo hi))
  | .str s => s.length ≤ 1000000 ∧ R (.str (cutS s lo hi))
  | _ => False
def wSl (w : WE) (l h : WP) : WE := fun ρ R => w ρ fun d => l ρ fun lo => h ρ fun hi => dSl d lo hi R
def rSlB (K : PySem.W.Frag) : V → Option Int → Option Int → Hp → VK → Prop := fun x lo hi H Q => rSlL K x lo hi H Q ∨ rSlS x lo hi H Q
theorem slB : SlR X (rSlB X.K) := sl_list.or sl_str
theorem dsl {lo hi : Option Expr} {l h : WP} {p2 : Pos} (ha : PE X a (liftP w)) (hl : PO X lo (liftO l)) (hh : PO X hi (liftO h)) : PE X (.Subscript a (.Slice lo hi none p2) pos) (lift (wSl w l h)) := pe_weak (pe_slice slB ha hl hh) fun σ H Q q => by
  obtain ⟨W, own, ρ, R, o, i, z, f⟩ := q
  refine ⟨W, own, ρ, _, o, i, z, fun d v H1 r k o1 i1 => ⟨W, own, ρ, _, o1, i.mono o k, r, fun lo H2 r2 k2 o2 => ⟨W, own, ρ, _, o2, i.mono o (k.trans k2), r2, fun hi H3 r3 k3 o3 => ?_⟩⟩⟩
  have i3 := i1.mono o1 (k2.trans k3)
  have f3 := f.mono (k.trans (k2.trans k3))
  unfold dSl at r3
  split at r3
  · obtain ⟨p, vs, rfl, h1, h2, h3⟩ := i3.lst
    exact .inl ⟨p, vs, rfl, SqL.of h1, f3.f.new o3 (Nat.le_trans (cutV_length vs _ _) h2) (iss_cut h3) r3⟩
  · cases i3.str
    exact .inr ⟨_, rfl, le_line r3.1, f3.str o3 r3.2⟩
  · exact r3.elim
theorem dlistF {K : PySem.W.Frag} (h : ∀ t, PE X a t → PE X e (tCB (aList K) (tCons t tNil))) (ha : PE X a (liftP w)) : PE X e (liftF (fList w)) := pe_weak (h _ ha) fun σ H Q q => by
  obtain ⟨W, own, ρ, R, o, i, z, f⟩ := q
  refine ⟨W, own, ρ, _, o, i, z, fun d v H1 r k o1 i1 => ?_⟩
  split at r
  · obtain ⟨p, us, rfl, h1, h2, h3⟩ := i1.lst
    exact ⟨_, us, rfl, .inl (SqL.of h1), (f.mono k).new o1 h2 h3 r⟩
  · obtain ⟨p, us, rfl, h1, h2, h3⟩ := i1.tup
    exact ⟨_, us, rfl, .inr (SqT.of h1), (f.mono k).new o1 h2 h3 r⟩
  · exact r.elim
variable {wi : WI} {t : WT} {g : TG} {gg : WG} {vs : List Nat} {tt : TT} {tg iter elt : Expr} {ifs : List Expr} {Y : (Hp → Shared → Addr → List (Str × Addr) → List Addr → Cx)}
theorem one_tr {t : WT} : ∀ σ H Q, liftT t σ H Q → (liftT t) σ H Q := fun _ _ _ q => q
theorem dlc {t : WT} {tt : TT} (hg : Tc g gg vs) (ht : ∀ σ H Q, liftT t σ H Q → tt σ H Q) (h : PE X e (tLc (liftI wi) g tt (lift w) vs)) : PE X e (liftF (fLc wi gg t w vs)) := pe_weak h fun σ H Q q => lc_tr hg ht q
theorem dsetLcO (i : Nat) {t : WT} {tt : TT} (hg : Tc g gg vs) (ht : ∀ σ H Q, liftT t σ H Q → tt σ H Q) (h : PS X st (tAsg (tLc (liftI wi) g tt (lift w) vs) (gName i))) : PS X st (liftS Ex (wAsgO i (fLc wi gg t w vs))) := ps_weak h fun D σ H q => by
  obtain ⟨B, own, ρ, E, c, h, d⟩ := q
  exact lc_tr hg ht ⟨B.w own, own, ρ, _, c.ok, c.e, h, fun xs us q H1 r k o i1 l hq => d.nx _ _ _ _ r ((c.mono k o).setO i hq l i1)⟩
def dLrev (d : DV) (R : DV → Prop) : Prop := match d with
  | .lst xs => R (.lst xs.reverse)
  | _ => False
def wLrev (w : WE) : WE := fun ρ R => w ρ fun d => dLrev d R
theorem dtry {K : PySem.W.Frag} {i : Nat} {L : List Str} {s : WS} {hh : Addr → Value → Option Addr → WS} {Wout : L2.WX} (hL : ∀ cn ∈ L, PySem.W.exmOne K (.ref (He.ga K cn)) (.ref (He.ga K "NestError")) = some true)
    (h : PS X st (tTryA K (.ref (He.ga K "NestError")) i (fun W => liftS W s) (liftH hh) Wout)) : PS X st (liftS Ex (wTry K i L s hh)) := ps_weak h fun _ _ _ => try_tr hL
def wPop (j : Nat) (w : WE) : WS := fun E ρ => atO (fun ys => w ρ fun d => ∃ k : Nat, d = .int k ∧ k < ys.length ∧ E.nx (ρ.set j (.ow (ys.eraseIdx k)))) ρ[j]?
theorem dpop {K : PySem.W.Frag} (j : Nat) (h : ∀ te, PE X a te → PS X st (tDrop (tBM K "list" rPopAt (tVar j) (tCons te tNil)))) (ha : PE X a (lift w)) : PS X st (liftS Ex (wPop j w)) := ps_weak (h _ ha) fun D σ H q => by
  obtain ⟨B, own, ρ, E, c, hx, d⟩ := q
  obtain ⟨ys, hy, h1⟩ := atO_ex hx
  obtain ⟨b, us, f1, f2, f3, f4, f5⟩ := c.e.ow j ys hy
  refine ⟨_, f2, .inl ⟨rfl, us, SqL.of f3⟩, B.w own, own, ρ, _, c.ok, c.e, h1, fun y u H1 r1 k1 o1 i1 => ?_⟩
  obtain ⟨k, rfl, hk, r1⟩ := r1
  cases i1
  have f3' := k1.o f3 (c.ok.h b (.inr ⟨j, f1⟩)).2
  have hkl : k < us.length := by rw [f5.len]; exact hk
  exact pop_l f3' rfl hkl f4 fun y' e => d.nx _ _ _ _ r1 ((c.mono k1 o1).updO j f1 hy (vs := us.eraseIdx k) (by rw [List.length_eraseIdx]; split <;> omega) ((f5.mono k1).erase k))
/-- x op= e for whole numbers -/
def dIAdd : D2 := fun a b R => match a, b with
  | .int i, .int j => R (.int (i + j))
  | _, _ => False
theorem opIAdd : Op iAdd dIAdd := by
  intro W own H x y a b R Q o hx hy hd f
  unfold dIAdd at hd
  split at hd
  · cases hx.int; cases hy.int
    exact ⟨_, _, rfl, rfl, f.int o hd⟩
  · exact hd.elim
end
section
variable {P : Program} {w : World} {K : PySem.W.Frag} {mg : Str → Option Value} {base : Heap} {x : Str} {k : Nat} {ps : List Str} {sp sp' : Sp} {p : Addr × Obj}
theorem Has.weak (h : Has P w K mg base x k ps sp) (z : ∀ vs H Q E, sp' vs H Q E → sp vs H Q E) : Has P w K mg base x k ps sp' := by
  obtain ⟨f, fd, F⟩ := h
  exact ⟨f, fd, F.g, F.kp, F.b, ⟨fun vs H Q E q => F.ok.len vs H Q E (z _ _ _ _ q), fun A outer s H args us vs Q E r e b v q => F.ok.run A outer s H args us vs Q E r e b v (z _ _ _ _ q)⟩⟩
theorem HasH.weak (h : HasH P w K mg base p x k ps sp) (z : ∀ vs H Q E, sp' vs H Q E → sp vs H Q E) : HasH P w K mg base p x k ps sp' := by
  obtain ⟨f, fd, F⟩ := h
  exact ⟨f, fd, F.g, F.kp, F.b, ⟨fun vs H Q E q => F.ok.len vs H Q E (z _ _ _ _ q), fun A outer s H args us vs Q r hot pin e b v q => F.ok.run A outer s H args us vs Q r hot pin e b v (z _ _ _ _ q)⟩⟩
end
theorem len_dsp {s : DS1} {n : Nat} (h : ∀ ds R, s ds R → ds.length = n) : ∀ vs H Q E, dsp s vs H Q E → vs.length = n := fun vs H Q E q => by
  obtain ⟨W, ds, R, o, i, z, f⟩ := q
  rw [i.len]; exact h ds R z
theorem len_dspX {s : DS2} {n : Nat} (h : ∀ ds R RX, s ds R RX → ds.length = n) : ∀ vs H Q E, dspX s vs H Q E → vs.length = n := fun vs H Q E q => by
  obtain ⟨W, ds, R, RX, o, i, z, f⟩ := q
  rw [i.len]; exact h ds R RX z
def s_take : DS1 := fun ds R => match ds with
  | [.sto, .int n] => n < 2 ^ 300 ∧ ∀ r : Int, 0 ≤ r → (r < n ∨ r = 0) → R (.int r)
  | _ => False
theorem take_weak : ∀ vs H Q E, dsp s_take vs H Q E → sp_take vs H Q E := fun vs H Q E q => by
  obtain ⟨W, ds, R, o, i, z, f⟩ := q
  unfold s_take at z
  split at z
  · cases i with
    | cons a t =>
      cases t with
      | cons b t =>
        cases t; cases b
        cases a with
        | sto e =>
          rename_i st
          have so := o.s
          rw [e] at so
          refine ⟨st, _, rfl, so, z.1, fun r H' s k h0 h1 => ?_⟩
          have kk : Kp W.st H H' := by rw [e]; exact k
          exact f _ _ _ (z.2 r h0 h1) kk (o.mono kk (by rw [e]; exact s)) (.int _)
  · exact z.elim
end DL
namespace DL
open PySem PySem.Spec PyProof.Rows L2 NW
theorem forL_ind {g : WG} {s : WS} {E : WEnds} {xs : List DV} {ρ : Env} (P : Nat → Env → Prop) (h0 : P 0 ρ) (hs : ∀ i x ρ (K : Env → Prop), xs[i]? = some x → P i ρ → (∀ ρ', P (i + 1) ρ' → K ρ') → g x ρ fun ρ' => s { E with nx := K, ct := K, bk := E.nx } ρ') (hd : ∀ ρ, P xs.length ρ → E.nx ρ) : forL g s E xs ρ := by
  induction xs generalizing P ρ with
  | nil => exact hd _ h0
  | cons x xs ih =>
    refine hs 0 x ρ _ rfl h0 fun ρ' p => ?_
    exact ih (fun i => P (i + 1)) p (fun i y ρ K hy p k => hs (i + 1) y ρ K hy p k) hd
theorem lcL_ind {g : WG} {t : WT} {w : WE} {xs : List DV} {ρ : Env} {acc : List DV} {R : List DV → Prop} (P : Nat → List DV → Prop) (h0 : P 0 acc) (hs : ∀ i x acc (K : List DV → Prop), xs[i]? = some x → P i acc → (∀ acc', P (i + 1) acc' → K acc') → g x ρ fun ρ' => t ρ' fun k => if k = true then w ρ' fun y => K (acc ++ [y]) else K acc) (hd : ∀ acc, P xs.length acc → R acc) : lcL g t w xs ρ acc R := by
  induction xs generalizing P acc with
  | nil => exact hd _ h0
  | cons x xs ih =>
    refine hs 0 x acc (fun acc' => lcL g t w xs ρ acc' R) rfl h0 fun acc' p => ?_
    exact ih (fun i => P (i + 1)) p (fun i y ρ K hy p k => hs (i + 1) y ρ K hy p k) hd
theorem atI_lit {α : Type} {xs : List α} {i : Int} {x : α} (h0 : 0 ≤ i) (h : xs[i.toNat]? = some x) : atI xs i = some x := by
  have e : i = ((i.toNat : Nat) : Int) := by omega
  rw [e]; exact atI_nat h
theorem intL_at {lo : Int} {n i : Nat} {x : DV} (h : (intL lo n)[i]? = some x) : x = .int (lo + (i : Nat)) ∧ i < n := by
  have l : i < (intL lo n).length := (List.getElem?_eq_some_iff.mp h).1
  rw [intL_len] at l
  unfold intL at h
  rw [List.getElem?_map, List.getElem?_range l] at h
  exact ⟨(Option.some.inj h).symm, l⟩
theorem Str.ext' {a b : Str} (h : a.cps.toList = b.cps.toList) : a = b := by
  obtain ⟨x⟩ := a
  obtain ⟨y⟩ := b
  simp only at h
  rw [Array.toList_inj.mp h]
theorem app_cps (a b : Str) : (a ++ b).cps.toList = a.cps.toList ++ b.cps.toList := by
  show (a.cps ++ b.cps).toList = _
  rw [Array.toList_append]
theorem len_cps (a : Str) : a.length = a.cps.toList.length := by
  show a.cps.size = _
  rw [Array.length_toList]
theorem one_cps (c : Nat) : (⟨#[c]⟩ : Str).cps.toList = [c] := rfl
theorem cut_cps (z : Str) (lo hi : Option Int) : (cutS z lo hi).cps.toList = cutG z.cps.toList lo hi := by
  unfold cutS cutG
  rw [len_cps]
theorem cutG_to {α : Type} (xs : List α) (k : Nat) : cutG xs none (some (k : Int)) = xs.take k := by
  unfold cutG
  rw [HT.sIx_none, HT.sIx_nat, List.drop_zero, Nat.sub_zero, List.take_eq_take_iff]
  omega
theorem cutG_from {α : Type} (xs : List α) (k : Nat) : cutG xs (some (k : Int)) none = xs.drop k := by
  unfold cutG
  rw [HT.sIx_none, HT.sIx_nat]
  by_cases h : k ≤ xs.length
  · rw [Nat.min_eq_left h, List.take_of_length_le (by rw [List.length_drop]; exact Nat.le_refl _)]
  · rw [Nat.min_eq_right (by omega), List.drop_eq_nil_of_le (Nat.le_refl _), List.drop_eq_nil_of_le (show xs.length ≤ k by omega), List.take_nil]
local macro_rules | `(tactic| walk_at "dl1") => `(tactic| simp only [wTry, wAsgX, wDropX, wKd, wXf, wSeq, wAsg, wAsgO, wRet, wIfS, wNx, wPass, wBk, wCt, wDrop, wAug, wApp, wAppPop, wPop, wFor, wFz, wV, wVP, atV, atP, atO, wC, wOp, wCall, wCallN, wCB, aC, aN, wL, wTu, fL, wF, fCat, fList, wTB, wTru, wAnd, wOr, wNot, wAndV, wOrV, wNotV, wIf, wChain, wIsN, wNeg, dNeg, wSl, pN, pP, dSl, wLrev, dLrev, wIsi, wIsi2, iL, iT, iV, iS, iR1, iR2, gN, fLc, wYes, wiL,
  dAdd, dSub, dMul, dMulS, dMulL, dDiv, dMod, dLt, dLe, dGt, dGe, dEq, dNe, eqD, dIn, dNi, dIx, dTru, isNon, dLen, dInt, dAbs, dMax, dMin, dList, dTup, dStr, dIAdd, frzE, frz1, startD, List.map_cons, List.map_nil, List.length_cons, List.length_nil, List.replicate_succ, List.replicate_zero, List.cons_append, List.nil_append, List.append_nil, List.getElem?_cons_zero, List.getElem?_cons_succ, List.set_cons_zero, List.set_cons_succ, Nat.reduceSub, Nat.reduceAdd, if_true, if_false, ite_true, ite_false, reduceIte, Bool.false_eq_true, decide_true, decide_false, Bool.not_true, Bool.not_false, Bool.not_eq_true', decide_eq_true_eq, decide_eq_false_iff_not, isi_int_int, isi_int_bool, isi_bl_int, isi_bl_bool, isi_non_int, isi_non_bool, isi_str_int, isi_str_bool, isi_str_str, isi_lst_list, isi_tup_tuple, Option.some.injEq, exists_eq_left', exists_eq_left, DV.int.injEq, DV.str.injEq, DV.bl.injEq, List.cons.injEq, and_true, true_and])
local macro_rules | `(tactic| walk_at "dl") => `(tactic| try walk_at "dl1")
local macro_rules | `(tactic| walk_at "go") => `(tactic| repeat' (first
  | (intro _)
  | walk_at "dl1"
  | (refine ⟨by first | decide | omega, ?_⟩)
  | split))
def w_edge : WS :=
  (wRet (wOp dEq (wCall s_take (aC (wV 0) (aC (wC (.int 3)) aN))) (wC (.int 0))))
def s_edge : DS1 := fun ds R => match ds with
  | [.sto] => ∀ b, R (.bl b)
  | _ => False
theorem l_edge : ∀ ds R, s_edge ds R → ds.length = 1 := by
  intro ds R h
  unfold s_edge at h
  split at h
  · rfl
  · exact h.elim
theorem o_edge : Owes 1 s_edge w_edge := by
  intro ds R h
  unfold s_edge at h
  split at h
  · unfold w_edge
    walk_at "dl"
    simp only [s_take]
    walk_at "go"
    exact h _
  · exact h.elim
def w_number : WS :=
  (wSeq (wAsg 3 (wCall s_take (aC (wV 0) (aC (wC (.int 6)) aN))))
    (wSeq (wIfS (wOr (wTB (wOp dEq (wVP 3) (wC (.int 0)))) (wTB (wOp dLe (wVP 2) (wVP 1)))) (wRet (wV 1)) wNx)
    (wSeq (wIfS (wTB (wOp dEq (wVP 3) (wC (.int 1)))) (wRet (wV 2)) wNx)
    (wSeq (wIfS (wTB (wOp dEq (wVP 3) (wC (.int 2)))) (wRet (wCB dMin (aC (wVP 2) (aC (wOp dAdd (wOp dAdd (wVP 1) (wC (.int 1))) (wCall s_take (aC (wV 0) (aC (wC (.int 2)) aN)))) aN)))) wNx)
    (wSeq (wIfS (wTB (wOp dEq (wVP 3) (wC (.int 3)))) (wRet (wCB dMax (aC (wVP 1) (aC (wOp dSub (wOp dSub (wVP 2) (wC (.int 1))) (wCall s_take (aC (wV 0) (aC (wC (.int 2)) aN)))) aN)))) wNx)
    (wRet (wOp dAdd (wVP 1) (wCall s_take (aC (wV 0) (aC (wOp dAdd (wOp dSub (wVP 2) (wVP 1)) (wC (.int 1))) aN))))))))))
def s_number : DS1 := fun ds R => match ds with
  | [.sto, .int lo, .int hi] => hi - lo + 1 < 2 ^ 300 ∧ ∀ r : Int, lo ≤ r → (r ≤ hi ∨ r = lo) → R (.int r)
  | _ => False
theorem l_number : ∀ ds R, s_number ds R → ds.length = 3 := by
  intro ds R h
  unfold s_number at h
  split at h
  · rfl
  · exact h.elim
theorem o_number : Owes 4 s_number w_number := by
  intro ds R h
  unfold s_number at h
  split at h
  · unfold w_number
    walk_at "dl"
    simp only [s_take]
    obtain ⟨h1, h⟩ := h
    walk_at "go"
    all_goals apply h <;> omega
  · exact h.elim
def w_pick : WS :=
  (wRet (wOp dIx (wVP 1) (wCall s_take (aC (wV 0) (aC (wCB dLen (aC (wVP 1) aN)) aN)))))
def s_pick : DS1 := fun ds R => match ds with
  | [.sto, .lst xs] => 0 < xs.length ∧ xs.length ≤ 1000000 ∧ ∀ x ∈ xs, R x
  | [.sto, .str s] => 0 < s.length ∧ s.length ≤ 1000000 ∧ ∀ c ∈ s.cps.toList, R (.str ⟨#[c]⟩)
  | _ => False
theorem l_pick : ∀ ds R, s_pick ds R → ds.length = 2 := by
  intro ds R h
  unfold s_pick at h
  split at h
  · rfl
  · rfl
  · exact h.elim
theorem o_pick : Owes 2 s_pick w_pick := by
  intro ds R h
  unfold s_pick at h
  split at h
  · unfold w_pick
    walk_at "dl"
    simp only [s_take]
    rename_i xs
    obtain ⟨h0, h1, h⟩ := h
    refine ⟨by omega, fun r r0 r1 => ?_⟩
    walk_at "dl"
    have l : r.toNat < xs.length := by omega
    exact ⟨_, atI_lit r0 (List.getElem?_eq_getElem l), h _ (List.getElem_mem l)⟩
  · unfold w_pick
    walk_at "dl"
    simp only [s_take]
    rename_i s
    obtain ⟨h0, h1, h⟩ := h
    refine ⟨h1, by omega, fun r r0 r1 => ?_⟩
    walk_at "dl"
    rw [len_cps] at h0 r1
    have l : r.toNat < s.cps.toList.length := by omega
    exact ⟨h1, _, atI_lit r0 (List.getElem?_eq_getElem l), h _ (List.getElem_mem l)⟩
  · exact h.elim
def sg (k : Nat) : Nat := if k < 26 then 97 + k else 22 + k
theorem sg_at : ∀ k < 36, ("abcdefghijklmnopqrstuvwxyz0123456789" : Str).cps.toList[k]? = some (sg k) := by decide +kernel
def letB (c : Nat) : Bool := decide (97 ≤ c) && decide (c ≤ 122)
def lodB (c : Nat) : Bool := letB c || (decide (48 ≤ c) && decide (c ≤ 57))
theorem sg_let {k : Nat} (h : k < 26) : letB (sg k) = true := by
  unfold letB sg
  rw [if_pos h]
  simp only [Bool.and_eq_true, decide_eq_true_eq]
  omega
theorem sg_lod {k : Nat} (h : k < 36) : lodB (sg k) = true := by
  unfold lodB letB sg
  split <;> simp only [Bool.or_eq_true, Bool.and_eq_true, decide_eq_true_eq] <;> omega
/-- what a name is -/
def nmL : List Nat → Bool
  | [] => false
  | c :: cs => letB c && cs.all lodB && decide (cs.length ≤ 7)
def nmB (s : Str) : Bool := nmL s.cps.toList
theorem nm_len {s : Str} (h : nmB s = true) : 1 ≤ s.length ∧ s.length ≤ 8 := by
  rw [len_cps]
  unfold nmB nmL at h
  split at h
  · cases h
  · simp only [Bool.and_eq_true, decide_eq_true_eq] at h
    rename_i e
    rw [e, List.length_cons]
    omega
theorem nm_of {s : Str} {c : Nat} {cs : List Nat} (e : s.cps.toList = c :: cs) (h1 : letB c = true) (h2 : cs.all lodB = true) (h3 : cs.length ≤ 7) : nmB s = true := by
  unfold nmB
  rw [e]
  show (letB c && cs.all lodB && decide (cs.length ≤ 7)) = true
  rw [h1, h2, decide_eq_true h3]
  rfl
def w_sign : WS :=
  (wRet (wOp dIx (wC (.str "abcdefghijklmnopqrstuvwxyz0123456789")) (wOp dMod (wCB dInt (aC (wVP 0) aN)) (wC (.int 36)))))
def s_sign : DS1 := fun ds R => match ds with
  | [.int n] => R (.str ⟨#[sg (n % 36).toNat]⟩)
  | _ => False
theorem l_sign : ∀ ds R, s_sign ds R → ds.length = 1 := by
  intro ds R h
  unfold s_sign at h
  split at h
  · rfl
  · exact h.elim
theorem o_sign : Owes 1 s_sign w_sign := by
  intro ds R h
  unfold s_sign at h
  split at h
  · unfold w_sign
    walk_at "dl"
    rename_i n
    have h0 : 0 ≤ n % 36 := Int.emod_nonneg _ (by decide)
    have h1 : n % 36 < 36 := Int.emod_lt_of_pos _ (by decide)
    exact ⟨by decide, by decide +kernel, _, atI_lit h0 (sg_at _ (by omega)), h⟩
  · exact h.elim
def w_name_of : WS :=
  (wSeq (wAsg 1 (wOp dMod (wCB dInt (aC (wVP 0) aN)) (wC (.int 8))))
    (wSeq (wAsg 2 (wOp dDiv (wCB dInt (aC (wVP 0) aN)) (wC (.int 8))))
    (wSeq (wAsg 3 (wCall s_sign (aC (wOp dMod (wVP 2) (wC (.int 26))) aN)))
    (wSeq (wAsg 2 (wOp dDiv (wVP 2) (wC (.int 26))))
    (wSeq (wFor (iR1 (aC (wV 1) aN)) (gN 4) (wSeq (wAsg 3 (wOp dAdd (wVP 3) (wCall s_sign (aC (wOp dMod (wVP 2) (wC (.int 36))) aN))))
    (wAsg 2 (wOp dDiv (wVP 2) (wC (.int 36))))))
    (wRet (wV 3)))))))
def s_name_of : DS1 := fun ds R => match ds with
  | [.int n] => 0 ≤ n ∧ n < 2 ^ 299 ∧ ∀ s, nmB s = true → R (.str s)
  | _ => False
theorem l_name_of : ∀ ds R, s_name_of ds R → ds.length = 1 := by
  intro ds R h
  unfold s_name_of at h
  split at h
  · rfl
  · exact h.elim
theorem o_name_of : Owes 5 s_name_of w_name_of := by
  intro ds R h
  unfold s_name_of at h
  split at h
  · unfold w_name_of
    walk_at "dl"
    simp only [s_sign]
    rename_i n
    obtain ⟨h0, h1, h⟩ := h
    walk_at "go"
    rename_i hh
    have a0 : 0 ≤ n % 8 := Int.emod_nonneg _ (by decide)
    have a1 : n % 8 < 8 := Int.emod_lt_of_pos _ (by decide)
    have b0 : 0 ≤ n / 8 := Int.ediv_nonneg h0 (by decide)
    have e26 : n / 8 % 26 % 36 = n / 8 % 26 := Int.emod_eq_of_lt (Int.emod_nonneg _ (by decide)) (Int.lt_trans (Int.emod_lt_of_pos _ (by decide)) (by decide))
    have lt26 : (n / 8 % 26).toNat < 26 := by have := Int.emod_lt_of_pos (n / 8) (show (0 : Int) < 26 by decide); omega
    refine forL_ind (fun i ρ => ∃ (m : Int) (s : Str) (c : Nat) (cs : List Nat) (kk : Sl), ρ = [.dt (.int n), .dt (.int (n % 8)), .dt (.int m), .dt (.str s), kk] ∧ s.cps.toList = c :: cs ∧ letB c = true ∧ cs.all lodB = true ∧ cs.length = i) ⟨_, _, _, [], .un, rfl, rfl, ?_, rfl, rfl⟩ ?_ ?_
    · rw [e26]; exact sg_let lt26
    · rintro i x ρ K hx ⟨m, s, c, cs, kk, rfl, e, hc, ha, hl⟩ hK
      obtain ⟨rfl, hi⟩ := intL_at hx
      walk_at "dl"
      refine ⟨by decide, ?_, by decide, hK _ ⟨_, _, c, cs ++ [sg (m % 36 % 36).toNat], _, rfl, ?_, hc, ?_, ?_⟩⟩
      · rw [len_cps, e, List.length_cons, hl]
        show i + 1 + 1 ≤ 1000000
        omega
      · rw [app_cps, e, one_cps, List.cons_append]
      · rw [List.all_append, ha]
        have z : m % 36 % 36 < 36 := Int.emod_lt_of_pos _ (by decide)
        have z0 : 0 ≤ m % 36 % 36 := Int.emod_nonneg _ (by decide)
        simp only [List.all_cons, List.all_nil, sg_lod (show (m % 36 % 36).toNat < 36 by omega), Bool.and_true, Bool.true_and]
      · rw [List.length_append, hl]; rfl
    · rintro ρ ⟨m, s, c, cs, kk, rfl, e, hc, ha, hl⟩
      rw [intL_len] at hl
      walk_at "dl"
      exact h _ (nm_of e hc ha (by omega))
  · exact h.elim
end DL
namespace DL
open PySem PySem.Spec PyProof.Rows L2 NW
section
variable {X : Cx} {e a : Expr} {w : WE}
def dUp (d : DV) (R : DV → Prop) : Prop := match d with
  | .str s => s.length ≤ 1000000 ∧ R (.str (Txt.upper s))
  | _ => False
def wUpper (w : WE) : WE := fun ρ R => w ρ fun d => dUp d R
theorem dupper {apos pos : Pos} (ha : PE X a (liftP w)) (hbase : attributeBase a "upper" X.env (eval a X.env) = eval a X.env := by rfl) (hline : (apos.endLine == pos.line) = true := by rfl) : PE X (.Call (.Attribute a "upper" apos) [] [] pos) (lift (wUpper w)) := pe_weak (pe_upper ha hbase hline) fun σ H Q q => by
  obtain ⟨W, own, ρ, R, o, i, z, f⟩ := q
  refine ⟨W, own, ρ, _, o, i, z, fun d v H1 r k o1 i1 => ?_⟩
  unfold dUp at r
  split at r
  · cases i1.str
    exact ⟨⟨_, rfl⟩, _, rfl, rfl, Nat.le_trans r.1 (by decide), (f.mono k).str o1 r.2⟩
  · exact r.elim
end
theorem map_mapIdx' {α β γ : Type} (f : β → γ) (g : Nat → α → β) : ∀ l : List α, (l.mapIdx g).map f = l.mapIdx fun i x => f (g i x) := fun l => by
  apply List.ext_getElem?
  intro i
  rw [List.getElem?_map, List.getElem?_mapIdx, List.getElem?_mapIdx]
  cases l[i]? <;> rfl
theorem upper_cps (s : Str) : (Txt.upper s).cps.toList = (s.cps.toList.map Unicode.upperOf).flatten := by
  have e : (Txt.upper s).cps = (s.cps.mapIdx fun _ c => (Unicode.upperOf c).toArray).flatten := rfl
  rw [e, Array.toList_flatten]
  congr 1
  rw [Array.toList_mapIdx, map_mapIdx']
  first | done | (apply List.ext_getElem?; intro i; rw [List.getElem?_mapIdx, List.getElem?_map])
theorem up_letter : ∀ c < 123, 97 ≤ c → Unicode.upperOf c = [c - 32] := by decide +kernel
/-- what is no name -/
def wrongs : List Nat := ("ABCDEFGHIJKLMNOPQRSTUVWXYZ !\"#$&'()*+,-./:;<=>?\x40[\\]^_`{|}~\n" : Str).cps.toList
theorem wrong_lod : ∀ c ∈ wrongs, lodB c = false := by decide +kernel
theorem nm_len8 {s : Str} (h : 8 < s.length) : nmB s = false := by
  cases e : nmB s with
  | false => rfl
  | true => have := nm_len e; omega
theorem nm_bad {s : Str} {c : Nat} (h : c ∈ s.cps.toList) (hc : lodB c = false) : nmB s = false := by
  unfold nmB nmL
  split
  · rfl
  · rename_i c' cs e
    rw [e] at h
    cases hl : letB c' with
    | false => rfl
    | true =>
      rcases List.mem_cons.mp h with rfl | h
      · have z : lodB c = true := by unfold lodB; rw [hl]; rfl
        rw [hc] at z; cases z
      · have z : cs.all lodB = false := by
          rw [List.all_eq_false]
          exact ⟨c, h, by rw [hc]; decide⟩
        rw [z]; rfl
theorem nm_head {s : Str} {c : Nat} {cs : List Nat} (e : s.cps.toList = c :: cs) (hc : letB c = false) : nmB s = false := by
  unfold nmB nmL
  rw [e]
  show (letB c && cs.all lodB && decide (cs.length ≤ 7)) = false
  rw [hc]; rfl
theorem nm_split {s : Str} (h : nmB s = true) : ∃ c cs, s.cps.toList = c :: cs ∧ letB c = true ∧ cs.all lodB = true ∧ cs.length ≤ 7 := by
  unfold nmB nmL at h
  split at h
  · cases h
  · rename_i c cs e
    simp only [Bool.and_eq_true, decide_eq_true_eq] at h
    exact ⟨c, cs, e, h.1.1, h.1.2, h.2⟩
theorem dig_str : ∀ r < 10, (toString ((r : Nat) : Int) : Str).cps.toList = [48 + r] := by decide +kernel
local macro_rules | `(tactic| walk_at "dl1") => `(tactic| simp only [wTry, wAsgX, wDropX, wKd, wXf, wSeq, wAsg, wAsgO, wRet, wIfS, wNx, wPass, wBk, wCt, wDrop, wAug, wApp, wAppPop, wPop, wFor, wFz, wV, wVP, atV, atP, atO, wC, wOp, wCall, wCallN, wCB, aC, aN, wL, wTu, fL, wF, fCat, fList, wTB, wTru, wAnd, wOr, wNot, wAndV, wOrV, wNotV, wIf, wChain, wIsN, wNeg, dNeg, wSl, pN, pP, dSl, wLrev, dLrev, wIsi, wIsi2, iL, iT, iV, iS, iR1, iR2, gN, fLc, wYes, wiL,
  dAdd, dSub, dMul, dMulS, dMulL, dDiv, dMod, dLt, dLe, dGt, dGe, dEq, dNe, eqD, dIn, dNi, dIx, dTru, isNon, dLen, dInt, dAbs, dMax, dMin, dList, dTup, dStr, dIAdd, frzE, frz1, startD, List.map_cons, List.map_nil, List.length_cons, List.length_nil, List.replicate_succ, List.replicate_zero, List.cons_append, List.nil_append, List.append_nil, List.getElem?_cons_zero, List.getElem?_cons_succ, List.set_cons_zero, List.set_cons_succ, Nat.reduceSub, Nat.reduceAdd, if_true, if_false, ite_true, ite_false, reduceIte, Bool.false_eq_true, decide_true, decide_false, Bool.not_true, Bool.not_false, Bool.not_eq_true', decide_eq_true_eq, decide_eq_false_iff_not, isi_int_int, isi_int_bool, isi_bl_int, isi_bl_bool, isi_non_int, isi_non_bool, isi_str_int, isi_str_bool, isi_str_str, isi_lst_list, isi_tup_tuple, Option.some.injEq, exists_eq_left', exists_eq_left, DV.int.injEq, DV.str.injEq, DV.bl.injEq, List.cons.injEq, and_true, true_and])
local macro_rules | `(tactic| walk_at "dl") => `(tactic| try walk_at "dl1")
local macro_rules | `(tactic| walk_at "go") => `(tactic| repeat' (first
  | (intro _)
  | walk_at "dl1"
  | (refine ⟨by first | decide | omega, ?_⟩)
  | split))
def w_name : WS :=
  (wRet (wCall s_name_of (aC (wCall s_take (aC (wV 0) (aC (wC (.int 16299746131968)) aN))) aN)))
def s_name : DS1 := fun ds R => match ds with
  | [.sto] => ∀ s, nmB s = true → R (.str s)
  | _ => False
theorem l_name : ∀ ds R, s_name ds R → ds.length = 1 := by
  intro ds R h
  unfold s_name at h
  split at h
  · rfl
  · exact h.elim
theorem o_name : Owes 1 (s_name) (w_name) := by
  intro ds R h
  unfold s_name at h
  split at h
  · unfold w_name
    walk_at "dl"
    simp only [s_take, s_name_of]
    refine ⟨by decide, fun r r0 r1 => ⟨r0, by omega, h⟩⟩
  · exact h.elim
def w_not_name : WS :=
  (wSeq (wAsg 1 (wCall s_name (aC (wV 0) aN)))
    (wSeq (wAsg 2 (wC (.str "ABCDEFGHIJKLMNOPQRSTUVWXYZ !\"#$&'()*+,-./:;<=>?\x40[\\]^_`{|}~\n")))
    (wSeq (wAsg 3 (wCall s_pick (aC (wV 0) (aC (wV 2) aN))))
    (wSeq (wAsg 4 (wCall s_take (aC (wV 0) (aC (wC (.int 7)) aN))))
    (wSeq (wAsg 5 (wCall s_take (aC (wV 0) (aC (wCB dLen (aC (wVP 1) aN)) aN))))
    (wSeq (wIfS (wTB (wOp dEq (wVP 4) (wC (.int 0)))) (wRet (wC (.str ""))) wNx)
    (wSeq (wIfS (wTB (wOp dEq (wVP 4) (wC (.int 1)))) (wRet (wOp dAdd (wOp dMulS (wSl (wOp dAdd (wVP 1) (wC (.str "aaaaaaaa"))) pN (pP (wC (.int 8)))) (wOp dAdd (wC (.int 1)) (wCall s_take (aC (wV 0) (aC (wC (.int 3)) aN))))) (wCall s_sign (aC (wCall s_take (aC (wV 0) (aC (wC (.int 36)) aN))) aN)))) wNx)
    (wSeq (wIfS (wTB (wOp dEq (wVP 4) (wC (.int 2)))) (wRet (wOp dAdd (wCB dStr (aC (wCall s_take (aC (wV 0) (aC (wC (.int 10)) aN))) aN)) (wSl (wVP 1) (pP (wC (.int 1))) pN))) wNx)
    (wSeq (wIfS (wTB (wOp dEq (wVP 4) (wC (.int 3)))) (wRet (wOp dAdd (wOp dAdd (wSl (wVP 1) pN (pP (wVP 5))) (wVP 3)) (wSl (wVP 1) (pP (wOp dAdd (wVP 5) (wC (.int 1)))) pN))) wNx)
    (wSeq (wIfS (wTB (wOp dEq (wVP 4) (wC (.int 4)))) (wRet (wOp dAdd (wSl (wVP 1) pN (pP (wC (.int 7)))) (wVP 3))) wNx)
    (wSeq (wIfS (wTB (wOp dEq (wVP 4) (wC (.int 5)))) (wRet (wOp dAdd (wVP 3) (wSl (wVP 1) pN (pP (wC (.int 7)))))) wNx)
    (wRet (wUpper (wVP 1))))))))))))))
def s_not_name : DS1 := fun ds R => match ds with
  | [.sto] => ∀ s, nmB s = false → s.length ≤ 60 → R (.str s)
  | _ => False
theorem l_not_name : ∀ ds R, s_not_name ds R → ds.length = 1 := by
  intro ds R h
  unfold s_not_name at h
  split at h
  · rfl
  · exact h.elim
theorem o_not_name : Owes 6 (s_not_name) (w_not_name) := by
  intro ds R h
  unfold s_not_name at h
  split at h
  · unfold w_not_name
    walk_at "dl"
    simp only [s_take, s_name, s_pick, s_sign]
    intro s hs
    have hn := nm_len hs
    obtain ⟨c, cs, e, hc, ha, hl⟩ := nm_split hs
    have hle := len_cps s
    rw [e, List.length_cons] at hle
    refine ⟨by decide +kernel, by decide +kernel, fun g hg => ⟨by decide, fun m m0 m1 => ⟨by omega, by omega, fun at_ a0 a1 => ?_⟩⟩⟩
    have hg := wrong_lod g hg
    have o1 : ∀ g : Nat, (⟨#[g]⟩ : Str).length = 1 := fun _ => rfl
    walk_at "dl"
    have k7 : ∀ k : Nat, (s.cps.toList.take k).length ≤ 8 := fun k => by rw [List.length_take, ← len_cps]; omega
    have k8 : ∀ k : Nat, (s.cps.toList.drop k).length ≤ 8 := fun k => by rw [List.length_drop, ← len_cps]; omega
    have c1 : ∀ k : Nat, (cutS s none (some (k : Int))).cps.toList = s.cps.toList.take k := fun k => by rw [cut_cps, cutG_to]
    have c2 : ∀ k : Nat, (cutS s (some (k : Int)) none).cps.toList = s.cps.toList.drop k := fun k => by rw [cut_cps, cutG_from]
    have l1 : ∀ k : Nat, (cutS s none (some (k : Int))).length ≤ 8 := fun k => by rw [len_cps, c1]; exact k7 k
    have l2 : ∀ k : Nat, (cutS s (some (k : Int)) none).length ≤ 8 := fun k => by rw [len_cps, c2]; exact k8 k
    obtain ⟨at_, rfl⟩ : ∃ k : Nat, at_ = (k : Int) := ⟨at_.toNat, by omega⟩
    have dg : ∀ r : Int, 0 ≤ r → (r < 10 ∨ r = 0) → (toString r : Str).cps.toList = [48 + r.toNat] := fun r h0 h1 => by
      obtain ⟨k, rfl⟩ : ∃ k : Nat, r = (k : Int) := ⟨r.toNat, by omega⟩
      exact dig_str k (by omega)
    have one7 : ∀ a b : Str, (a ++ b).length = a.length + b.length := fun a b => by rw [len_cps, app_cps, List.length_append, ← len_cps, ← len_cps]
    split
    · exact h _ rfl (by decide)
    split
    · have e8 : (cutS (s ++ "aaaaaaaa") none (some 8)).length = 8 := by
        rw [len_cps, cut_cps, show (some (8 : Int)) = some (((8 : Nat) : Int)) from rfl, cutG_to, List.length_take, ← len_cps, one7]
        show min 8 (s.length + 8) = 8
        omega
      refine ⟨by show s.length + 8 ≤ 1000000; omega, by rw [one7]; show s.length + 8 ≤ 1000000; omega, by decide, fun r r0 r1 => ⟨by omega, by omega, ?_, by decide, fun q q0 q1 => ?_⟩⟩
      · show (cutS (s ++ "aaaaaaaa") none (some 8)).length * _ ≤ _
        rw [e8]; omega
      · have lr : (repS (cutS (s ++ "aaaaaaaa") none (some 8)) (1 + r).toNat).length = (1 + r).toNat * 8 := by
          rw [len_cps]
          show (((List.replicate (1 + r).toNat (cutS (s ++ "aaaaaaaa") none (some 8)).cps.toList).flatten).toArray).toList.length = _
          rw [List.length_flatten, List.map_replicate, List.sum_replicate_nat, ← len_cps, e8]
        refine ⟨?_, h _ (nm_len8 ?_) ?_⟩
        · show (repS (cutS (s ++ "aaaaaaaa") none (some 8)) (1 + r).toNat).length + _ ≤ _
          rw [lr, o1]; omega
        · show 8 < (repS (cutS (s ++ "aaaaaaaa") none (some 8)) (1 + r).toNat ++ _).length
          rw [one7, lr, o1]; omega
        · show (repS (cutS (s ++ "aaaaaaaa") none (some 8)) (1 + r).toNat ++ _).length ≤ 60
          rw [one7, lr, o1]; omega
    split
    · refine ⟨by decide, fun r r0 r1 => ?_⟩
      have e1 := dg r r0 r1
      have e2 : (toString r : Str).length = 1 := by rw [len_cps, e1]; rfl
      have e3 := l2 1
      refine ⟨by omega, by omega, ?_, h _ (nm_head (c := 48 + r.toNat) (cs := s.cps.toList.drop 1) ?_ ?_) ?_⟩
      · show (toString r : Str).length + (cutS s (some ((1 : Nat) : Int)) none).length ≤ _
        omega
      · show ((toString r : Str) ++ cutS s (some ((1 : Nat) : Int)) none).cps.toList = _
        rw [app_cps, e1, c2]; rfl
      · unfold letB
        simp only [Bool.and_eq_false_iff, decide_eq_false_iff_not]
        omega
      · show ((toString r : Str) ++ cutS s (some ((1 : Nat) : Int)) none).length ≤ _
        rw [one7]; omega
    have mem : ∀ a b : Str, g ∈ (a ++ (⟨#[g]⟩ : Str) ++ b).cps.toList := fun a b => by rw [app_cps, app_cps, one_cps]; simp
    split
    · have e3 := l1 at_
      have e4 := l2 (at_ + 1)
      refine ⟨by omega, by rw [o1]; omega, by omega, ?_, h _ (nm_bad (mem _ _) hg) ?_⟩
      · rw [one7, o1]
        show _ + (cutS s (some ((at_ + 1 : Nat) : Int)) none).length ≤ _
        omega
      · rw [one7, one7, o1]
        show _ + (cutS s (some ((at_ + 1 : Nat) : Int)) none).length ≤ _
        omega
    have e7 := l1 7
    split
    · refine ⟨by omega, ?_, h _ (nm_bad (c := g) ?_ hg) ?_⟩
      · rw [o1]; show (cutS s none (some ((7 : Nat) : Int))).length + 1 ≤ _; omega
      · rw [app_cps, one_cps]; simp
      · rw [one7, o1]; show (cutS s none (some ((7 : Nat) : Int))).length + 1 ≤ _; omega
    split
    · refine ⟨by omega, ?_, h _ (nm_bad (c := g) ?_ hg) ?_⟩
      · rw [o1]; show 1 + (cutS s none (some ((7 : Nat) : Int))).length ≤ _; omega
      · rw [app_cps, one_cps]; simp
      · rw [one7, o1]; show 1 + (cutS s none (some ((7 : Nat) : Int))).length ≤ _; omega
    have uc : (Txt.upper s).cps.toList = (c - 32) :: (cs.map Unicode.upperOf).flatten := by
      rw [upper_cps, e, List.map_cons, List.flatten_cons]
      unfold letB at hc
      simp only [Bool.and_eq_true, decide_eq_true_eq] at hc
      rw [up_letter c (by omega) hc.1]; rfl
    have ul : (Txt.upper s).length ≤ 3 * 8 := Nat.le_trans (PyProof.Rows.len_upper s) (by omega)
    show s.length ≤ 1000000 ∧ R (.str (Txt.upper s))
    refine ⟨by omega, h _ (nm_head uc ?_) (by omega)⟩
    unfold letB at hc ⊢
    simp only [Bool.and_eq_true, decide_eq_true_eq] at hc
    simp only [Bool.and_eq_false_iff, decide_eq_false_iff_not]
    omega
  · exact h.elim
end DL
namespace DL
open PySem PySem.Spec PyProof.Rows L2 NW
local macro_rules | `(tactic| walk_at "dl1") => `(tactic| simp only [wTry, wAsgX, wDropX, wKd, wXf, wSeq, wAsg, wAsgO, wRet, wIfS, wNx, wPass, wBk, wCt, wDrop, wAug, wApp, wAppPop, wPop, wFor, wFz, wV, wVP, atV, atP, atO, wC, wOp, wCall, wCallN, wCB, aC, aN, wL, wTu, fL, wF, fCat, fList, wTB, wTru, wAnd, wOr, wNot, wAndV, wOrV, wNotV, wIf, wChain, wIsN, wNeg, dNeg, wSl, pN, pP, dSl, wLrev, dLrev, wIsi, wIsi2, iL, iT, iV, iS, iR1, iR2, gN, fLc, wYes, wiL,
  dAdd, dSub, dMul, dMulS, dMulL, dDiv, dMod, dLt, dLe, dGt, dGe, dEq, dNe, eqD, dIn, dNi, dIx, dTru, isNon, dLen, dInt, dAbs, dMax, dMin, dList, dTup, dStr, dIAdd, frzE, frz1, startD, List.map_cons, List.map_nil, List.length_cons, List.length_nil, List.replicate_succ, List.replicate_zero, List.cons_append, List.nil_append, List.append_nil, List.getElem?_cons_zero, List.getElem?_cons_succ, List.set_cons_zero, List.set_cons_succ, Nat.reduceSub, Nat.reduceAdd, if_true, if_false, ite_true, ite_false, reduceIte, Bool.false_eq_true, decide_true, decide_false, Bool.not_true, Bool.not_false, Bool.not_eq_true', decide_eq_true_eq, decide_eq_false_iff_not, isi_int_int, isi_int_bool, isi_bl_int, isi_bl_bool, isi_non_int, isi_non_bool, isi_str_int, isi_str_bool, isi_str_str, isi_lst_list, isi_tup_tuple, Option.some.injEq, exists_eq_left', exists_eq_left, DV.int.injEq, DV.str.injEq, DV.bl.injEq, List.cons.injEq, and_true, true_and])
local macro_rules | `(tactic| walk_at "dl") => `(tactic| try walk_at "dl1")
local macro_rules | `(tactic| walk_at "go") => `(tactic| repeat' (first
  | (intro _)
  | walk_at "dl1"
  | (refine ⟨by first | decide | omega, ?_⟩)
  | split))
theorem one_len (g : Nat) : (⟨#[g]⟩ : Str).length = 1 := rfl
theorem app_len (a b : Str) : (a ++ b).length = a.length + b.length := by rw [len_cps, app_cps, List.length_append, ← len_cps, ← len_cps]
theorem lets_mem : ∀ c, (c ∈ ("abcdefghijklmnopqrstuvwxyz" : Str).cps.toList) ↔ letB c = true := by
  intro c
  have e : ("abcdefghijklmnopqrstuvwxyz" : Str).cps.toList = (List.range 26).map (97 + ·) := by decide +kernel
  rw [e]
  unfold letB
  simp only [List.mem_map, List.mem_range, Bool.and_eq_true, decide_eq_true_eq]
  constructor
  · rintro ⟨k, h, rfl⟩; omega
  · intro h; exact ⟨c - 97, by omega, by omega⟩
theorem digs_mem : ∀ c, (c ∈ ("0123456789" : Str).cps.toList) ↔ (48 ≤ c ∧ c ≤ 57) := by
  intro c
  have e : ("0123456789" : Str).cps.toList = (List.range 10).map (48 + ·) := by decide +kernel
  rw [e]
  simp only [List.mem_map, List.mem_range]
  constructor
  · rintro ⟨k, h, rfl⟩; omega
  · intro h; exact ⟨c - 48, by omega, by omega⟩
theorem lods_mem : ∀ c, (c ∈ ("abcdefghijklmnopqrstuvwxyz0123456789" : Str).cps.toList) ↔ lodB c = true := by
  intro c
  have e : ("abcdefghijklmnopqrstuvwxyz0123456789" : Str).cps.toList = ("abcdefghijklmnopqrstuvwxyz" : Str).cps.toList ++ ("0123456789" : Str).cps.toList := by decide +kernel
  rw [e, List.mem_append, lets_mem, digs_mem]
  unfold lodB
  simp only [Bool.or_eq_true, Bool.and_eq_true, decide_eq_true_eq]
theorem in_lets (c : Nat) : decide (c ∈ ("abcdefghijklmnopqrstuvwxyz" : Str).cps.toList) = letB c := by rw [Bool.eq_iff_iff, decide_eq_true_iff, lets_mem]
theorem in_lods (c : Nat) : decide (c ∈ ("abcdefghijklmnopqrstuvwxyz0123456789" : Str).cps.toList) = lodB c := by rw [Bool.eq_iff_iff, decide_eq_true_iff, lods_mem]
theorem in_digs (c : Nat) : decide (c ∈ ("0123456789" : Str).cps.toList) = (decide (48 ≤ c) && decide (c ≤ 57)) := by rw [Bool.eq_iff_iff, decide_eq_true_iff, digs_mem, Bool.and_eq_true, decide_eq_true_iff, decide_eq_true_iff]
theorem isn_loop {s : Str} {E : WEnds} : ∀ (l : List Nat) (v : Sl), (l.all lodB = true → ∀ v, E.nx [.dt (.str s), v]) → (l.all lodB = false → E.rt (.bl false)) →
    forL (gN 1) (wIfS (wTB (wOp dNi (wVP 1) (wC (DV.str "abcdefghijklmnopqrstuvwxyz0123456789")))) (wRet (wC (DV.bl false))) wNx) E (l.map fun c => .str ⟨#[c]⟩) [.dt (.str s), v]
  | [], v, h, _ => h rfl v
  | c :: cs, v, h, h2 => by
    rw [List.map_cons]
    unfold forL
    walk_at "dl"
    refine ⟨c, rfl, ?_⟩
    rw [in_lods]
    cases e : lodB c with
    | false =>
      rw [if_pos rfl]
      exact h2 (by rw [List.all_cons, e]; rfl)
    | true =>
      rw [if_neg (by decide)]
      exact isn_loop cs _ (fun z => h (by rw [List.all_cons, e, z]; rfl)) fun z => h2 (by rw [List.all_cons, e, z]; rfl)
theorem nmB_cons {s : Str} {c : Nat} {cs : List Nat} (e : s.cps.toList = c :: cs) : nmB s = (letB c && cs.all lodB && decide (cs.length ≤ 7)) := by unfold nmB nmL; rw [e]
theorem nmB_nil {s : Str} (e : s.cps.toList = []) : nmB s = false := by unfold nmB nmL; rw [e]
theorem lod_of {c : Nat} (h : letB c = true) : lodB c = true := by unfold lodB; rw [h]; rfl
def w_is_name : WS :=
  (wSeq (wIfS (wOr (wTB (wOp dLt (wCB dLen (aC (wVP 0) aN)) (wC (.int 1)))) (wOr (wTB (wOp dGt (wCB dLen (aC (wVP 0) aN)) (wC (.int 8)))) (wTB (wOp dNi (wOp dIx (wVP 0) (wC (.int 0))) (wC (.str "abcdefghijklmnopqrstuvwxyz")))))) (wRet (wC (.bl false))) wNx)
    (wSeq (wFor (iS (wV 0)) (gN 1) (wIfS (wTB (wOp dNi (wVP 1) (wC (.str "abcdefghijklmnopqrstuvwxyz0123456789")))) (wRet (wC (.bl false))) wNx))
    (wRet (wC (.bl true)))))
def s_is_name : DS1 := fun ds R => match ds with
  | [.str s] => s.length ≤ 1000000 ∧ R (.bl (nmB s))
  | _ => False
theorem l_is_name : ∀ ds R, s_is_name ds R → ds.length = 1 := by
  intro ds R h
  unfold s_is_name at h
  split at h
  · rfl
  · exact h.elim
theorem o_is_name : Owes 2 (s_is_name) (w_is_name) := by
  intro ds R h
  unfold s_is_name at h
  split at h
  · unfold w_is_name
    walk_at "dl"
    rename_i s
    obtain ⟨hl, h⟩ := h
    refine ⟨hl, ?_⟩
    cases e : s.cps.toList with
    | nil =>
      rw [nmB_nil e] at h
      rw [if_pos (show ((s.length : Nat) : Int) < 1 by rw [len_cps, e]; decide)]
      exact h
    | cons c cs =>
      have l1 : s.length = cs.length + 1 := by rw [len_cps, e]; rfl
      rw [nmB_cons e] at h
      rw [if_neg (show ¬ ((s.length : Nat) : Int) < 1 by omega)]
      refine ⟨hl, ?_⟩
      by_cases l8 : (8 : Int) < (s.length : Nat)
      · rw [if_pos l8]
        rw [decide_eq_false (show ¬ cs.length ≤ 7 by omega), Bool.and_false] at h
        exact h
      rw [if_neg l8]
      rw [decide_eq_true (show cs.length ≤ 7 by omega), Bool.and_true] at h
      refine ⟨hl, c, atI_lit (by decide) rfl, c, rfl, ?_⟩
      rw [in_lets]
      cases hc : letB c with
      | false =>
        rw [hc] at h
        exact h
      | true =>
        rw [hc, Bool.true_and] at h
        rw [if_neg (by decide)]
        have e2 : signs s = (c :: cs).map fun c => .str ⟨#[c]⟩ := by unfold signs; rw [e]
        rw [e2]
        refine isn_loop _ _ (fun z v => ?_) fun z => ?_
        · rw [List.all_cons, lod_of hc, Bool.true_and] at z
          rw [z] at h; exact h
        · rw [List.all_cons, lod_of hc, Bool.true_and] at z
          rw [z] at h; exact h
  · exact h.elim
def w_Pis_name : WS :=
  (wSeq (wIfS (wOr (wNot (wTB (wChain dLe dLe (wC (.int 1)) (wCB dLen (aC (wVP 0) aN)) (wC (.int 8))))) (wTB (wOp dNi (wOp dIx (wVP 0) (wC (.int 0))) (wC (.str "abcdefghijklmnopqrstuvwxyz"))))) (wRet (wC (.bl false))) wNx)
    (wRet (wCB dAll (aC (wF (fLc (iS (wV 0)) (gN 1) wYes (wOrV (wOp dIn (wVP 1) (wC (.str "abcdefghijklmnopqrstuvwxyz"))) (wOp dIn (wVP 1) (wC (.str "0123456789")))) [1])) aN))))
def s_Pis_name : DS1 := fun ds R => match ds with
  | [.str s] => s.length ≤ 1000000 ∧ R (.bl (nmB s))
  | _ => False
theorem l_Pis_name : ∀ ds R, s_Pis_name ds R → ds.length = 1 := by
  intro ds R h
  unfold s_Pis_name at h
  split at h
  · rfl
  · exact h.elim
theorem o_Pis_name : Owes 2 (s_Pis_name) (w_Pis_name) := by
  intro ds R h
  unfold s_Pis_name at h
  split at h
  · unfold w_Pis_name
    walk_at "dl"
    rename_i s
    obtain ⟨hl, h⟩ := h
    refine ⟨hl, ?_⟩
    cases e : s.cps.toList with
    | nil =>
      rw [nmB_nil e] at h
      rw [if_neg (show ¬ (1 : Int) ≤ (s.length : Nat) by rw [len_cps, e]; decide)]
      exact h
    | cons c cs =>
      have l1 : s.length = cs.length + 1 := by rw [len_cps, e]; rfl
      rw [nmB_cons e] at h
      rw [if_pos (show (1 : Int) ≤ (s.length : Nat) by omega)]
      by_cases l8 : (s.length : Nat) ≤ (8 : Int)
      · rw [if_neg (fun z => z l8)]
        rw [decide_eq_true (show cs.length ≤ 7 by omega), Bool.and_true] at h
        refine ⟨hl, c, atI_lit (by decide) rfl, c, rfl, ?_⟩
        rw [in_lets]
        cases hc : letB c with
        | false =>
          rw [hc] at h
          exact h
        | true =>
          rw [hc, Bool.true_and] at h
          rw [if_neg (by decide)]
          have e2 : signs s = (c :: cs).map fun c => .str ⟨#[c]⟩ := by unfold signs; rw [e]
          rw [e2]
          refine ⟨by rw [List.length_map, List.length_cons]; omega, ?_⟩
          refine lcL_ind (fun i acc => acc = ((c :: cs).take i).map fun c => .bl (lodB c)) rfl ?_ ?_
          · rintro i x acc K hx rfl hK
            rw [List.getElem?_map] at hx
            obtain ⟨k, hk, rfl⟩ : ∃ k, (c :: cs)[i]? = some k ∧ x = .str ⟨#[k]⟩ := by
              cases z : (c :: cs)[i]? with
              | none => rw [z] at hx; cases hx
              | some k => rw [z] at hx; exact ⟨k, rfl, (Option.some.inj hx).symm⟩
            have ht : (c :: cs).take (i + 1) = (c :: cs).take i ++ [k] := by rw [List.take_add_one, hk]; rfl
            walk_at "dl"
            refine ⟨k, rfl, ?_⟩
            rw [in_lets]
            cases hl : letB k with
            | true =>
              refine hK _ ?_
              rw [ht, List.map_append, List.map_cons, lod_of hl]; rfl
            | false =>
              rw [if_neg (by decide)]
              refine ⟨k, rfl, hK _ ?_⟩
              rw [ht, List.map_append, List.map_cons, in_digs]
              unfold lodB
              rw [hl, Bool.false_or]; rfl
          · rintro acc rfl
            rw [List.length_map, List.take_length]
            refine ⟨(c :: cs).map lodB, by rw [List.map_map]; rfl, ?_⟩
            have z : ((c :: cs).map lodB).all id = cs.all lodB := by
              rw [List.all_map, List.all_cons]
              show (lodB c && _) = _
              rw [lod_of hc, Bool.true_and]; rfl
            rw [z]; exact h
      · rw [if_pos l8]
        rw [decide_eq_false (show ¬ cs.length ≤ 7 by omega), Bool.and_false] at h
        exact h
  · exact h.elim
end DL
namespace DL
open PySem PySem.Spec PyProof.Rows L2 NW
def flD : Nat → DV → Prop
  | _, .non => True
  | _, .bl _ => True
  | _, .int _ => True
  | _, .str _ => True
  | n + 1, .lst xs => ∀ x ∈ xs, flD n x
  | n + 1, .tup xs => ∀ x ∈ xs, flD n x
  | _, _ => False
mutual
theorem is_dt {W : Wd} {H : Hp} : ∀ {v : V} {x : DV} {n : Nat}, Is W H v x → flD n x → ∃ d : DT, d.dep ≤ n ∧ NW.Is H v d ∧ ∀ {H' : Hp} {v' : V}, Is W H' v' x → NW.Is H' v' d
  | _, _, _, .non, _ => ⟨.non, Nat.zero_le _, .non, fun h => by cases h; exact .non⟩
  | _, _, _, .bl b, _ => ⟨.bl b, Nat.zero_le _, .bl b, fun h => by cases h; exact .bl _⟩
  | _, _, _, .int b, _ => ⟨.int b, Nat.zero_le _, .int b, fun h => by cases h; exact .int _⟩
  | _, _, _, .str b, _ => ⟨.str b, Nat.zero_le _, .str b, fun h => by cases h; exact .str _⟩
  | _, _, 0, .lst _ _ _ _, h => h.elim
  | _, _, n + 1, .lst h1 h2 h3 h4, h => by
    obtain ⟨ds, e, i, f⟩ := iss_dt h4 h
    exact ⟨.lst ds, Nat.succ_le_succ e, .lst h1 i h3, fun z => by
      cases z with
      | lst g1 g2 g3 g4 => exact .lst g1 (f g4) g3⟩
  | _, _, 0, .tup _ _ _ _, h => h.elim
  | _, _, n + 1, .tup h1 h2 h3 h4, h => by
    obtain ⟨ds, e, i, f⟩ := iss_dt h4 h
    exact ⟨.tup ds, Nat.succ_le_succ e, .tup h1 i h3, fun z => by
      cases z with
      | tup g1 g2 g3 g4 => exact .tup g1 (f g4) g3⟩
  | _, _, 0, .dic _ _ _ _ _ _, h => h.elim
  | _, _, _ + 1, .dic _ _ _ _ _ _, h => h.elim
  | _, _, 0, .obj _ _ _ _, h => h.elim
  | _, _, _ + 1, .obj _ _ _ _, h => h.elim
  | _, _, 0, .err _ _ _ _ _ _, h => h.elim
  | _, _, _ + 1, .err _ _ _ _ _ _, h => h.elim
  | _, _, 0, .err0 _ _, h => h.elim
  | _, _, _ + 1, .err0 _ _, h => h.elim
  | _, _, 0, .hot _ _ _ _, h => h.elim
  | _, _, _ + 1, .hot _ _ _ _, h => h.elim
  | _, _, 0, .sto _, h => h.elim
  | _, _, _ + 1, .sto _, h => h.elim
  | _, _, 0, .ktu _, h => h.elim
  | _, _, _ + 1, .ktu _, h => h.elim
theorem iss_dt {W : Wd} {H : Hp} : ∀ {vs : List V} {xs : List DV} {n : Nat}, Iss W H vs xs → (∀ x ∈ xs, flD n x) → ∃ ds : List DT, depL ds ≤ n ∧ NW.Iss H vs ds ∧ ∀ {H' : Hp} {vs' : List V}, Iss W H' vs' xs → NW.Iss H' vs' ds
  | _, _, _, .nil, _ => ⟨[], Nat.zero_le _, .nil, fun h => by cases h; exact .nil⟩
  | _, _, n, .cons a t, h => by
    obtain ⟨d, e1, i1, f1⟩ := is_dt a (h _ List.mem_cons_self)
    obtain ⟨ds, e2, i2, f2⟩ := iss_dt t fun x hx => h x (List.mem_cons_of_mem _ hx)
    exact ⟨d :: ds, Nat.max_le.mpr ⟨e1, e2⟩, .cons i1 i2, fun z => by
      cases z with
      | cons b u => exact .cons (f1 b) (f2 u)⟩
end
/-- one and other are the same, of depth at most n -/
def s_same (n : Nat) : DS1 := fun ds R => match ds with
  | [x, y] => x = y ∧ flD (n - 1) x ∧ R (.bl true)
  | _ => False
theorem same_weak (n : Nat) : ∀ vs H Q E, dsp (s_same (n + 1)) vs H Q E → sp_same (n + 1) vs H Q E := fun vs H Q E q => by
  obtain ⟨W, ds, R, o, i, z, f⟩ := q
  unfold s_same at z
  split at z
  · obtain ⟨rfl, hf, r⟩ := z
    cases i with
    | cons a t =>
      cases t with
      | cons b t =>
        cases t
        obtain ⟨d, e, i1, g⟩ := is_dt a hf
        refine ⟨_, _, d, d, rfl, i1, g b, e, fun k H' s hk => ?_⟩
        obtain rfl : k = true := hk.mpr rfl
        exact f _ _ _ r (Kp.same s) (o.same s) (.bl true)
  · exact z.elim
theorem sel_plain {c : Str} (h : decide (c ∈ (["Same", "Inside", "Unlike", "Nailed", "Sealed", "Idle"] : List Str)) = false) : selD c = [.str "ValueError", .str "NestError", .str c] := by
  unfold selD kindsOf
  rw [if_neg (of_decide_eq_false h)]
  rfl
theorem sel_ref {c : Str} (h : decide (c ∈ (["Same", "Inside", "Unlike", "Nailed", "Sealed", "Idle"] : List Str)) = true) : selD c = [.str "ValueError", .str "NestError", .str "Refusal", .str c] := by
  unfold selD kindsOf
  rw [if_pos (of_decide_eq_true h)]
  rfl
theorem fl_strs (n : Nat) (ss : List Str) : flD (n + 1) (.lst (ss.map DV.str)) := by
  intro x hx
  obtain ⟨s, _, rfl⟩ := List.mem_map.mp hx
  cases n <;> trivial
theorem fl_sel (n : Nat) (c : Str) : flD (n + 1) (.lst (selD c)) := fl_strs n _
local macro_rules | `(tactic| walk_at "dl1") => `(tactic| simp only [wTry, wAsgX, wDropX, wKd, wXf, wSeq, wAsg, wAsgO, wRet, wIfS, wNx, wPass, wBk, wCt, wDrop, wAug, wApp, wAppPop, wPop, wFor, wFz, wV, wVP, atV, atP, atO, wC, wOp, wCall, wCallN, wCB, aC, aN, wL, wTu, fL, wF, fCat, fList, wTB, wTru, wAnd, wOr, wNot, wAndV, wOrV, wNotV, wIf, wChain, wIsN, wNeg, dNeg, wSl, pN, pP, dSl, wLrev, dLrev, wIsi, wIsi2, iL, iT, iV, iS, iR1, iR2, gN, fLc, wYes, wiL,
  dAdd, dSub, dMul, dMulS, dMulL, dDiv, dMod, dLt, dLe, dGt, dGe, dEq, dNe, eqD, dIn, dNi, dIx, dTru, isNon, dLen, dInt, dAbs, dMax, dMin, dList, dTup, dStr, dIAdd, frzE, frz1, startD, List.map_cons, List.map_nil, List.length_cons, List.length_nil, List.replicate_succ, List.replicate_zero, List.cons_append, List.nil_append, List.append_nil, List.getElem?_cons_zero, List.getElem?_cons_succ, List.set_cons_zero, List.set_cons_succ, Nat.reduceSub, Nat.reduceAdd, if_true, if_false, ite_true, ite_false, reduceIte, Bool.false_eq_true, decide_true, decide_false, Bool.not_true, Bool.not_false, Bool.not_eq_true', decide_eq_true_eq, decide_eq_false_iff_not, isi_int_int, isi_int_bool, isi_bl_int, isi_bl_bool, isi_non_int, isi_non_bool, isi_str_int, isi_str_bool, isi_str_str, isi_lst_list, isi_tup_tuple, Option.some.injEq, exists_eq_left', exists_eq_left, DV.int.injEq, DV.str.injEq, DV.bl.injEq, List.cons.injEq, and_true, true_and])
local macro_rules | `(tactic| walk_at "dl") => `(tactic| try walk_at "dl1")
local macro_rules | `(tactic| walk_at "go") => `(tactic| repeat' (first
  | (intro _)
  | walk_at "dl1"
  | (refine ⟨by first | decide | omega, ?_⟩)
  | split))
def w_Pvalid_name (K : PySem.W.Frag) : WS :=
  (wSeq (wIfS (wNot (wTru (wCall s_Pis_name (aC (wV 0) aN)))) (wRaise1 K "BadName" "name" (wV 0)) wNx)
    (wRet (wV 0)))
def s_Pvalid_name (K : PySem.W.Frag) : DS2 := fun ds R RX => match ds with
  | [.str s] => s.length ≤ 1000000 ∧ (nmB s = true → R (.str s)) ∧ (nmB s = false → RX (.err (He.ga K "BadName") ["name"] [.str s]))
  | _ => False
theorem l_Pvalid_name (K : PySem.W.Frag) : ∀ ds R RX, s_Pvalid_name K ds R RX → ds.length = 1 := by
  intro ds R RX h
  unfold s_Pvalid_name at h
  split at h
  · rfl
  · exact h.elim
theorem o_Pvalid_name (K : PySem.W.Frag) : OwesX 1 (s_Pvalid_name K) (w_Pvalid_name K) := by
  intro ds R RX h
  unfold s_Pvalid_name at h
  split at h
  · rename_i s
    obtain ⟨h0, h1, h2⟩ := h
    unfold w_Pvalid_name wRaise1
    walk_at "dl"
    simp only [s_Pis_name]
    refine ⟨h0, ?_⟩
    cases e : nmB s with
    | true => exact h1 e
    | false => exact h2 e
  · exact h.elim
end DL
namespace DL
open PySem PySem.Spec PyProof.Rows L2 NW
structure ErrN (K : PySem.W.Frag) (C : Addr) (q : Str) (fls : List Str) (params : Arguments) (body : List Stmt) (scope : Scope) : Prop where
  o : OexC K C
  n : ∀ f ∈ fls, PySem.W.findIn K (.ref C) f = some none
  ex : ∃ fI fd, PySem.W.findIn K (.ref C) "__init__" = some (some (.ref fI)) ∧ PySem.W.typeIn K (.ref fI) = some (.type "function") ∧ FunD K "__init__" q params body scope [] [] fI fd
section
variable {X : Cx} {e : Expr} {r : WA} {w : WE}
def wEf (K : PySem.W.Frag) (L : List (Addr × Str)) (f : Str) (w : WE) : WE := fun ρ R => w ρ fun d => ∃ C ns xs x, d = .err C ns xs ∧ (C, f) ∈ L ∧ lkD ns xs f = some x ∧ R x
theorem def_ {K : PySem.W.Frag} {L : List (Addr × Str)} {f : Str} (F : ∀ c ∈ L, XfC K c.1 ∧ PySem.W.findIn K (.ref c.1) c.2 = some none) (h : PE X e (tXv K f (lift w))) : PE X e (lift (wEf K L f w)) := pe_weak h fun σ H Q q => by
  obtain ⟨W, own, ρ, R, o, i, z, g⟩ := q
  refine ⟨W, own, ρ, _, o, i, z, fun d v H1 r1 k1 o1 i1 => ?_⟩
  obtain ⟨C, ns, xs, x, rfl, hm, hx, r⟩ := r1
  cases i1 with
  | err h1 h2 h3 h4 h5 h6 =>
    obtain ⟨u, hu, iu⟩ := lk_ok h5 h6 hx
    exact ⟨_, _, C, _, u, rfl, h1, h2, hu, (F _ hm).1, (F _ hm).2, (g.mono k1).at o1 iu r⟩
  | err0 h1 h2 => cases hx
end
end DL
namespace DL
open PySem PySem.Spec PyProof.Rows L2 NW
local macro_rules | `(tactic| walk_at "dl1") => `(tactic| simp only [wTry, wAsgX, wDropX, wKd, wXf, wSeq, wAsg, wAsgO, wRet, wIfS, wNx, wPass, wBk, wCt, wDrop, wAug, wApp, wAppPop, wPop, wFor, wFz, wV, wVP, atV, atP, atO, wC, wOp, wCall, wCallN, wCB, aC, aN, wL, wTu, fL, wF, fCat, fList, wTB, wTru, wAnd, wOr, wNot, wAndV, wOrV, wNotV, wIf, wChain, wIsN, wNeg, dNeg, wSl, pN, pP, dSl, wLrev, dLrev, wIsi, wIsi2, iL, iT, iV, iS, iR1, iR2, gN, fLc, wYes, wiL,
  dAdd, dSub, dMul, dMulS, dMulL, dDiv, dMod, dLt, dLe, dGt, dGe, dEq, dNe, eqD, dIn, dNi, dIx, dTru, isNon, dLen, dInt, dAbs, dMax, dMin, dList, dTup, dStr, dIAdd, frzE, frz1, startD, List.map_cons, List.map_nil, List.length_cons, List.length_nil, List.replicate_succ, List.replicate_zero, List.cons_append, List.nil_append, List.append_nil, List.getElem?_cons_zero, List.getElem?_cons_succ, List.set_cons_zero, List.set_cons_succ, Nat.reduceSub, Nat.reduceAdd, if_true, if_false, ite_true, ite_false, reduceIte, Bool.false_eq_true, decide_true, decide_false, Bool.not_true, Bool.not_false, Bool.not_eq_true', decide_eq_true_eq, decide_eq_false_iff_not, isi_int_int, isi_int_bool, isi_bl_int, isi_bl_bool, isi_non_int, isi_non_bool, isi_str_int, isi_str_bool, isi_str_str, isi_lst_list, isi_tup_tuple, Option.some.injEq, exists_eq_left', exists_eq_left, DV.int.injEq, DV.str.injEq, DV.bl.injEq, List.cons.injEq, and_true, true_and])
local macro_rules | `(tactic| walk_at "dl") => `(tactic| try walk_at "dl1")
local macro_rules | `(tactic| walk_at "go") => `(tactic| repeat' (first
  | (intro _)
  | walk_at "dl1"
  | (refine ⟨by first | decide | omega, ?_⟩)
  | split))
def s_kinds (K : PySem.W.Frag) (L : List Str) : DS1 := fun ds R => match ds with
  | [.err C ns xs] => ∃ cn, cn ∈ L ∧ C = He.ga K cn ∧ R (.lst (selD cn))
  | _ => False
theorem sel_BadName : selD "BadName" = [.str "ValueError", .str "NestError", .str "BadName"] := sel_plain (by decide +kernel)
theorem in_BadName : ("BadName" : Str) ∈ allErr := by decide +kernel
theorem sel_BadWeight : selD "BadWeight" = [.str "ValueError", .str "NestError", .str "BadWeight"] := sel_plain (by decide +kernel)
theorem in_BadWeight : ("BadWeight" : Str) ∈ allErr := by decide +kernel
theorem sel_BadNumber : selD "BadNumber" = [.str "ValueError", .str "NestError", .str "BadNumber"] := sel_plain (by decide +kernel)
theorem in_BadNumber : ("BadNumber" : Str) ∈ allErr := by decide +kernel
theorem sel_BadCount : selD "BadCount" = [.str "ValueError", .str "NestError", .str "BadCount"] := sel_plain (by decide +kernel)
theorem in_BadCount : ("BadCount" : Str) ∈ allErr := by decide +kernel
theorem sel_Twice : selD "Twice" = [.str "ValueError", .str "NestError", .str "Twice"] := sel_plain (by decide +kernel)
theorem in_Twice : ("Twice" : Str) ∈ allErr := by decide +kernel
theorem sel_Short : selD "Short" = [.str "ValueError", .str "NestError", .str "Short"] := sel_plain (by decide +kernel)
theorem in_Short : ("Short" : Str) ∈ allErr := by decide +kernel
theorem sel_BadText : selD "BadText" = [.str "ValueError", .str "NestError", .str "BadText"] := sel_plain (by decide +kernel)
theorem in_BadText : ("BadText" : Str) ∈ allErr := by decide +kernel
theorem sel_Unbalanced : selD "Unbalanced" = [.str "ValueError", .str "NestError", .str "Unbalanced"] := sel_plain (by decide +kernel)
theorem in_Unbalanced : ("Unbalanced" : Str) ∈ allErr := by decide +kernel
theorem sel_Broken : selD "Broken" = [.str "ValueError", .str "NestError", .str "Broken"] := sel_plain (by decide +kernel)
theorem in_Broken : ("Broken" : Str) ∈ allErr := by decide +kernel
theorem sel_NotComing : selD "NotComing" = [.str "ValueError", .str "NestError", .str "NotComing"] := sel_plain (by decide +kernel)
theorem in_NotComing : ("NotComing" : Str) ∈ allErr := by decide +kernel
theorem sel_TooMany : selD "TooMany" = [.str "ValueError", .str "NestError", .str "TooMany"] := sel_plain (by decide +kernel)
theorem in_TooMany : ("TooMany" : Str) ∈ allErr := by decide +kernel
theorem sel_BadWish : selD "BadWish" = [.str "ValueError", .str "NestError", .str "BadWish"] := sel_plain (by decide +kernel)
theorem in_BadWish : ("BadWish" : Str) ∈ allErr := by decide +kernel
theorem sel_Clash : selD "Clash" = [.str "ValueError", .str "NestError", .str "Clash"] := sel_plain (by decide +kernel)
theorem in_Clash : ("Clash" : Str) ∈ allErr := by decide +kernel
theorem sel_OtherDoors : selD "OtherDoors" = [.str "ValueError", .str "NestError", .str "OtherDoors"] := sel_plain (by decide +kernel)
theorem in_OtherDoors : ("OtherDoors" : Str) ∈ allErr := by decide +kernel
theorem sel_NoStory : selD "NoStory" = [.str "ValueError", .str "NestError", .str "NoStory"] := sel_plain (by decide +kernel)
theorem in_NoStory : ("NoStory" : Str) ∈ allErr := by decide +kernel
theorem sel_BadOrder : selD "BadOrder" = [.str "ValueError", .str "NestError", .str "BadOrder"] := sel_plain (by decide +kernel)
theorem in_BadOrder : ("BadOrder" : Str) ∈ allErr := by decide +kernel
theorem sel_OrderRefused : selD "OrderRefused" = [.str "ValueError", .str "NestError", .str "OrderRefused"] := sel_plain (by decide +kernel)
theorem in_OrderRefused : ("OrderRefused" : Str) ∈ allErr := by decide +kernel
theorem sel_OutOfSteps : selD "OutOfSteps" = [.str "ValueError", .str "NestError", .str "OutOfSteps"] := sel_plain (by decide +kernel)
theorem in_OutOfSteps : ("OutOfSteps" : Str) ∈ allErr := by decide +kernel
theorem sel_NotEmpty : selD "NotEmpty" = [.str "ValueError", .str "NestError", .str "NotEmpty"] := sel_plain (by decide +kernel)
theorem in_NotEmpty : ("NotEmpty" : Str) ∈ allErr := by decide +kernel
theorem sel_NoChange : selD "NoChange" = [.str "ValueError", .str "NestError", .str "NoChange"] := sel_plain (by decide +kernel)
theorem in_NoChange : ("NoChange" : Str) ∈ allErr := by decide +kernel
theorem sel_NothingDone : selD "NothingDone" = [.str "ValueError", .str "NestError", .str "NothingDone"] := sel_plain (by decide +kernel)
theorem in_NothingDone : ("NothingDone" : Str) ∈ allErr := by decide +kernel
theorem sel_BadClaim : selD "BadClaim" = [.str "ValueError", .str "NestError", .str "BadClaim"] := sel_plain (by decide +kernel)
theorem in_BadClaim : ("BadClaim" : Str) ∈ allErr := by decide +kernel
theorem sel_OtherYard : selD "OtherYard" = [.str "ValueError", .str "NestError", .str "OtherYard"] := sel_plain (by decide +kernel)
theorem in_OtherYard : ("OtherYard" : Str) ∈ allErr := by decide +kernel
theorem sel_Unknown : selD "Unknown" = [.str "ValueError", .str "NestError", .str "Unknown"] := sel_plain (by decide +kernel)
theorem in_Unknown : ("Unknown" : Str) ∈ allErr := by decide +kernel
theorem sel_NoHolder : selD "NoHolder" = [.str "ValueError", .str "NestError", .str "NoHolder"] := sel_plain (by decide +kernel)
theorem in_NoHolder : ("NoHolder" : Str) ∈ allErr := by decide +kernel
theorem sel_Loop : selD "Loop" = [.str "ValueError", .str "NestError", .str "Loop"] := sel_plain (by decide +kernel)
theorem in_Loop : ("Loop" : Str) ∈ allErr := by decide +kernel
theorem sel_Same : selD "Same" = [.str "ValueError", .str "NestError", .str "Refusal", .str "Same"] := sel_ref (by decide +kernel)
theorem in_Same : ("Same" : Str) ∈ allErr := by decide +kernel
theorem sel_Inside : selD "Inside" = [.str "ValueError", .str "NestError", .str "Refusal", .str "Inside"] := sel_ref (by decide +kernel)
theorem in_Inside : ("Inside" : Str) ∈ allErr := by decide +kernel
theorem sel_Unlike : selD "Unlike" = [.str "ValueError", .str "NestError", .str "Refusal", .str "Unlike"] := sel_ref (by decide +kernel)
theorem in_Unlike : ("Unlike" : Str) ∈ allErr := by decide +kernel
theorem sel_Nailed : selD "Nailed" = [.str "ValueError", .str "NestError", .str "Refusal", .str "Nailed"] := sel_ref (by decide +kernel)
theorem in_Nailed : ("Nailed" : Str) ∈ allErr := by decide +kernel
theorem sel_Sealed : selD "Sealed" = [.str "ValueError", .str "NestError", .str "Refusal", .str "Sealed"] := sel_ref (by decide +kernel)
theorem in_Sealed : ("Sealed" : Str) ∈ allErr := by decide +kernel
theorem sel_Idle : selD "Idle" = [.str "ValueError", .str "NestError", .str "Refusal", .str "Idle"] := sel_ref (by decide +kernel)
theorem in_Idle : ("Idle" : Str) ∈ allErr := by decide +kernel
theorem kd_call {K : PySem.W.Frag} {cn : Str} {ns : List Str} {xs : List DV} {R : DV → Prop} (h : cn ∈ allErr) (r : R (.lst (selD cn))) : s_kinds K allErr [.err (He.ga K cn) ns xs] R := ⟨cn, h, rfl, r⟩
local macro_rules | `(tactic| walk_at "mk") => `(tactic| repeat' (first
  | walk_at "dl1"
  | (refine ⟨by decide, ?_⟩)
  | (refine kd_call in_BadName ?_; rw [sel_BadName])
  | (refine kd_call in_BadWeight ?_; rw [sel_BadWeight])
  | (refine kd_call in_BadNumber ?_; rw [sel_BadNumber])
  | (refine kd_call in_BadCount ?_; rw [sel_BadCount])
  | (refine kd_call in_Twice ?_; rw [sel_Twice])
  | (refine kd_call in_Short ?_; rw [sel_Short])
  | (refine kd_call in_BadText ?_; rw [sel_BadText])
  | (refine kd_call in_Unbalanced ?_; rw [sel_Unbalanced])
  | (refine kd_call in_Broken ?_; rw [sel_Broken])
  | (refine kd_call in_NotComing ?_; rw [sel_NotComing])
  | (refine kd_call in_TooMany ?_; rw [sel_TooMany])
  | (refine kd_call in_BadWish ?_; rw [sel_BadWish])
  | (refine kd_call in_Clash ?_; rw [sel_Clash])
  | (refine kd_call in_OtherDoors ?_; rw [sel_OtherDoors])
  | (refine kd_call in_NoStory ?_; rw [sel_NoStory])
  | (refine kd_call in_BadOrder ?_; rw [sel_BadOrder])
  | (refine kd_call in_OrderRefused ?_; rw [sel_OrderRefused])
  | (refine kd_call in_OutOfSteps ?_; rw [sel_OutOfSteps])
  | (refine kd_call in_NotEmpty ?_; rw [sel_NotEmpty])
  | (refine kd_call in_NoChange ?_; rw [sel_NoChange])
  | (refine kd_call in_NothingDone ?_; rw [sel_NothingDone])
  | (refine kd_call in_BadClaim ?_; rw [sel_BadClaim])
  | (refine kd_call in_OtherYard ?_; rw [sel_OtherYard])
  | (refine kd_call in_Unknown ?_; rw [sel_Unknown])
  | (refine kd_call in_NoHolder ?_; rw [sel_NoHolder])
  | (refine kd_call in_Loop ?_; rw [sel_Loop])
  | (refine kd_call in_Same ?_; rw [sel_Same])
  | (refine kd_call in_Inside ?_; rw [sel_Inside])
  | (refine kd_call in_Unlike ?_; rw [sel_Unlike])
  | (refine kd_call in_Nailed ?_; rw [sel_Nailed])
  | (refine kd_call in_Sealed ?_; rw [sel_Sealed])
  | (refine kd_call in_Idle ?_; rw [sel_Idle])
  ))
mutual
def flB : Nat → DV → Bool
  | _, .non => true
  | _, .bl _ => true
  | _, .int _ => true
  | _, .str _ => true
  | n + 1, .lst xs => flBs n xs
  | n + 1, .tup xs => flBs n xs
  | _, _ => false
def flBs : Nat → List DV → Bool
  | _, [] => true
  | n, x :: xs => flB n x && flBs n xs
end
mutual
theorem fl_of : ∀ {n : Nat} {x : DV}, flB n x = true → flD n x
  | 0, .non, _ => trivial
  | _ + 1, .non, _ => trivial
  | 0, .bl _, _ => trivial
  | _ + 1, .bl _, _ => trivial
  | 0, .int _, _ => trivial
  | _ + 1, .int _, _ => trivial
  | 0, .str _, _ => trivial
  | _ + 1, .str _, _ => trivial
  | n + 1, .lst xs, h => fls_of (by unfold flB at h; exact h)
  | n + 1, .tup xs, h => fls_of (by unfold flB at h; exact h)
  | 0, .lst _, h => by unfold flB at h; cases h
  | 0, .tup _, h => by unfold flB at h; cases h
  | 0, .dic _ _, h => by unfold flB at h; cases h
  | _ + 1, .dic _ _, h => by unfold flB at h; cases h
  | 0, .obj _ _ _, h => by unfold flB at h; cases h
  | _ + 1, .obj _ _ _, h => by unfold flB at h; cases h
  | 0, .err _ _ _, h => by unfold flB at h; cases h
  | _ + 1, .err _ _ _, h => by unfold flB at h; cases h
  | 0, .hote _ _ _ _ _, h => by unfold flB at h; cases h
  | _ + 1, .hote _ _ _ _ _, h => by unfold flB at h; cases h
  | 0, .sto, h => by unfold flB at h; cases h
  | _ + 1, .sto, h => by unfold flB at h; cases h
theorem fls_of : ∀ {n : Nat} {xs : List DV}, flBs n xs = true → ∀ x ∈ xs, flD n x
  | _, [], _, x, hx => by cases hx
  | n, y :: ys, h, x, hx => by
    unfold flBs at h
    rw [Bool.and_eq_true] at h
    rcases List.mem_cons.mp hx with e | hx
    · rw [e]; exact fl_of h.1
    · exact fls_of h.2 x hx
end
def fldA (K : PySem.W.Frag) : List (Addr × Str) := allFld.map fun p => (He.ga K p.1, p.2)
theorem fld_in {K : PySem.W.Frag} {c f : Str} (h : (c, f) ∈ allFld) : (He.ga K c, f) ∈ fldA K := List.mem_map.mpr ⟨(c, f), h, rfl⟩
theorem same_run {n : Nat} {x y : DV} {R : DV → Prop} (e : x = y) (h : flB n x = true) (r : R (.bl true)) : s_same (n + 1) [x, y] R := ⟨e, fl_of h, r⟩
theorem fld_run {K : PySem.W.Frag} {c f : Str} {ns : List Str} {xs : List DV} {x : DV} {R : DV → Prop} (h : (c, f) ∈ allFld) (e : lkD ns xs f = some x) (r : R x) : ∃ C ns' xs' x, DV.err (He.ga K c) ns xs = .err C ns' xs' ∧ (C, f) ∈ fldA K ∧ lkD ns' xs' f = some x ∧ R x := ⟨_, _, _, _, rfl, fld_in h, e, r⟩
theorem fi_BadName_name : (("BadName" : Str), ("name" : Str)) ∈ allFld := by decide +kernel
theorem fi_Twice_name : (("Twice" : Str), ("name" : Str)) ∈ allFld := by decide +kernel
theorem fi_Unknown_name : (("Unknown" : Str), ("name" : Str)) ∈ allFld := by decide +kernel
theorem fi_NoHolder_name : (("NoHolder" : Str), ("name" : Str)) ∈ allFld := by decide +kernel
theorem fi_Loop_name : (("Loop" : Str), ("name" : Str)) ∈ allFld := by decide +kernel
theorem fi_Same_name : (("Same" : Str), ("name" : Str)) ∈ allFld := by decide +kernel
theorem fi_Nailed_name : (("Nailed" : Str), ("name" : Str)) ∈ allFld := by decide +kernel
theorem fi_Sealed_name : (("Sealed" : Str), ("name" : Str)) ∈ allFld := by decide +kernel
theorem fi_Idle_name : (("Idle" : Str), ("name" : Str)) ∈ allFld := by decide +kernel
theorem fi_Unbalanced_name : (("Unbalanced" : Str), ("name" : Str)) ∈ allFld := by decide +kernel
theorem fi_Clash_name : (("Clash" : Str), ("name" : Str)) ∈ allFld := by decide +kernel
theorem fi_NotEmpty_name : (("NotEmpty" : Str), ("name" : Str)) ∈ allFld := by decide +kernel
theorem fi_NoChange_name : (("NoChange" : Str), ("name" : Str)) ∈ allFld := by decide +kernel
theorem fi_BadWeight_weight : (("BadWeight" : Str), ("weight" : Str)) ∈ allFld := by decide +kernel
theorem fi_BadNumber_number : (("BadNumber" : Str), ("number" : Str)) ∈ allFld := by decide +kernel
theorem fi_Short_number : (("Short" : Str), ("number" : Str)) ∈ allFld := by decide +kernel
theorem fi_BadWish_at : (("BadWish" : Str), ("at" : Str)) ∈ allFld := by decide +kernel
theorem fi_BadClaim_claim : (("BadClaim" : Str), ("claim" : Str)) ∈ allFld := by decide +kernel
theorem fi_NotComing_bar : (("NotComing" : Str), ("bar" : Str)) ∈ allFld := by decide +kernel
theorem fi_OrderRefused_line : (("OrderRefused" : Str), ("line" : Str)) ∈ allFld := by decide +kernel
theorem fi_OrderRefused_reason : (("OrderRefused" : Str), ("reason" : Str)) ∈ allFld := by decide +kernel
theorem fi_OrderRefused_deeds : (("OrderRefused" : Str), ("deeds" : Str)) ∈ allFld := by decide +kernel
theorem fi_OutOfSteps_line : (("OutOfSteps" : Str), ("line" : Str)) ∈ allFld := by decide +kernel
theorem fi_OutOfSteps_deeds : (("OutOfSteps" : Str), ("deeds" : Str)) ∈ allFld := by decide +kernel
theorem fi_Unlike_first : (("Unlike" : Str), ("first" : Str)) ∈ allFld := by decide +kernel
theorem fi_Unlike_second : (("Unlike" : Str), ("second" : Str)) ∈ allFld := by decide +kernel
theorem fi_Unlike_first_weight : (("Unlike" : Str), ("first_weight" : Str)) ∈ allFld := by decide +kernel
theorem fi_Unlike_second_weight : (("Unlike" : Str), ("second_weight" : Str)) ∈ allFld := by decide +kernel
theorem fi_Inside_inner : (("Inside" : Str), ("inner" : Str)) ∈ allFld := by decide +kernel
theorem fi_Inside_outer : (("Inside" : Str), ("outer" : Str)) ∈ allFld := by decide +kernel
theorem fi_TooMany_many : (("TooMany" : Str), ("many" : Str)) ∈ allFld := by decide +kernel
theorem fi_TooMany_limit : (("TooMany" : Str), ("limit" : Str)) ∈ allFld := by decide +kernel
theorem fi_Broken_at : (("Broken" : Str), ("at" : Str)) ∈ allFld := by decide +kernel
theorem fi_Broken_reason : (("Broken" : Str), ("reason" : Str)) ∈ allFld := by decide +kernel
theorem fi_BadCount_what : (("BadCount" : Str), ("what" : Str)) ∈ allFld := by decide +kernel
theorem fi_BadCount_many : (("BadCount" : Str), ("many" : Str)) ∈ allFld := by decide +kernel
theorem fi_BadText_line : (("BadText" : Str), ("line" : Str)) ∈ allFld := by decide +kernel
theorem fi_BadText_fault : (("BadText" : Str), ("fault" : Str)) ∈ allFld := by decide +kernel
theorem fi_BadOrder_line : (("BadOrder" : Str), ("line" : Str)) ∈ allFld := by decide +kernel
theorem fi_BadOrder_fault : (("BadOrder" : Str), ("fault" : Str)) ∈ allFld := by decide +kernel
local macro_rules | `(tactic| walk_at "fd") => `(tactic| repeat' (first
  | walk_at "dl1"
  | (refine ⟨by decide, ?_⟩)
  | (refine ⟨Nat.le_of_ble_eq_true rfl, ?_⟩)
  | (refine same_run rfl rfl ?_)
  | (rw [if_neg (by decide)])
  | refine fld_run fi_BadName_name rfl ?_
  | refine fld_run fi_Twice_name rfl ?_
  | refine fld_run fi_Unknown_name rfl ?_
  | refine fld_run fi_NoHolder_name rfl ?_
  | refine fld_run fi_Loop_name rfl ?_
  | refine fld_run fi_Same_name rfl ?_
  | refine fld_run fi_Nailed_name rfl ?_
  | refine fld_run fi_Sealed_name rfl ?_
  | refine fld_run fi_Idle_name rfl ?_
  | refine fld_run fi_Unbalanced_name rfl ?_
  | refine fld_run fi_Clash_name rfl ?_
  | refine fld_run fi_NotEmpty_name rfl ?_
  | refine fld_run fi_NoChange_name rfl ?_
  | refine fld_run fi_BadWeight_weight rfl ?_
  | refine fld_run fi_BadNumber_number rfl ?_
  | refine fld_run fi_Short_number rfl ?_
  | refine fld_run fi_BadWish_at rfl ?_
  | refine fld_run fi_BadClaim_claim rfl ?_
  | refine fld_run fi_NotComing_bar rfl ?_
  | refine fld_run fi_OrderRefused_line rfl ?_
  | refine fld_run fi_OrderRefused_reason rfl ?_
  | refine fld_run fi_OrderRefused_deeds rfl ?_
  | refine fld_run fi_OutOfSteps_line rfl ?_
  | refine fld_run fi_OutOfSteps_deeds rfl ?_
  | refine fld_run fi_Unlike_first rfl ?_
  | refine fld_run fi_Unlike_second rfl ?_
  | refine fld_run fi_Unlike_first_weight rfl ?_
  | refine fld_run fi_Unlike_second_weight rfl ?_
  | refine fld_run fi_Inside_inner rfl ?_
  | refine fld_run fi_Inside_outer rfl ?_
  | refine fld_run fi_TooMany_many rfl ?_
  | refine fld_run fi_TooMany_limit rfl ?_
  | refine fld_run fi_Broken_at rfl ?_
  | refine fld_run fi_Broken_reason rfl ?_
  | refine fld_run fi_BadCount_what rfl ?_
  | refine fld_run fi_BadCount_many rfl ?_
  | refine fld_run fi_BadText_line rfl ?_
  | refine fld_run fi_BadText_fault rfl ?_
  | refine fld_run fi_BadOrder_line rfl ?_
  | refine fld_run fi_BadOrder_fault rfl ?_
  ))
end DL
namespace DL
open PySem PySem.Spec PyProof.Rows L2 NW
local macro_rules | `(tactic| walk_at "dl1") => `(tactic| simp only [wTry, wAsgX, wDropX, wKd, wXf, wSeq, wAsg, wAsgO, wRet, wIfS, wNx, wPass, wBk, wCt, wDrop, wAug, wApp, wAppPop, wPop, wFor, wFz, wV, wVP, atV, atP, atO, wC, wOp, wCall, wCallN, wCB, aC, aN, wL, wTu, fL, wF, fCat, fList, wTB, wTru, wAnd, wOr, wNot, wAndV, wOrV, wNotV, wIf, wChain, wIsN, wNeg, dNeg, wSl, pN, pP, dSl, wLrev, dLrev, wIsi, wIsi2, iL, iT, iV, iS, iR1, iR2, gN, fLc, wYes, wiL,
  dAdd, dSub, dMul, dMulS, dMulL, dDiv, dMod, dLt, dLe, dGt, dGe, dEq, dNe, eqD, dIn, dNi, dIx, dTru, isNon, dLen, dInt, dAbs, dMax, dMin, dList, dTup, dStr, dIAdd, frzE, frz1, startD, List.map_cons, List.map_nil, List.length_cons, List.length_nil, List.replicate_succ, List.replicate_zero, List.cons_append, List.nil_append, List.append_nil, List.getElem?_cons_zero, List.getElem?_cons_succ, List.set_cons_zero, List.set_cons_succ, Nat.reduceSub, Nat.reduceAdd, if_true, if_false, ite_true, ite_false, reduceIte, Bool.false_eq_true, decide_true, decide_false, Bool.not_true, Bool.not_false, Bool.not_eq_true', decide_eq_true_eq, decide_eq_false_iff_not, isi_int_int, isi_int_bool, isi_bl_int, isi_bl_bool, isi_non_int, isi_non_bool, isi_str_int, isi_str_bool, isi_str_str, isi_lst_list, isi_tup_tuple, Option.some.injEq, exists_eq_left', exists_eq_left, DV.int.injEq, DV.str.injEq, DV.bl.injEq, List.cons.injEq, and_true, true_and])
local macro_rules | `(tactic| walk_at "dl") => `(tactic| try walk_at "dl1")
local macro_rules | `(tactic| walk_at "go") => `(tactic| repeat' (first
  | (intro _)
  | walk_at "dl1"
  | (refine ⟨by first | decide | omega, ?_⟩)
  | split))
local macro_rules | `(tactic| walk_at "fd") => `(tactic| repeat' (first
  | walk_at "dl1"
  | (refine ⟨by decide, ?_⟩)
  | (refine ⟨Nat.le_of_ble_eq_true rfl, ?_⟩)
  | (refine same_run rfl rfl ?_)
  | (rw [if_neg (by decide)])
  | refine fld_run fi_BadName_name rfl ?_
  | refine fld_run fi_Twice_name rfl ?_
  | refine fld_run fi_Unknown_name rfl ?_
  | refine fld_run fi_NoHolder_name rfl ?_
  | refine fld_run fi_Loop_name rfl ?_
  | refine fld_run fi_Same_name rfl ?_
  | refine fld_run fi_Nailed_name rfl ?_
  | refine fld_run fi_Sealed_name rfl ?_
  | refine fld_run fi_Idle_name rfl ?_
  | refine fld_run fi_Unbalanced_name rfl ?_
  | refine fld_run fi_Clash_name rfl ?_
  | refine fld_run fi_NotEmpty_name rfl ?_
  | refine fld_run fi_NoChange_name rfl ?_
  | refine fld_run fi_BadWeight_weight rfl ?_
  | refine fld_run fi_BadNumber_number rfl ?_
  | refine fld_run fi_Short_number rfl ?_
  | refine fld_run fi_BadWish_at rfl ?_
  | refine fld_run fi_BadClaim_claim rfl ?_
  | refine fld_run fi_NotComing_bar rfl ?_
  | refine fld_run fi_OrderRefused_line rfl ?_
  | refine fld_run fi_OrderRefused_reason rfl ?_
  | refine fld_run fi_OrderRefused_deeds rfl ?_
  | refine fld_run fi_OutOfSteps_line rfl ?_
  | refine fld_run fi_OutOfSteps_deeds rfl ?_
  | refine fld_run fi_Unlike_first rfl ?_
  | refine fld_run fi_Unlike_second rfl ?_
  | refine fld_run fi_Unlike_first_weight rfl ?_
  | refine fld_run fi_Unlike_second_weight rfl ?_
  | refine fld_run fi_Inside_inner rfl ?_
  | refine fld_run fi_Inside_outer rfl ?_
  | refine fld_run fi_TooMany_many rfl ?_
  | refine fld_run fi_TooMany_limit rfl ?_
  | refine fld_run fi_Broken_at rfl ?_
  | refine fld_run fi_Broken_reason rfl ?_
  | refine fld_run fi_BadCount_what rfl ?_
  | refine fld_run fi_BadCount_many rfl ?_
  | refine fld_run fi_BadText_line rfl ?_
  | refine fld_run fi_BadText_fault rfl ?_
  | refine fld_run fi_BadOrder_line rfl ?_
  | refine fld_run fi_BadOrder_fault rfl ?_
  ))
theorem isE_uns {W : Wd} {H : Hp} (n : Nat) : IsE W (fun _ => none) H (List.replicate n none) (List.replicate n .un) := by
  refine ⟨by rw [List.length_replicate, List.length_replicate], fun i d e => ?_, fun i d e => ?_, fun i k d e => ?_, fun i C k d e => ?_, fun _ _ z => nomatch z⟩
  · have z := List.mem_of_getElem? e
    rw [List.mem_replicate] at z
    cases z.2
  · have z := List.mem_of_getElem? e
    rw [List.mem_replicate] at z
    cases z.2
  · have z := List.mem_of_getElem? e
    rw [List.mem_replicate] at z
    cases z.2
  · have z := List.mem_of_getElem? e
    rw [List.mem_replicate] at z
    cases z.2
theorem isE_cons {W : Wd} {H : Hp} {v : V} {d : DV} {σ : L2.St} {ρ : Env} (h : Is W H v d) (t : IsE W (fun _ => none) H σ ρ) : IsE W (fun _ => none) H (some v :: σ) (.dt d :: ρ) := by
  refine ⟨by rw [List.length_cons, List.length_cons, t.len], fun i x e => ?_, fun i x e => ?_, fun i k x e => ?_, fun i C k x e => ?_, fun _ _ z => nomatch z⟩
  · match i, e with
    | 0, e =>
      have e : d = x := Sl.dt.inj (Option.some.inj e)
      subst e
      exact ⟨v, rfl, h⟩
    | i + 1, e => exact t.dt i x e
  · match i, e with
    | 0, e => cases e
    | i + 1, e =>
      obtain ⟨a, us, z, _⟩ := t.ow i x e
      cases z
  · match i, e with
    | 0, e => cases e
    | i + 1, e =>
      obtain ⟨a, us, z, _⟩ := t.od i k x e
      cases z
  · match i, e with
    | 0, e => cases e
    | i + 1, e =>
      obtain ⟨a, us, z, _⟩ := t.oi i C k x e
      cases z
theorem isE_un {W : Wd} {H : Hp} {v : Option V} {σ : L2.St} {ρ : Env} (t : IsE W (fun _ => none) H σ ρ) : IsE W (fun _ => none) H (v :: σ) (.un :: ρ) := by
  refine ⟨by rw [List.length_cons, List.length_cons, t.len], fun i x e => ?_, fun i x e => ?_, fun i k x e => ?_, fun i C k x e => ?_, fun _ _ z => nomatch z⟩
  · match i, e with
    | 0, e => cases e
    | i + 1, e => exact t.dt i x e
  · match i, e with
    | 0, e => cases e
    | i + 1, e =>
      obtain ⟨a, us, z, _⟩ := t.ow i x e
      cases z
  · match i, e with
    | 0, e => cases e
    | i + 1, e =>
      obtain ⟨a, us, z, _⟩ := t.od i k x e
      cases z
  · match i, e with
    | 0, e => cases e
    | i + 1, e =>
      obtain ⟨a, us, z, _⟩ := t.oi i C k x e
      cases z
theorem law_start {Ex : L2.WX} {w : WS} {H : Hp} {st : Addr} {a : V} {n : Nat} {Q : VK} (hs : Sto H st) (q : ∀ H', Q (.bl true) H') (h : w { nx := fun _ => False, rt := fun d => d = .bl true } (.un :: .dt .sto :: List.replicate n .un)) :
    liftS Ex w { nx := fun _ H' => Q .non H', rt := Q } (some a :: some (.ref st) :: List.replicate n none) H := by
  have e0 : (⟨some st, fun _ => False, H⟩ : Bs).w (fun _ => none) = ⟨some st, fun _ => False⟩ := w_none
  have he : IsE (⟨some st, fun _ => False⟩ : Wd) (fun _ => none) H (some a :: some (.ref st) :: List.replicate n none) (.un :: .dt .sto :: List.replicate n .un) := isE_un (isE_cons (.sto rfl) (isE_uns n))
  refine ⟨⟨some st, fun _ => False, H⟩, fun _ => none, _, _, ⟨hs, Kp.refl _ _, by rw [e0]; exact ⟨hs, fun _ z => z.elim⟩, by rw [e0]; exact he, (fun _ _ z => nomatch z), (fun _ _ _ z => nomatch z)⟩, h, ⟨fun _ _ _ _ z => z.elim, fun _ _ _ _ z => z.elim, fun _ _ _ _ z => z.elim, fun d v H' r k o i => ?_, fun _ _ _ _ _ _ _ _ _ z => z.elim⟩⟩
  have r : d = .bl true := r
  subst r
  cases i
  exact q H'
def sp_lawS (K : PySem.W.Frag) : Sp := fun vs H Q _ => ∃ (a : Addr) (ns : List Int), vs = [.ref a] ∧ SqL K H a (ns.map V.int) ∧ ∀ H', Q (.bl true) H'
theorem l_lawS (K : PySem.W.Frag) : ∀ vs H Q E, sp_lawS K vs H Q E → vs.length = 1 := fun _ _ _ _ ⟨_, _, e, _⟩ => by rw [e]; rfl
def t_lawS (K : PySem.W.Frag) (Ex : L2.WX) (w : WS) : TS := tSeq (tAsg (tCall (sp_store K) [] E0 (tCons (tVar 0) tNil)) (gName 1)) (liftS Ex w)
theorem p_lawS (K : PySem.W.Frag) {Ex : L2.WX} {w : WS} {N : List Str} {n : Nat} (hN : N.length = n + 2) (h : w { nx := fun _ => False, rt := fun d => d = .bl true } (.un :: .dt .sto :: List.replicate n .un)) (vs : List V) (H : Hp) (Q : VK) (E : XK) (q : sp_lawS K vs H Q E) : t_lawS K Ex w { nx := fun _ H' => Q .non H', rt := Q } (L2.start N vs) H := by
  obtain ⟨a, ns, rfl, hs, q⟩ := q
  have e : L2.start N [V.ref a] = some (.ref a) :: none :: List.replicate n none := by
    unfold L2.start
    rw [hN]
    show some (V.ref a) :: List.replicate (n + 2 - 1) none = _
    rw [show n + 2 - 1 = n + 1 by omega, List.replicate_succ]
  rw [e]
  exact ⟨_, rfl, a, ns, rfl, hs, fun st H' S s g => law_start S q h⟩
end DL
namespace DL
open PySem PySem.Spec PyProof.Rows L2 NW
section
variable {W : Wd} {H : Hp}
theorem iss_strs : ∀ {xs : List Str} {vs : List V}, Iss W H vs (xs.map DV.str) → vs = xs.map V.str
  | [], _, h => by cases h; rfl
  | x :: xs, _, h => by
    cases h with
    | cons h1 h2 =>
      cases h1
      rw [iss_strs h2]; rfl
theorem strs_iss : ∀ xs : List Str, Iss W H (xs.map V.str) (xs.map DV.str)
  | [] => .nil
  | x :: xs => .cons (.str x) (strs_iss xs)
end
def fSort (w : WE) : WF := fun ρ R => w ρ fun d => ∃ xs : List Str, (d = .lst (xs.map DV.str) ∨ d = .tup (xs.map DV.str)) ∧ xs.length ≤ 2000 ∧ ∀ ys : List Str, ys.Perm (DS.metS xs) → sortedS ys = true → R (ys.map DV.str)
theorem metS_le (xs : List Str) : (DS.metS xs).length ≤ xs.length := by
  have z := DS.metS_tlen xs xs.length
  rw [List.take_length] at z
  exact z
section
variable {X : Cx} {e a b : Expr} {w wa wb : WE} {p p2 q pos : Pos}
theorem dsortF (hc : X.calm = true) (hm : X.mg "sorted" = none) (hm2 : X.mg "set" = none) (ha : PE X a (liftP w)) (hg : Gl X "sorted" := by rfl) (hg2 : Gl X "set" := by rfl)
    (na : starEach [a] X.env = (false, eval a X.env) :: starEach [] X.env := by rfl) : PE X (.Call (.Name "sorted" p) [.Call (.Name "set" p2) [a] [] q] [] pos) (liftF (fSort w)) := pe_weak (DS.pe_sortSet hc hg hm hg2 hm2 ha na) fun σ H Q z => by
  obtain ⟨W, own, ρ, R, o, i, z, f⟩ := z
  refine ⟨W, own, ρ, _, o, i, z, fun d v H1 r k o1 i1 => ?_⟩
  obtain ⟨xs, hd, hl, r⟩ := r
  have fin : ∀ (ys : List Str) (p : Addr), ys.Perm (DS.metS xs) → sortedS ys = true → H1 p = none → Q (.ref p) (upd H1 p (.lst (ys.map V.str))) := fun ys p h1 h2 h3 =>
    (f.mono k).new o1 (by rw [List.length_map, h1.length_eq]; exact Nat.le_trans (metS_le xs) (Nat.le_trans hl (by decide))) (strs_iss ys) (r ys h1 h2) p h3
  rcases hd with rfl | rfl
  · obtain ⟨l, vs, rfl, h1, h2, h3⟩ := i1.lst
    rw [iss_strs h3] at h1
    exact ⟨l, xs, rfl, .inl (SqL.of h1), hl, fin⟩
  · obtain ⟨l, vs, rfl, h1, h2, h3⟩ := i1.tup
    rw [iss_strs h3] at h1
    exact ⟨l, xs, rfl, .inr (SqT.of h1), hl, fin⟩
def asS (d : DV) (R : Str → Prop) : Prop := match d with
  | .str x => R x
  | _ => False
def asI (d : DV) (R : Int → Prop) : Prop := match d with
  | .int x => R x
  | _ => False
def wFstr (wa wb : WE) : WE := fun ρ R => wa ρ fun a => asS a fun x => x.length ≤ 1000000 ∧ wb ρ fun b => asI b fun i => i.natAbs.log2 < 1920 ∧ (x ++ (toString i : Str)).length ≤ 1000000 ∧ R (.str (x ++ (toString i : Str)))
theorem asS_ex {d : DV} {R : Str → Prop} (h : asS d R) : ∃ x, d = .str x ∧ R x := by
  unfold asS at h
  split at h
  · exact ⟨_, rfl, h⟩
  · exact h.elim
theorem asI_ex {d : DV} {R : Int → Prop} (h : asI d R) : ∃ x, d = .int x ∧ R x := by
  unfold asI at h
  split at h
  · exact ⟨_, rfl, h⟩
  · exact h.elim
theorem empty_app (x : Str) : Str.empty ++ x = x := Str.ext' (by rw [app_cps]; rfl)
theorem dfstr (ha : PE X a (lift wa)) (hb : PE X b (lift wb)) : PE X (.JoinedStr [.FormattedValue a (-1) none p, .FormattedValue b (-1) none p2] pos) (lift (wFstr wa wb)) := pe_weak (pe_joined (.cons (pe_fmt ha) (.cons (pe_fmt hb) .nil))) fun σ H Q z => by
  obtain ⟨W, own, ρ, R, o, i, z, f⟩ := z
  refine ⟨W, own, ρ, _, o, i, z, fun d v H1 r k o1 i1 => ?_⟩
  obtain ⟨x, rfl, hx, r⟩ := asS_ex r
  cases i1
  have l1 : x.length ≤ sizeLine := Nat.le_trans hx (by decide)
  refine .inl ⟨x, rfl, l1, x, rfl, by rw [empty_app]; exact l1, W, own, ρ, _, o1, i.mono o k, r, fun b u H2 r2 k2 o2 i2 => ?_⟩
  obtain ⟨j, rfl, hj, hz, r2⟩ := asI_ex r2
  cases i2
  refine .inr ⟨j, rfl, hj, toString j, rfl, ?_, ?_⟩
  · rw [empty_app]; exact Nat.le_trans hz (by decide)
  · rw [empty_app]
    exact f _ _ _ r2 (k.trans k2) o2 (.str _)
end
abbrev DSF := List DV → (List DV → Prop) → (DV → Prop) → Prop
def dspXF (s : DSF) : Sp := fun vs H Q E => ∃ W ds R RX, W.Ok H ∧ Iss W H vs ds ∧ s ds R RX ∧ FinF W H R Q ∧ FinX W H RX E
def sF (s : DSF) : DS2 := fun ds R RX => s ds (fun xs => R (.lst xs)) RX
theorem dspXF_weak {s : DSF} : ∀ vs H Q E, dspX (sF s) vs H Q E → dspXF s vs H Q E := fun vs H Q E q => by
  obtain ⟨W, ds, R, RX, o, i, z, f, g⟩ := q
  exact ⟨W, ds, _, RX, o, i, z, f.f, g⟩
theorem len_dspXF {s : DSF} {n : Nat} (h : ∀ ds R RX, s ds R RX → ds.length = n) : ∀ vs H Q E, dspXF s vs H Q E → vs.length = n := fun vs H Q E q => by
  obtain ⟨W, ds, R, RX, o, i, z, f⟩ := q
  rw [i.len]; exact h ds R RX z
def fCallN (s : DSF) (r : WA) : WF := fun ρ R => r ρ fun ds => s ds R fun _ => False
section
variable {X : Cx} {e : Expr} {r : WA}
theorem dcallNF {s : DSF} (h : PE X e (tCall (dspXF s) [] E0 (liftA r))) : PE X e (liftF (fCallN s r)) := pe_weak h fun σ H Q q => by
  obtain ⟨W, own, ρ, R, o, i, z, f⟩ := q
  refine ⟨W, own, ρ, _, o, i, z, fun ds vs H1 r1 k1 o1 i1 => ?_⟩
  show dspXF s (vs ++ []) H1 Q E0
  rw [List.append_nil]
  exact ⟨W, ds, R, _, o1, i1, r1, f.mono k1, fun _ _ _ _ _ _ z => z.elim⟩
end
end DL
namespace DL
open PySem PySem.Spec PyProof.Rows L2 NW
local macro_rules | `(tactic| walk_at "dl1") => `(tactic| simp only [wTry, wAsgX, wDropX, wKd, wXf, wSeq, wAsg, wAsgO, wRet, wIfS, wNx, wPass, wBk, wCt, wDrop, wAug, wApp, wAppPop, wPop, wFor, wFz, wV, wVP, atV, atP, atO, wC, wOp, wCall, wCallN, wCB, aC, aN, wL, wTu, fL, wF, fCat, fList, wTB, wTru, wAnd, wOr, wNot, wAndV, wOrV, wNotV, wIf, wChain, wIsN, wNeg, dNeg, wSl, pN, pP, dSl, wLrev, dLrev, wIsi, wIsi2, iL, iT, iV, iS, iR1, iR2, gN, fLc, wYes, wiL,
  dAdd, dSub, dMul, dMulS, dMulL, dDiv, dMod, dLt, dLe, dGt, dGe, dEq, dNe, eqD, dIn, dNi, dIx, dTru, isNon, dLen, dInt, dAbs, dMax, dMin, dList, dTup, dStr, dIAdd, frzE, frz1, startD, List.map_cons, List.map_nil, List.length_cons, List.length_nil, List.replicate_succ, List.replicate_zero, List.cons_append, List.nil_append, List.append_nil, List.getElem?_cons_zero, List.getElem?_cons_succ, List.set_cons_zero, List.set_cons_succ, Nat.reduceSub, Nat.reduceAdd, if_true, if_false, ite_true, ite_false, reduceIte, Bool.false_eq_true, decide_true, decide_false, Bool.not_true, Bool.not_false, Bool.not_eq_true', decide_eq_true_eq, decide_eq_false_iff_not, isi_int_int, isi_int_bool, isi_bl_int, isi_bl_bool, isi_non_int, isi_non_bool, isi_str_int, isi_str_bool, isi_str_str, isi_lst_list, isi_tup_tuple, Option.some.injEq, exists_eq_left', exists_eq_left, DV.int.injEq, DV.str.injEq, DV.bl.injEq, List.cons.injEq, and_true, true_and])
local macro_rules | `(tactic| walk_at "dl") => `(tactic| try walk_at "dl1")
local macro_rules | `(tactic| walk_at "go") => `(tactic| repeat' (first
  | (intro _)
  | walk_at "dl1"
  | (refine ⟨by first | decide | omega, ?_⟩)
  | split))
def OwesXF (n : Nat) (s : DSF) (w : WS) (f : WF) : Prop := ∀ ds R RX, s ds R RX → w { nx := fun ρ => f ρ R, rt := fun _ => False, xc := fun e _ => RX e } (startD n ds)
theorem dl_startXF {s : DSF} {w : WS} {f : WF} {N : List Str} (o : OwesXF N.length s w f) (vs : List V) (H : Hp) (Q : VK) (E : XK) (h : dspXF s vs H Q E) :
    tSeq (liftS (fun cls d _ H => E cls d H) w) (tRet (liftF f)) { nx := fun _ H' => Q .non H', rt := Q } (L2.start N vs) H := by
  obtain ⟨W, ds, R, RX, ok, i, hs, g, gx⟩ := h
  refine ⟨⟨W.st, W.hid, H⟩, fun _ => none, _, _, ⟨ok.s, Kp.refl _ _, by rw [w_none]; exact ok, by rw [w_none]; exact isE_start i, (fun _ _ z => nomatch z), (fun _ _ _ z => nomatch z)⟩, o ds R RX hs, ⟨fun own ρ σ H' r c => ?_, fun _ _ _ _ z => z.elim, fun _ _ _ _ z => z.elim, fun _ _ _ z => z.elim, fun own ρ σ H' C ns xs dd fs r c h1 h2 h3 h4 => ?_⟩⟩
  · refine ⟨_, own, ρ, R, c.ok, c.e, r, fun xs vs q H1 r1 k1 o1 i1 l1 n1 => ?_⟩
    have c1 := c.mono k1 o1
    exact g xs vs q H1 r1 c1.k c1.ok0 i1.w0 l1 n1
  · exact gx C ns xs dd H' fs r c.k c.ok0 h1 ⟨h2.1, fun z => h2.2 (.inl z)⟩ h3 h4.w0
def w_Pordered (K : PySem.W.Frag) : WS :=
  (wFor (iV 0) (gN 1) (wDropX (s_Pvalid_name K) (aC (wV 1) aN)))
def s_Pordered (K : PySem.W.Frag) : DSF := fun ds R RX => ∃ ss : List Str, (ds = [.lst (ss.map DV.str)] ∨ ds = [.tup (ss.map DV.str)]) ∧ ss.length ≤ 2000 ∧ (∀ s ∈ ss, s.length ≤ 1000000) ∧
  ((∀ s ∈ ss, nmB s = true) → ∀ ys : List Str, ys.Perm (DS.metS ss) → sortedS ys = true → R (ys.map DV.str)) ∧
  (∀ (i : Nat) s, ss[i]? = some s → nmB s = false → (∀ j t, j < i → ss[j]? = some t → nmB t = true) → RX (.err (He.ga K "BadName") ["name"] [.str s]))
theorem l_Pordered (K : PySem.W.Frag) : ∀ ds R RX, s_Pordered K ds R RX → ds.length = 1 := by
  intro ds R RX h
  obtain ⟨ss, h, _⟩ := h
  rcases h with rfl | rfl <;> rfl
theorem o_Pordered (K : PySem.W.Frag) : OwesXF 2 (s_Pordered K) (w_Pordered K) (fSort (wVP 0)) := by
  intro ds R RX h
  obtain ⟨ss, hd, hl, hz, hr, hx⟩ := h
  have key : ∀ d0 : DV, (d0 = .lst (ss.map DV.str) ∨ d0 = .tup (ss.map DV.str)) → forL (gN 1) (wDropX (s_Pvalid_name K) (aC (wV 1) aN)) { nx := fun ρ => fSort (wVP 0) ρ R, rt := fun _ => False, xc := fun e _ => RX e } (ss.map DV.str) [.dt d0, .un] := by
    intro d0 hd
    refine forL_ind (fun i ρ => ∃ v : Sl, ρ = [.dt d0, v] ∧ ∀ j t, j < i → ss[j]? = some t → nmB t = true) ⟨_, rfl, fun j t z => absurd z (Nat.not_lt_zero _)⟩ ?_ ?_
    · rintro i x ρ K' hx' ⟨v, rfl, hp⟩ hK
      rw [List.getElem?_map] at hx'
      cases e : ss[i]? with
      | none => rw [e] at hx'; cases hx'
      | some s =>
        rw [e] at hx'
        cases hx'
        walk_at "dl"
        simp only [s_Pvalid_name]
        refine ⟨hz s (List.mem_of_getElem? e), fun hn => hK _ ⟨_, rfl, fun j t hj ht => ?_⟩, fun hn => hx i s e hn hp⟩
        rcases Nat.lt_or_ge j i with z | z
        · exact hp j t z ht
        · obtain rfl : j = i := by omega
          rw [e] at ht
          cases ht
          exact hn
    · rintro ρ ⟨v, rfl, hp⟩
      rw [List.length_map] at hp
      unfold fSort
      walk_at "dl"
      refine ⟨ss, hd, hl, fun ys h1 h2 => hr (fun s hs => ?_) ys h1 h2⟩
      obtain ⟨j, hj⟩ := List.getElem?_of_mem hs
      exact hp j s (List.getElem?_eq_some_iff.mp hj).1 hj
  rcases hd with rfl | rfl
  · unfold w_Pordered
    walk_at "dl"
    exact ⟨_, .inl rfl, key _ (.inl rfl)⟩
  · unfold w_Pordered
    walk_at "dl"
    exact ⟨_, .inr rfl, key _ (.inr rfl)⟩
end DL
namespace DL
open PySem PySem.Spec PyProof.Rows L2 NW
local macro_rules | `(tactic| walk_at "dl1") => `(tactic| simp only [wTry, wAsgX, wDropX, wKd, wXf, wSeq, wAsg, wAsgO, wRet, wIfS, wNx, wPass, wBk, wCt, wDrop, wAug, wApp, wAppPop, wPop, wFor, wFz, wV, wVP, atV, atP, atO, wC, wOp, wCall, wCallN, wCB, aC, aN, wL, wTu, fL, wF, fCat, fList, wTB, wTru, wAnd, wOr, wNot, wAndV, wOrV, wNotV, wIf, wChain, wIsN, wNeg, dNeg, wSl, pN, pP, dSl, wLrev, dLrev, wIsi, wIsi2, iL, iT, iV, iS, iR1, iR2, gN, fLc, wYes, wiL,
  dAdd, dSub, dMul, dMulS, dMulL, dDiv, dMod, dLt, dLe, dGt, dGe, dEq, dNe, eqD, dIn, dNi, dIx, dTru, isNon, dLen, dInt, dAbs, dMax, dMin, dList, dTup, dStr, dIAdd, frzE, frz1, startD, List.map_cons, List.map_nil, List.length_cons, List.length_nil, List.replicate_succ, List.replicate_zero, List.cons_append, List.nil_append, List.append_nil, List.getElem?_cons_zero, List.getElem?_cons_succ, List.set_cons_zero, List.set_cons_succ, Nat.reduceSub, Nat.reduceAdd, if_true, if_false, ite_true, ite_false, reduceIte, Bool.false_eq_true, decide_true, decide_false, Bool.not_true, Bool.not_false, Bool.not_eq_true', decide_eq_true_eq, decide_eq_false_iff_not, isi_int_int, isi_int_bool, isi_bl_int, isi_bl_bool, isi_non_int, isi_non_bool, isi_str_int, isi_str_bool, isi_str_str, isi_lst_list, isi_tup_tuple, Option.some.injEq, exists_eq_left', exists_eq_left, DV.int.injEq, DV.str.injEq, DV.bl.injEq, List.cons.injEq, and_true, true_and])
local macro_rules | `(tactic| walk_at "dl") => `(tactic| try walk_at "dl1")
local macro_rules | `(tactic| walk_at "go") => `(tactic| repeat' (first
  | (intro _)
  | walk_at "dl1"
  | (refine ⟨by first | decide | omega, ?_⟩)
  | split))
def w_row_of : WS :=
  (wSeq (wIfS (wTB (wOp dEq (wCall s_take (aC (wV 0) (aC (wC (.int 2)) aN))) (wC (.int 0)))) (wRet (wCB dList (aC (wVP 1) aN))) wNx)
    (wRet (wCB dTup (aC (wVP 1) aN))))
def s_row_of : DS1 := fun ds R => match ds with
  | [.sto, .lst xs] => xs.length ≤ 1000000 ∧ R (.lst xs) ∧ R (.tup xs)
  | _ => False
theorem l_row_of : ∀ ds R, s_row_of ds R → ds.length = 2 := by
  intro ds R h
  unfold s_row_of at h
  split at h
  · rfl
  · exact h.elim
theorem o_row_of : Owes 2 (s_row_of) (w_row_of) := by
  intro ds R h
  unfold s_row_of at h
  split at h
  · unfold w_row_of
    walk_at "dl"
    obtain ⟨h0, h1, h2⟩ := h
    simp only [s_take]
    refine ⟨by decide, fun r r0 r1 => ?_⟩
    split
    · exact h1
    · exact h2
  · exact h.elim
def w_put : WS :=
  (wRet (wOp dAdd (wOp dAdd (wSl (wCB dList (aC (wVP 0) aN)) pN (pP (wVP 1))) (wL (aC (wV 2) aN))) (wSl (wCB dList (aC (wVP 0) aN)) (pP (wVP 1)) pN)))
def s_put : DS1 := fun ds R => match ds with
  | [.lst xs, .int k, y] => 0 ≤ k ∧ xs.length ≤ 2000 ∧ R (.lst (xs.take k.toNat ++ y :: xs.drop k.toNat))
  | _ => False
theorem l_put : ∀ ds R, s_put ds R → ds.length = 3 := by
  intro ds R h
  unfold s_put at h
  split at h
  · rfl
  · exact h.elim
theorem o_put : Owes 3 (s_put) (w_put) := by
  intro ds R h
  unfold s_put at h
  split at h
  · unfold w_put
    walk_at "dl"
    rename_i xs k y
    obtain ⟨h0, h1, h⟩ := h
    obtain ⟨k, rfl⟩ : ∃ n : Nat, k = (n : Int) := ⟨k.toNat, by omega⟩
    simp only [cutG_to, cutG_from, Int.toNat_natCast] at h ⊢
    have a1 : (xs.take k).length ≤ 2000 := by rw [List.length_take]; omega
    have a2 : (xs.drop k).length ≤ 2000 := by rw [List.length_drop]; omega
    have e1 : (xs.take k ++ [y]).length = (xs.take k).length + 1 := by rw [List.length_append]; rfl
    exact ⟨by omega, by omega, by omega, by rw [List.append_assoc]; exact h⟩
  · exact h.elim
theorem map_eraseS : ∀ (l : List Str) (j : Nat), (l.map DV.str).eraseIdx j = (l.eraseIdx j).map DV.str
  | [], j => by simp
  | a :: r, 0 => by simp
  | a :: r, j + 1 => by
    have ih := map_eraseS r j
    simp [ih]
theorem strs_of_mem {xs : List Str} : ∀ {ys : List DV}, (∀ y ∈ ys, y ∈ xs.map DV.str) → ∃ ss : List Str, ys = ss.map DV.str ∧ ∀ s ∈ ss, s ∈ xs
  | [], _ => ⟨[], rfl, fun _ z => nomatch z⟩
  | y :: ys, h => by
    obtain ⟨ss, rfl, hs⟩ := strs_of_mem fun z hz => h z (List.mem_cons_of_mem _ hz)
    obtain ⟨s, hm, rfl⟩ := List.mem_map.mp (h y List.mem_cons_self)
    refine ⟨s :: ss, rfl, fun t z => ?_⟩
    rcases List.mem_cons.mp z with rfl | z
    · exact hm
    · exact hs t z
theorem nm_ext {s : Str} (h : nmB s = true) {k : Nat} (hk : 1 ≤ k) {t : List Nat} (ht : t.all lodB = true) (hl : min k s.length + t.length ≤ 8) {u : Str} (e : u.cps.toList = s.cps.toList.take k ++ t) : nmB u = true := by
  obtain ⟨c, cs, es, h1, h2, h3⟩ := nm_split h
  have l := len_cps s
  rw [es, List.length_cons] at l
  obtain ⟨k, rfl⟩ : ∃ j, k = j + 1 := ⟨k - 1, by omega⟩
  rw [es, List.take_succ_cons, List.cons_append] at e
  refine nm_of e h1 ?_ ?_
  · rw [List.all_append, ht, Bool.and_true, List.all_eq_true]
    exact fun x hx => List.all_eq_true.mp h2 x (List.mem_of_mem_take hx)
  · rw [List.length_append, List.length_take]
    omega
theorem nm_tail {s : Str} (h : nmB s = true) (k : Nat) : (s.cps.toList.drop (k + 1)).all lodB = true := by
  obtain ⟨c, cs, es, h1, h2, h3⟩ := nm_split h
  rw [es, List.drop_succ_cons, List.all_eq_true]
  exact fun x hx => List.all_eq_true.mp h2 x (List.mem_of_mem_drop hx)
theorem dig_lod : ∀ k < 130, (toString ((k : Nat) : Int) : Str).cps.toList.all lodB = true ∧ (toString ((k : Nat) : Int) : Str).length ≤ 3 := by decide +kernel
def w_unlike : WS :=
  (wSeq (wIfS (wTB (wOp dNi (wVP 0) (wVP 1))) (wRet (wV 0)) wNx)
    (wSeq (wFor (iR1 (aC (wOp dAdd (wCB dLen (aC (wVP 1) aN)) (wC (.int 1))) aN)) (gN 2) (wSeq (wAsg 3 (wOp dAdd (wOp dAdd (wSl (wVP 0) pN (pP (wC (.int 6)))) (wCall s_sign (aC (wOp dMod (wOp dDiv (wVP 2) (wC (.int 26))) (wC (.int 26))) aN))) (wCall s_sign (aC (wOp dMod (wVP 2) (wC (.int 26))) aN))))
    (wIfS (wTB (wOp dNi (wVP 3) (wVP 1))) (wRet (wV 3)) wNx)))
    (wRet (wV 0))))
def s_unlike : DS1 := fun ds R => match ds with
  | [.str s, .lst xs] => nmB s = true ∧ (∃ ss : List Str, xs = ss.map DV.str) ∧ xs.length ≤ 1000 ∧ ∀ t, nmB t = true → R (.str t)
  | _ => False
theorem l_unlike : ∀ ds R, s_unlike ds R → ds.length = 2 := by
  intro ds R h
  unfold s_unlike at h
  split at h
  · rfl
  · exact h.elim
theorem o_unlike : Owes 4 (s_unlike) (w_unlike) := by
  intro ds R h
  unfold s_unlike at h
  split at h
  · unfold w_unlike
    walk_at "dl"
    rename_i s xs
    obtain ⟨h0, ⟨ss, rfl⟩, h1, h⟩ := h
    refine ⟨ss, rfl, ?_⟩
    dsimp only
    split
    · exact h s h0
    refine ⟨by omega, by omega, ?_⟩
    refine forL_ind (fun i ρ => ∃ v2 v3 : Sl, ρ = [.dt (.str s), .dt (.lst (ss.map DV.str)), v2, v3]) ⟨_, _, rfl⟩ ?_ ?_
    · rintro i x ρ K hx ⟨v2, v3, rfl⟩ hK
      obtain ⟨rfl, hi⟩ := intL_at hx
      walk_at "dl"
      simp only [s_sign]
      have nl := nm_len h0
      have c6 : (cutS s none (some 6)).cps.toList = s.cps.toList.take 6 := by rw [cut_cps, show (some (6 : Int)) = some (((6 : Nat) : Int)) from rfl, cutG_to]
      have l6 : (cutS s none (some 6)).length ≤ 8 := by rw [len_cps, c6, List.length_take, ← len_cps]; omega
      refine ⟨by omega, ⟨by decide, by decide⟩, by decide, by rw [one_len]; omega, by decide, by rw [app_len, one_len, one_len]; omega, ss, rfl, ?_⟩
      have hn : nmB (cutS s none (some 6) ++ ⟨#[sg ((0 + (i : Int)) / 26 % 26 % 36).toNat]⟩ ++ ⟨#[sg ((0 + (i : Int)) % 26 % 36).toNat]⟩) = true :=
        nm_ext h0 (k := 6) (by decide) (t := [sg ((0 + (i : Int)) / 26 % 26 % 36).toNat, sg ((0 + (i : Int)) % 26 % 36).toNat])
          (by simp only [List.all_cons, List.all_nil, sg_lod (show ((0 + (i : Int)) / 26 % 26 % 36).toNat < 36 by omega), sg_lod (show ((0 + (i : Int)) % 26 % 36).toNat < 36 by omega), Bool.and_true])
          (by simp only [List.length_cons, List.length_nil]; omega) (by rw [app_cps, app_cps, c6, one_cps, one_cps, List.append_assoc]; rfl)
      dsimp only
      split
      · exact h _ hn
      · exact hK _ ⟨_, _, rfl⟩
    · rintro ρ ⟨v2, v3, rfl⟩
      walk_at "dl"
      exact h s h0
  · exact h.elim
def w_name_like_by : WS :=
  (wSeq (wIfS (wTB (wOp dEq (wVP 1) (wC (.int 1)))) (wSeq (wAsg 3 (wCall s_take (aC (wV 0) (aC (wCB dLen (aC (wVP 2) aN)) aN))))
    (wSeq (wIfS (wTB (wOp dEq (wVP 3) (wC (.int 0)))) (wRet (wOp dAdd (wCall s_sign (aC (wCall s_take (aC (wV 0) (aC (wC (.int 26)) aN))) aN)) (wSl (wVP 2) (pP (wC (.int 1))) pN))) wNx)
    (wRet (wOp dAdd (wOp dAdd (wSl (wVP 2) pN (pP (wVP 3))) (wCall s_sign (aC (wCall s_take (aC (wV 0) (aC (wC (.int 36)) aN))) aN))) (wSl (wVP 2) (pP (wOp dAdd (wVP 3) (wC (.int 1)))) pN))))) wNx)
    (wSeq (wIfS (wTB (wOp dEq (wVP 1) (wC (.int 2)))) (wRet (wSl (wVP 2) pN (pP (wOp dAdd (wC (.int 1)) (wCall s_take (aC (wV 0) (aC (wCB dLen (aC (wVP 2) aN)) aN))))))) wNx)
    (wSeq (wIfS (wTB (wOp dEq (wVP 1) (wC (.int 3)))) (wRet (wOp dAdd (wSl (wVP 2) pN (pP (wC (.int 4)))) (wCB dStr (aC (wCall s_take (aC (wV 0) (aC (wC (.int 130)) aN))) aN)))) wNx)
    (wSeq (wIfS (wTB (wOp dEq (wVP 1) (wC (.int 4)))) (wRet (wCall s_sign (aC (wCall s_take (aC (wV 0) (aC (wC (.int 26)) aN))) aN))) wNx)
    (wSeq (wIfS (wTB (wOp dEq (wVP 1) (wC (.int 5)))) (wSeq (wAsg 4 (wL (aC (wC (.str "in")) (aC (wC (.str "box")) (aC (wC (.str "shelf")) (aC (wC (.str "nailed")) (aC (wC (.str "sealed")) (aC (wC (.str "then")) (aC (wC (.str "into")) (aC (wC (.str "not")) (aC (wC (.str "end")) (aC (wC (.str "else")) (aC (wC (.str "like")) (aC (wC (.str "within")) (aC (wC (.str "claim")) aN)))))))))))))))
    (wRet (wCall s_pick (aC (wV 0) (aC (wV 4) aN))))) wNx)
    (wRet (wCall s_name (aC (wV 0) aN))))))))
def s_name_like_by : DS1 := fun ds R => match ds with
  | [.sto, .int m, .str s] => nmB s = true ∧ ∀ t, nmB t = true → R (.str t)
  | _ => False
theorem l_name_like_by : ∀ ds R, s_name_like_by ds R → ds.length = 3 := by
  intro ds R h
  unfold s_name_like_by at h
  split at h
  · rfl
  · exact h.elim
theorem o_name_like_by : Owes 5 (s_name_like_by) (w_name_like_by) := by
  intro ds R h
  unfold s_name_like_by at h
  split at h
  · unfold w_name_like_by
    walk_at "dl"
    rename_i m s
    obtain ⟨h0, h⟩ := h
    simp only [s_take, s_sign, s_pick, s_name]
    have nl := nm_len h0
    have c1 : ∀ k : Nat, (cutS s none (some (k : Int))).cps.toList = s.cps.toList.take k := fun k => by rw [cut_cps, cutG_to]
    have c2 : ∀ k : Nat, (cutS s (some (k : Int)) none).cps.toList = s.cps.toList.drop k := fun k => by rw [cut_cps, cutG_from]
    have l1 : ∀ k : Nat, (cutS s none (some (k : Int))).length = min k s.length := fun k => by rw [len_cps, c1, List.length_take, ← len_cps]
    have l2 : ∀ k : Nat, (cutS s (some (k : Int)) none).length = s.length - k := fun k => by rw [len_cps, c2, List.length_drop, ← len_cps]
    have e1 : (cutS s (some (1 : Int)) none).length = s.length - 1 := l2 1
    have e4 : (cutS s none (some (4 : Int))).length = min 4 s.length := l1 4
    split
    · refine ⟨by omega, by omega, fun r r0 r1 => ?_⟩
      split
      · refine ⟨by decide, fun q q0 q1 => ⟨by omega, by rw [one_len]; omega, h _ ?_⟩⟩
        refine nm_of (c := sg (q % 36).toNat) (cs := s.cps.toList.drop 1) (by rw [app_cps, one_cps]; exact congrArg _ (c2 1)) (sg_let (by omega)) (nm_tail h0 0) ?_
        rw [List.length_drop, ← len_cps]; omega
      · obtain ⟨k, rfl⟩ : ∃ k : Nat, r = (k : Int) := ⟨r.toNat, by omega⟩
        have z1 := l1 k
        have z2 : (cutS s (some ((k : Int) + 1)) none).length = s.length - (k + 1) := l2 (k + 1)
        refine ⟨by omega, by decide, fun q q0 q1 => ⟨by rw [one_len]; omega, by omega, by rw [app_len, one_len]; omega, h _ ?_⟩⟩
        refine nm_ext h0 (k := k) (by omega) (t := sg (q % 36).toNat :: s.cps.toList.drop (k + 1)) ?_ ?_ ?_
        · rw [List.all_cons, sg_lod (show (q % 36).toNat < 36 by omega), nm_tail h0 k]; rfl
        · rw [List.length_cons, List.length_drop, ← len_cps]; omega
        · rw [app_cps, app_cps, c1, one_cps, List.append_assoc]
          rw [show (cutS s (some ((k : Int) + 1)) none).cps.toList = s.cps.toList.drop (k + 1) from c2 (k + 1)]
          rfl
    split
    · refine ⟨by omega, by omega, fun r r0 r1 => ⟨by omega, h _ ?_⟩⟩
      obtain ⟨k, rfl⟩ : ∃ k : Nat, r = (k : Int) := ⟨r.toNat, by omega⟩
      refine nm_ext h0 (k := 1 + k) (by omega) (t := []) rfl ?_ ?_
      · simp only [List.length_nil]; omega
      · rw [List.append_nil]; exact c1 (1 + k)
    split
    · refine ⟨by omega, by decide, fun r r0 r1 => ?_⟩
      obtain ⟨k, rfl⟩ : ∃ k : Nat, r = (k : Int) := ⟨r.toNat, by omega⟩
      obtain ⟨d1, d2⟩ := dig_lod k (by omega)
      refine ⟨by omega, ?_, h _ ?_⟩
      · have d3 : (Str.ofString (toString (k : Int))).length ≤ 3 := d2
        omega
      · refine nm_ext h0 (k := 4) (by decide) (t := (toString (k : Int) : Str).cps.toList) d1 ?_ ?_
        · rw [← len_cps]; omega
        · rw [app_cps]
          exact congrArg (· ++ (toString (k : Int) : Str).cps.toList) (c1 4)
    split
    · refine ⟨by decide, fun r r0 r1 => h _ (nm_of (c := sg (r % 36).toNat) (cs := []) (one_cps _) (sg_let (by omega)) rfl (by decide))⟩
    split
    · refine ⟨by decide, by decide, by decide, fun x hx => ?_⟩
      have ww : ∀ t ∈ (["in", "box", "shelf", "nailed", "sealed", "then", "into", "not", "end", "else", "like", "within", "claim"] : List Str), nmB t = true := by decide +kernel
      have hx' : x ∈ (["in", "box", "shelf", "nailed", "sealed", "then", "into", "not", "end", "else", "like", "within", "claim"] : List Str).map DV.str := hx
      obtain ⟨t, ht, rfl⟩ := List.mem_map.mp hx'
      exact h t (ww t ht)
    · exact h
  · exact h.elim
def w_names_by : WS :=
  (wSeq (wAsg 3 (wCall s_take (aC (wV 0) (aC (wC (.int 6)) aN))))
    (wSeq (wAsg 4 (wCall s_name (aC (wV 0) aN)))
    (wSeq (wAsgO 5 (fL aN))
    (wSeq (wFor (iR1 (aC (wV 1) aN)) (gN 6) (wApp 5 (wCall s_unlike (aC (wCall s_name_like_by (aC (wV 0) (aC (wV 3) (aC (wV 4) aN)))) (aC (wOp dAdd (wCB dList (aC (wVP 2) aN)) (wVP 5)) aN)))))
    (wRet (wV 5))))))
def s_names_by : DS1 := fun ds R => match ds with
  | [.sto, .int m, .lst xs] => 0 ≤ m ∧ m ≤ 12 ∧ xs = [] ∧ ∀ ss : List Str, ss.length = m.toNat → (∀ s ∈ ss, nmB s = true) → R (.lst (ss.map DV.str))
  | _ => False
theorem l_names_by : ∀ ds R, s_names_by ds R → ds.length = 3 := by
  intro ds R h
  unfold s_names_by at h
  split at h
  · rfl
  · exact h.elim
theorem o_names_by : Owes 7 (s_names_by) (w_names_by) := by
  intro ds R h
  unfold s_names_by at h
  split at h
  · unfold w_names_by
    walk_at "dl"
    rename_i m xs
    obtain ⟨h0, h1, rfl, h⟩ := h
    simp only [s_take, s_name]
    refine ⟨by decide, fun r r0 r1 st hst => ⟨by omega, by omega, by omega, ?_⟩⟩
    refine forL_ind (fun i ρ => ∃ (ss : List Str) (v : Sl), ρ = [.dt .sto, .dt (.int m), .dt (.lst []), .dt (.int r), .dt (.str st), .ow (ss.map DV.str), v] ∧ ss.length = i ∧ ∀ s ∈ ss, nmB s = true) ⟨[], _, rfl, rfl, fun _ z => nomatch z⟩ ?_ ?_
    · rintro i x ρ K hx ⟨ss, v, rfl, hl, hs⟩ hK
      obtain ⟨rfl, hi⟩ := intL_at hx
      walk_at "dl"
      simp only [s_name_like_by, s_unlike]
      have lm : (ss.map DV.str).length = i := by rw [List.length_map, hl]
      refine ⟨hst, fun t ht => ⟨by omega, ht, ⟨ss, rfl⟩, by omega, fun u hu => ⟨by omega, hK _ ⟨ss ++ [u], _, by rw [List.map_append]; rfl, by rw [List.length_append, hl]; rfl, fun s hs' => ?_⟩⟩⟩⟩
      rcases List.mem_append.mp hs' with z | z
      · exact hs s z
      · rw [List.mem_singleton.mp z]; exact hu
    · rintro ρ ⟨ss, v, rfl, hl, hs⟩
      rw [intL_len] at hl
      walk_at "dl"
      exact h ss hl hs
  · exact h.elim
def w_shuffled : WS :=
  (wSeq (wAsgO 2 (fList (wVP 1)))
    (wSeq (wAsgO 3 (fL aN))
    (wSeq (wFor (iR1 (aC (wCB dLen (aC (wVP 1) aN)) aN)) (gN 4) (wAppPop 3 2 (wCall s_take (aC (wV 0) (aC (wCB dLen (aC (wVP 2) aN)) aN)))))
    (wRet (wV 3)))))
def s_shuffled : DS1 := fun ds R => match ds with
  | [.sto, .lst xs] => xs.length ≤ 1000 ∧ ∀ ys : List DV, ys.length = xs.length → (∀ y ∈ ys, y ∈ xs) → R (.lst ys)
  | _ => False
theorem l_shuffled : ∀ ds R, s_shuffled ds R → ds.length = 2 := by
  intro ds R h
  unfold s_shuffled at h
  split at h
  · rfl
  · exact h.elim
theorem o_shuffled : Owes 5 (s_shuffled) (w_shuffled) := by
  intro ds R h
  unfold s_shuffled at h
  split at h
  · unfold w_shuffled
    walk_at "dl"
    rename_i xs
    obtain ⟨h0, h⟩ := h
    refine ⟨by omega, by omega, by omega, ?_⟩
    refine forL_ind (fun i ρ => ∃ (rs ys : List DV) (v : Sl), ρ = [.dt .sto, .dt (.lst xs), .ow rs, .ow ys, v] ∧ ys.length = i ∧ rs.length + i = xs.length ∧ (∀ y ∈ rs, y ∈ xs) ∧ ∀ y ∈ ys, y ∈ xs) ⟨xs, [], _, rfl, rfl, rfl, fun _ z => z, fun _ z => nomatch z⟩ ?_ ?_
    · rintro i x ρ K hx ⟨rs, ys, v, rfl, hl, hr, hm, hy⟩ hK
      obtain ⟨rfl, hi⟩ := intL_at hx
      walk_at "dl"
      simp only [s_take]
      refine ⟨by omega, fun r r0 r1 => ?_⟩
      obtain ⟨k, rfl⟩ : ∃ k : Nat, r = (k : Int) := ⟨r.toNat, by omega⟩
      have hk : k < rs.length := by omega
      refine ⟨by decide, by omega, k, rfl, rs[k], List.getElem?_eq_getElem hk, hK _ ⟨_, _, _, rfl, by rw [List.length_append, hl]; rfl, by rw [List.length_eraseIdx_of_lt hk]; omega, fun y z => hm y (List.mem_of_mem_eraseIdx z), fun y z => ?_⟩⟩
      rcases List.mem_append.mp z with z | z
      · exact hy y z
      · rw [List.mem_singleton.mp z]; exact hm _ (List.getElem_mem hk)
    · rintro ρ ⟨rs, ys, v, rfl, hl, hr, hm, hy⟩
      rw [intL_len] at hl
      walk_at "dl"
      exact h ys (by omega) hy
  · exact h.elim
def w_drawn_row : WS :=
  (wSeq (wIfS (wTB (wOp dEq (wCall s_take (aC (wV 0) (aC (wC (.int 16)) aN))) (wC (.int 0)))) (wSeq (wAsg 1 (wF (fLc (iR1 (aC (wC (.int 25)) aN)) (gN 2) wYes (wCall s_name (aC (wV 0) aN)) [2])))
    (wRet (wF (fLc (iR1 (aC (wCall s_number (aC (wV 0) (aC (wC (.int 40)) (aC (wC (.int 998)) aN)))) aN)) (gN 2) wYes (wOp dAdd (wSl (wOp dIx (wVP 1) (wOp dMod (wVP 2) (wC (.int 25)))) pN (pP (wC (.int 7)))) (wCall s_sign (aC (wOp dDiv (wVP 2) (wC (.int 25))) aN))) [2])))) wNx)
    (wSeq (wAsg 3 (wCall s_names_by (aC (wV 0) (aC (wCall s_number (aC (wV 0) (aC (wC (.int 0)) (aC (wC (.int 12)) aN)))) (aC (wL aN) aN)))))
    (wSeq (wAsg 4 (wCall s_number (aC (wV 0) (aC (wC (.int 1)) (aC (wC (.int 24)) aN)))))
    (wCut (wIfS (wTB (wOp dEq (wCall s_take (aC (wV 0) (aC (wC (.int 16)) aN))) (wC (.int 0)))) (wAsg 4 (wC (.int 200))) wNx)
    (wSeq (wIfS (wNot (wTru (wVP 3))) (wRet (wL aN)) wNx)
    (wRet (wF (fLc (iR1 (aC (wV 4) aN)) (gN 2) wYes (wCall s_pick (aC (wV 0) (aC (wV 3) aN))) [2]))))))))
def s_drawn_row : DS1 := fun ds R => match ds with
  | [.sto] => ∀ ss : List Str, ss.length ≤ 998 → (∀ s ∈ ss, nmB s = true) → R (.lst (ss.map DV.str))
  | _ => False
theorem l_drawn_row : ∀ ds R, s_drawn_row ds R → ds.length = 1 := by
  intro ds R h
  unfold s_drawn_row at h
  split at h
  · rfl
  · exact h.elim
theorem o_drawn_row : Owes 5 (s_drawn_row) (w_drawn_row) := by
  intro ds R h
  unfold s_drawn_row at h
  split at h
  · unfold w_drawn_row
    walk_at "dl"
    simp only [s_take]
    refine ⟨by decide, fun r r0 r1 => ?_⟩
    split
    · refine ⟨by decide, by decide, by decide, ?_⟩
      refine lcL_ind (fun i acc => ∃ ss : List Str, acc = ss.map DV.str ∧ ss.length = i ∧ ∀ s ∈ ss, nmB s = true) ⟨[], rfl, rfl, fun _ z => nomatch z⟩ ?_ ?_
      · rintro i x acc K hx ⟨ss, rfl, hl, hs⟩ hK
        obtain ⟨rfl, hi⟩ := intL_at hx
        walk_at "dl"
        simp only [s_name]
        intro s hn
        refine hK _ ⟨ss ++ [s], by rw [List.map_append]; rfl, by rw [List.length_append, hl]; rfl, fun t z => ?_⟩
        rcases List.mem_append.mp z with z | z
        · exact hs t z
        · rw [List.mem_singleton.mp z]; exact hn
      · rintro acc ⟨ss, rfl, hl, hs⟩
        rw [intL_len] at hl
        have hl : ss.length = 25 := hl
        simp only [s_number]
        refine ⟨by decide, fun m m0 m1 => ⟨m, rfl, by omega, by omega, by rw [intL_len]; omega, ?_⟩⟩
        refine lcL_ind (fun i acc => ∃ ts : List Str, acc = ts.map DV.str ∧ ts.length = i ∧ ∀ s ∈ ts, nmB s = true) ⟨[], rfl, rfl, fun _ z => nomatch z⟩ ?_ ?_
        · rintro i x acc K hx ⟨ts, rfl, hl2, hs2⟩ hK
          obtain ⟨rfl, hi⟩ := intL_at hx
          walk_at "dl"
          simp only [s_sign]
          have hj : ((0 + (i : Int)) % 25).toNat < ss.length := by omega
          have hn : nmB ss[((0 + (i : Int)) % 25).toNat] = true := hs _ (List.getElem_mem hj)
          have nl := nm_len hn
          have c7 : (cutS ss[((0 + (i : Int)) % 25).toNat] none (some 7)).cps.toList = ss[((0 + (i : Int)) % 25).toNat].cps.toList.take 7 := by rw [cut_cps, show (some (7 : Int)) = some (((7 : Nat) : Int)) from rfl, cutG_to]
          have l7 : (cutS ss[((0 + (i : Int)) % 25).toNat] none (some 7)).length ≤ 8 := by rw [len_cps, c7, List.length_take, ← len_cps]; omega
          refine ⟨by decide, .str ss[((0 + (i : Int)) % 25).toNat], atI_lit (by omega) (by rw [List.getElem?_map, List.getElem?_eq_getElem hj]; rfl), ?_⟩
          refine ⟨by omega, ⟨by decide, by decide⟩, by rw [one_len]; omega, hK _ ⟨ts ++ [cutS ss[((0 + (i : Int)) % 25).toNat] none (some 7) ++ ⟨#[sg ((0 + (i : Int)) / 25 % 36).toNat]⟩], by rw [List.map_append]; rfl, by rw [List.length_append, hl2]; rfl, fun t z => ?_⟩⟩
          rcases List.mem_append.mp z with z | z
          · exact hs2 t z
          · rw [List.mem_singleton.mp z]
            exact nm_ext hn (k := 7) (by decide) (t := [sg ((0 + (i : Int)) / 25 % 36).toNat]) (by simp only [List.all_cons, List.all_nil, sg_lod (show ((0 + (i : Int)) / 25 % 36).toNat < 36 by omega), Bool.and_true]) (by simp only [List.length_cons, List.length_nil]; omega) (by rw [app_cps, c7, one_cps])
        · rintro acc ⟨ts, rfl, hl2, hs2⟩
          rw [intL_len] at hl2
          exact h ts (by omega) hs2
    · simp only [s_number, s_names_by]
      refine ⟨by decide, fun m m0 m1 => ⟨by decide, by omega, by omega, trivial, fun ss hl hs => ⟨by decide, fun q q0 q1 => ?_⟩⟩⟩
      refine ⟨fun ρ => ∃ n : Int, 1 ≤ n ∧ n ≤ 200 ∧ ρ = [.dt .sto, .un, .un, .dt (.lst (ss.map DV.str)), .dt (.int n)], ?_, ?_⟩
      · walk_at "dl"
        simp only [s_take]
        refine ⟨by decide, fun t t0 t1 => ?_⟩
        split
        · exact ⟨200, by decide, by decide, rfl⟩
        · exact ⟨q, by omega, by omega, rfl⟩
      · rintro ρ ⟨n, n0, n1, rfl⟩
        walk_at "dl"
        split
        · exact ⟨by decide, h [] (by decide) fun _ z => nomatch z⟩
        · rename_i hne
          have hpos : 0 < (ss.map DV.str).length := by
            cases ss with
            | nil => exact absurd rfl hne
            | cons a b => rw [List.length_map, List.length_cons]; omega
          have lm : (ss.map DV.str).length ≤ 1000 := by rw [List.length_map]; omega
          refine ⟨by omega, by omega, by rw [intL_len]; omega, ?_⟩
          refine lcL_ind (fun i acc => ∃ ts : List Str, acc = ts.map DV.str ∧ ts.length = i ∧ ∀ s ∈ ts, nmB s = true) ⟨[], rfl, rfl, fun _ z => nomatch z⟩ ?_ ?_
          · rintro i x acc K hx ⟨ts, rfl, hl2, hs2⟩ hK
            obtain ⟨rfl, hi⟩ := intL_at hx
            walk_at "dl"
            simp only [s_pick]
            refine ⟨hpos, by omega, fun y hy => ?_⟩
            obtain ⟨s, hm, rfl⟩ := List.mem_map.mp hy
            refine hK _ ⟨ts ++ [s], by rw [List.map_append]; rfl, by rw [List.length_append, hl2]; rfl, fun t z => ?_⟩
            rcases List.mem_append.mp z with z | z
            · exact hs2 t z
            · rw [List.mem_singleton.mp z]; exact hs s hm
          · rintro acc ⟨ts, rfl, hl2, hs2⟩
            rw [intL_len] at hl2
            exact h ts (by omega) hs2
  · exact h.elim
def w_taken : WS :=
  (wSeq (wAsg 2 (wCall s_pick (aC (wV 0) (aC (wL (aC (wC (.int 0)) (aC (wC (.int 1)) (aC (wC (.int 9)) (aC (wC (.int 10)) (aC (wC (.int 11)) (aC (wC (.int 12)) (aC (wC (.int 99)) (aC (wC (.int 100)) (aC (wCall s_number (aC (wV 0) (aC (wC (.int 0)) (aC (wC (.int 100)) aN)))) aN)))))))))) aN))))
    (wSeq (wAsgO 3 (fLc (iR1 (aC (wV 2) aN)) (gN 4) wYes (wOp dAdd (wVP 1) (wCB dStr (aC (wVP 4) aN))) [4]))
    (wCut (wIfS (wAnd (wTru (wVP 3)) (wTru (wCall s_edge (aC (wV 0) aN)))) (wPop 3 (wCall s_take (aC (wV 0) (aC (wCB dLen (aC (wVP 3) aN)) aN)))) wNx)
    (wSeq (wAsgO 3 (fCat (wOp dAdd (wVP 3) (wL (aC (wV 1) (aC (wOp dAdd (wVP 1) (wC (.str "00"))) (aC (wC (.str "")) (aC (wOp dAdd (wVP 1) (wCB dStr (aC (wOp dAdd (wVP 2) (wC (.int 1))) aN))) (aC (wOp dAdd (wVP 1) (wC (.str "01"))) (aC (wCall s_not_name (aC (wV 0) aN)) aN)))))))) (wSl (wVP 3) pN (pP (wC (.int 2))))))
    (wRet (wCall s_shuffled (aC (wV 0) (aC (wSl (wVP 3) pN (pP (wC (.int 100)))) aN))))))))
def s_taken : DS1 := fun ds R => match ds with
  | [.sto, .str x] => x.length ≤ 10 ∧ ∀ ss : List Str, ss.length ≤ 100 → (∀ s ∈ ss, s.length ≤ 1000000) → R (.lst (ss.map DV.str))
  | _ => False
theorem l_taken : ∀ ds R, s_taken ds R → ds.length = 2 := by
  intro ds R h
  unfold s_taken at h
  split at h
  · rfl
  · exact h.elim
theorem o_taken : Owes 5 (s_taken) (w_taken) := by
  intro ds R h
  unfold s_taken at h
  split at h
  · unfold w_taken
    walk_at "dl"
    rename_i x
    obtain ⟨h0, h⟩ := h
    simp only [s_number, s_pick]
    refine ⟨by decide, fun r r0 r1 => ⟨by decide, Nat.le_of_ble_eq_true rfl, Nat.le_of_ble_eq_true rfl, fun y hy => ?_⟩⟩
    obtain ⟨j, rfl, j0, j1⟩ : ∃ j : Int, y = .int j ∧ 0 ≤ j ∧ j ≤ 100 := by
      simp only [List.mem_cons, List.not_mem_nil, or_false] at hy
      rcases hy with rfl | rfl | rfl | rfl | rfl | rfl | rfl | rfl | rfl <;> exact ⟨_, rfl, by omega, by omega⟩
    refine ⟨j, rfl, by omega, by omega, by rw [intL_len]; omega, ?_⟩
    refine lcL_ind (fun i acc => ∃ ts : List Str, acc = ts.map DV.str ∧ ts.length = i ∧ ∀ s ∈ ts, s.length ≤ 100) ⟨[], rfl, rfl, fun _ z => nomatch z⟩ ?_ ?_
    · rintro i z acc K hx ⟨ts, rfl, hl, hs⟩ hK
      obtain ⟨rfl, hi⟩ := intL_at hx
      walk_at "dl"
      obtain ⟨d1, d2⟩ := dig_lod i (by omega)
      have e0 : (0 + (i : Int)) = (i : Int) := by omega
      rw [e0]
      refine ⟨by omega, by omega, hK _ ⟨ts ++ [x ++ (toString (i : Int) : Str)], by rw [List.map_append]; rfl, by rw [List.length_append, hl]; rfl, fun t z => ?_⟩⟩
      rcases List.mem_append.mp z with z | z
      · exact hs t z
      · rw [List.mem_singleton.mp z, app_len]; omega
    · rintro acc ⟨ts, rfl, hl, hs⟩
      rw [intL_len] at hl
      refine ⟨fun ρ => ∃ (rs : List Str) (v : Sl), ρ = [.dt .sto, .dt (.str x), .dt (.int j), .ow (rs.map DV.str), v] ∧ rs.length ≤ 100 ∧ ∀ s ∈ rs, s.length ≤ 100, ?_, ?_⟩
      · walk_at "dl"
        simp only [s_edge, s_take]
        have no : ∃ (rs : List Str) (v : Sl), (Sl.ow (ts.map DV.str) = Sl.ow (rs.map DV.str) ∧ Sl.un = v) ∧ rs.length ≤ 100 ∧ ∀ s ∈ rs, s.length ≤ 100 := ⟨ts, _, ⟨rfl, rfl⟩, by omega, hs⟩
        split
        · rename_i hne
          have hpos : 0 < ts.length := by
            cases ts with
            | nil => cases hne
            | cons a b => rw [List.length_cons]; omega
          intro b
          split
          · refine ⟨by rw [List.length_map]; omega, fun q q0 q1 => ?_⟩
            rw [List.length_map] at q1
            obtain ⟨k, rfl⟩ : ∃ k : Nat, q = (k : Int) := ⟨q.toNat, by omega⟩
            have hk : k < ts.length := by omega
            exact ⟨k, rfl, by rw [List.length_map]; exact hk, ts.eraseIdx k, _, ⟨by rw [map_eraseS], rfl⟩, by rw [List.length_eraseIdx_of_lt hk]; omega, fun s z => hs s (List.mem_of_mem_eraseIdx z)⟩
          · exact no
        · exact no
      · rintro ρ ⟨rs, v, rfl, hl2, hs2⟩
        walk_at "dl"
        simp only [s_not_name, s_shuffled]
        obtain ⟨k, rfl⟩ : ∃ k : Nat, j = (k : Int) := ⟨j.toNat, by omega⟩
        have d3 : (Str.ofString (toString ((k : Int) + 1))).length ≤ 3 := (dig_lod (k + 1) (by omega)).2
        refine ⟨by show x.length + 2 ≤ _; omega, by omega, by omega, by show x.length + 2 ≤ _; omega, fun n hn nl => ?_⟩
        have lr : (rs.map DV.str).length = rs.length := List.length_map _
        have l2 : (cutG (rs.map DV.str) none (some 2)).length ≤ rs.length := by rw [← lr]; exact cutG_len _ _ _
        have l100 : ∀ zs : List DV, (cutG zs none (some 100)).length ≤ 100 := fun zs => by
          rw [show (some (100 : Int)) = some (((100 : Nat) : Int)) from rfl, cutG_to, List.length_take]; omega
        have z2 : cutG (rs.map DV.str) none (some 2) = (rs.take 2).map DV.str := by
          rw [show (some (2 : Int)) = some (((2 : Nat) : Int)) from rfl, cutG_to, List.map_take]
        refine ⟨by decide, by omega, by rw [List.length_append]; simp only [List.length_cons, List.length_nil]; omega, Nat.le_trans (l100 _) (by decide), fun ys hy1 hy2 => ?_⟩
        have hmem : ∀ y ∈ ys, y ∈ (rs ++ [x, x ++ Str.ofString "00", Str.ofString "", x ++ Str.ofString (toString ((k : Int) + 1)), x ++ Str.ofString "01", n] ++ rs.take 2).map DV.str := fun y hy => by
          have q := hy2 y hy
          rw [show (some (100 : Int)) = some (((100 : Nat) : Int)) from rfl, cutG_to] at q
          have q := List.mem_of_mem_take q
          rw [z2] at q
          rw [List.map_append, List.map_append]
          exact q
        obtain ⟨ss, rfl, hss⟩ := strs_of_mem hmem
        refine h ss ?_ fun s hs' => ?_
        · rw [List.length_map] at hy1
          rw [hy1]; exact l100 _
        · have q := hss s hs'
          simp only [List.mem_append, List.mem_cons, List.not_mem_nil, or_false] at q
          have o2 : (Str.ofString "00").length = 2 := rfl
          have o3 : (Str.ofString "01").length = 2 := rfl
          have o4 : (Str.ofString "").length = 0 := rfl
          rcases q with (q | rfl | rfl | rfl | rfl | rfl | rfl) | q
          · have := hs2 s q; omega
          · omega
          · rw [app_len]; omega
          · omega
          · rw [app_len]; omega
          · rw [app_len]; omega
          · omega
          · have := hs2 s (List.mem_of_mem_take q); omega
  · exact h.elim
end DL
namespace DL
open PySem PySem.Spec PyProof.Rows L2 NW
local macro_rules | `(tactic| walk_at "dl1") => `(tactic| simp only [wTry, wAsgX, wDropX, wKd, wXf, wSeq, wAsg, wAsgO, wRet, wIfS, wNx, wPass, wBk, wCt, wDrop, wAug, wApp, wAppPop, wPop, wFor, wFz, wV, wVP, atV, atP, atO, wC, wOp, wCall, wCallN, wCB, aC, aN, wL, wTu, fL, wF, fCat, fList, wTB, wTru, wAnd, wOr, wNot, wAndV, wOrV, wNotV, wIf, wChain, wIsN, wNeg, dNeg, wSl, pN, pP, dSl, wLrev, dLrev, wIsi, wIsi2, iL, iT, iV, iS, iR1, iR2, gN, fLc, wYes, wiL,
  dAdd, dSub, dMul, dMulS, dMulL, dDiv, dMod, dLt, dLe, dGt, dGe, dEq, dNe, eqD, dIn, dNi, dIx, dTru, isNon, dLen, dInt, dAbs, dMax, dMin, dList, dTup, dStr, dIAdd, frzE, frz1, startD, List.map_cons, List.map_nil, List.length_cons, List.length_nil, List.replicate_succ, List.replicate_zero, List.cons_append, List.nil_append, List.append_nil, List.getElem?_cons_zero, List.getElem?_cons_succ, List.set_cons_zero, List.set_cons_succ, Nat.reduceSub, Nat.reduceAdd, if_true, if_false, ite_true, ite_false, reduceIte, Bool.false_eq_true, decide_true, decide_false, Bool.not_true, Bool.not_false, Bool.not_eq_true', decide_eq_true_eq, decide_eq_false_iff_not, isi_int_int, isi_int_bool, isi_bl_int, isi_bl_bool, isi_non_int, isi_non_bool, isi_str_int, isi_str_bool, isi_str_str, isi_lst_list, isi_tup_tuple, Option.some.injEq, exists_eq_left', exists_eq_left, DV.int.injEq, DV.str.injEq, DV.bl.injEq, List.cons.injEq, and_true, true_and])
local macro_rules | `(tactic| walk_at "dl") => `(tactic| try walk_at "dl1")
local macro_rules | `(tactic| walk_at "go") => `(tactic| repeat' (first
  | (intro _)
  | walk_at "dl1"
  | (refine ⟨by first | decide | omega, ?_⟩)
  | split))
def w_Pfresh_name (K : PySem.W.Frag) : WS :=
  (wSeq (wIfS (wOr (wNot (wTru (wCall s_Pis_name (aC (wV 1) aN)))) (wTB (wOp dGt (wCB dLen (aC (wVP 1) aN)) (wC (.int 5))))) (wRaise1 K "BadName" "name" (wV 1)) wNx)
    (wSeq (wAsg 2 (wC (.int 0)))
    (wSeq (wWhile (wTB (wOp dIn (wFstr (wV 1) (wV 2)) (wVP 0))) (wAug 2 dIAdd (wC (.int 1))))
    (wRet (wFstr (wV 1) (wV 2))))))
theorem small_len : ∀ k < 2000, (toString ((k : Nat) : Int) : Str).length ≤ 4 := by decide +kernel
/-- the first number that is not there -/
def s_Pfresh_name (K : PySem.W.Frag) : DS2 := fun ds R RX => ∃ (x : Str) (ss : List Str), (ds = [.lst (ss.map DV.str), .str x] ∨ ds = [.tup (ss.map DV.str), .str x]) ∧ x.length ≤ 1000 ∧
  (((nmB x = false ∨ 5 < x.length) ∧ RX (.err (He.ga K "BadName") ["name"] [.str x])) ∨
   (nmB x = true ∧ x.length ≤ 5 ∧ ∃ n : Nat, n ≤ 1000 ∧ (x ++ (toString (n : Int) : Str)) ∉ ss ∧ (∀ j : Nat, j < n → (x ++ (toString (j : Int) : Str)) ∈ ss) ∧ R (.str (x ++ (toString (n : Int) : Str)))))
theorem l_Pfresh_name (K : PySem.W.Frag) : ∀ ds R RX, s_Pfresh_name K ds R RX → ds.length = 2 := by
  intro ds R RX h
  obtain ⟨x, ss, h, _⟩ := h
  rcases h with rfl | rfl <;> rfl
theorem o_Pfresh_name (K : PySem.W.Frag) : OwesX 3 (s_Pfresh_name K) (w_Pfresh_name K) := by
  intro ds R RX h
  obtain ⟨x, ss, hd, hz, h⟩ := h
  have key : ∀ d0 : DV, (d0 = .lst (ss.map DV.str) ∨ d0 = .tup (ss.map DV.str)) → w_Pfresh_name K { nx := fun _ => R .non, rt := R, xc := fun e _ => RX e } [.dt d0, .dt (.str x), .un] := by
    intro d0 hd
    have hin : ∀ (y : Str) (Q : Bool → Prop), Q (decide (y ∈ ss)) → inD (.str y) d0 Q := fun y Q q => by
      rcases hd with rfl | rfl <;> exact ⟨ss, rfl, q⟩
    unfold w_Pfresh_name wRaise1
    walk_at "dl"
    simp only [s_Pis_name]
    refine ⟨by omega, ?_⟩
    rcases h with ⟨hb, hr⟩ | ⟨hn, h5, n, hn1, hno, hyes, hr⟩
    · split
      · exact hr
      · rename_i e
        rcases hb with hb | hb
        · exact absurd hb e
        · exact ⟨by omega, by rw [if_pos (by omega)]; exact hr⟩
    · rw [if_neg (by rw [hn]; decide)]
      refine ⟨by omega, ?_⟩
      rw [if_neg (by omega)]
      refine ⟨fun m ρ => ∃ j : Nat, j ≤ n ∧ m = n - j ∧ ρ = [.dt d0, .dt (.str x), .dt (.int (j : Int))], ⟨n, 0, Nat.zero_le _, rfl, rfl⟩, ?_⟩
      rintro m ρ ⟨j, hj, rfl, rfl⟩
      have hl : (x ++ (toString (j : Int) : Str)).length ≤ 1000000 := by
        have := small_len j (by omega)
        rw [app_len]; omega
      have hlog : (j : Int).natAbs.log2 < 1920 := by
        rw [Int.natAbs_natCast]
        refine Nat.lt_of_le_of_lt (Nat.log2_le_self j) (by omega)
      unfold wFstr
      walk_at "dl"
      simp only [asS, asI]
      refine ⟨by omega, hlog, hl, hin _ _ ?_⟩
      rcases Nat.lt_or_ge j n with z | z
      · rw [if_pos (decide_eq_true (hyes j z))]
        exact ⟨n - (j + 1), by omega, j + 1, z, rfl, rfl⟩
      · obtain rfl : j = n := Nat.le_antisymm hj z
        rw [if_neg (by rw [decide_eq_false hno]; decide)]
        exact ⟨by omega, hlog, hl, hr⟩
  rcases hd with rfl | rfl
  · exact key _ (.inl rfl)
  · exact key _ (.inr rfl)
structure HasKAt (P : Program) (w : World) (K : PySem.W.Frag) (mg : Str → Option Value) (base : Heap) (x : Str) (k : Nat) (ps : List Str) (n : Nat) (ks : List Str) (g : List Value → List Value → List Value) (gV : List V → List V → List V) (sp : Sp) (f : Addr) (fd : FuncData) : Prop where
  gl : mg x = some (.ref f)
  kp : PySem.W.keepIn K (.ref f) = true
  b : KBn K fd ps n ks g gV
  ok : FnOk P w K mg base (L2N.CX P w) k f fd ps sp
def HasK (P : Program) (w : World) (K : PySem.W.Frag) (mg : Str → Option Value) (base : Heap) (x : Str) (k : Nat) (ps : List Str) (n : Nat) (ks : List Str) (gV : List V → List V → List V) (sp : Sp) : Prop := ∃ f fd g, HasKAt P w K mg base x k ps n ks g gV sp f fd
section
variable {X : Cx} {k j n : Nat} {ps ks : List Str} {sp : Sp} {x : Str} {p pos : Pos} {e : Expr} {es : List Expr} {kws : List Keyword} {t tk : TA} {gV : List V → List V → List V}
theorem pe_dcK {E : XK} (h : HasK X.prog X.w X.K X.mg X.base x k ps n ks gV sp) (hr : Room j X.A) (hx : Passes (L2N.CX X.prog X.w) X E) (ha : PA X (e :: es) t) (hkw : PK X kws tk) (hk : k ≤ j := by decide) (hg : Gl X x := by rfl)
    (hall : (backToKw pos (keywordEach kws X.env)).all (·.1.isSome) = true := by rfl) (hks : (backToKw pos (keywordEach kws X.env)).filterMap (·.1) = ks := by rfl)
    (hdb : (x == ("__debug__" : Str)) = false := by decide) (he : starEach (e :: es) X.env = (false, eval e X.env) :: starEach es X.env := by rfl)
    (hpl : ((backTo pos (starEach (e :: es) X.env)).any (·.1) || (backToKw pos (keywordEach kws X.env)).any (·.1.isNone)) = false := by rfl) : PE X (.Call (.Name x p) (e :: es) kws pos) (tCallN n ks.length sp gV E t tk) := by
  obtain ⟨f, fd, g, F⟩ := h
  exact pe_callN F.ok (hr.mono hk) hg F.gl F.kp F.b hx ha hkw hall hks hdb he hpl
/-- where what is let out goes to a suite -/
def tCallNS (n m : Nat) (sp : Sp) (gV : List V → List V → List V) (E : L2.St → XK) (t tk : TA) : TE := fun σ H Q => t σ H fun vs H1 => tk σ H1 fun zs H2 => vs.length = n ∧ zs.length = m ∧ sp (gV vs zs) H2 Q (E σ)
theorem pe_dcKS {E : L2.St → XK} (h : HasK X.prog X.w X.K X.mg X.base x k ps n ks gV sp) (hr : Room j X.A) (hx : ∀ σ, PassesAt (L2N.CX X.prog X.w) X σ (E σ)) (ha : PA X (e :: es) t) (hkw : PK X kws tk) (hk : k ≤ j := by decide) (hg : Gl X x := by rfl)
    (hall : (backToKw pos (keywordEach kws X.env)).all (·.1.isSome) = true := by rfl) (hks : (backToKw pos (keywordEach kws X.env)).filterMap (·.1) = ks := by rfl)
    (hdb : (x == ("__debug__" : Str)) = false := by decide) (he : starEach (e :: es) X.env = (false, eval e X.env) :: starEach es X.env := by rfl)
    (hpl : ((backTo pos (starEach (e :: es) X.env)).any (·.1) || (backToKw pos (keywordEach kws X.env)).any (·.1.isNone)) = false := by rfl) : PE X (.Call (.Name x p) (e :: es) kws pos) (tCallNS n ks.length sp gV E t tk) := by
  obtain ⟨f, fd, g, F⟩ := h
  refine ⟨fun pins s σ H Q I h => ?_⟩
  refine wpAny_Call_Name_kw (ld_glob I hg F.gl ?_ hdb)
  refine PySem.W.callWith_KW (h₀ := X.base) I.ok.mod.kin F.kp hall (thn (ha.run pos pins s σ H _ I h) fun us s1 ⟨vs, H1, I1, r, q⟩ => ?_) hpl he
  refine thn (hkw.run pos pins s1 σ H1 _ I1 q) fun ws s2 ⟨zs, H2, I2, rz, l1, l2, q2⟩ => ⟨I2.kIn, ?_⟩
  rw [hks]
  have r2 := F.b.rel r rz
  refine wpAny_call (codeAny_mono (F.ok.run X.A X.stack s2 H2 ⟨us, ks.zip ws⟩ (g us ws) (gV vs zs) Q (E σ) (hr.mono hk) I2.env0 (F.b.to s2 us ws I2.kIn (r.length.symm.trans l1) (rz.length.symm.trans l2)) r2 q2) fun r s' hq => ?_)
  cases r with
  | error e => exact hx σ pins H2 s2 e s' I2 hq
  | ok fl =>
    cases fl with
    | ret u => exact I2.after hq
    | next => exact False.elim hq
    | brk => exact False.elim hq
    | cont => exact False.elim hq
end
/-- by data: one positional value, one keyword -/
def gCat (vs zs : List V) : List V := vs ++ zs
def wCallK (s : DS2) (r rk : WA) : WE := fun ρ R => r ρ fun ds => rk ρ fun ks => ds.length = 1 ∧ ks.length = 1 ∧ s (ds ++ ks) R fun _ => False
def wDropK (s : DS2) (r rk : WA) : WS := fun E ρ => r ρ fun ds => rk ρ fun ks => ds.length = 1 ∧ ks.length = 1 ∧ s (ds ++ ks) (fun _ => E.nx ρ) fun x => E.xc x ρ
section
variable {X : Cx} {e : Expr} {st : Stmt} {r rk : WA} {Ex : L2.WX} {s : DS2}
theorem dcallK (h : PE X e (tCallN 1 1 (dspX s) gCat E0 (liftA r) (liftA rk))) : PE X e (lift (wCallK s r rk)) := pe_weak h fun σ H Q q => by
  obtain ⟨W, own, ρ, R, o, i, z, f⟩ := q
  refine ⟨W, own, ρ, _, o, i, z, fun ds vs H1 r1 k1 o1 i1 => ⟨W, own, ρ, _, o1, i.mono o k1, r1, fun ks zs H2 r2 k2 o2 i2 => ?_⟩⟩
  obtain ⟨l1, l2, r2⟩ := r2
  exact ⟨by rw [i1.len]; exact l1, by rw [i2.len]; exact l2, W, _, _, _, o2, (i1.mono k2).app i2, r2, f.mono (k1.trans k2), fun _ _ _ _ _ _ z => z.elim⟩
theorem ddropK (h : ∀ te, PE X e te → PS X st (tDrop te)) (he : PE X e (tCallNS 1 1 (dspX s) gCat (L2.WE Ex) (liftA r) (liftA rk))) : PS X st (liftS Ex (wDropK s r rk)) := ps_weak (h _ he) fun D σ H q => by
  obtain ⟨B, own, ρ, E, c, h, d⟩ := q
  refine ⟨B.w own, own, ρ, _, c.ok, c.e, h, fun ds vs H1 r1 k1 o1 i1 => ⟨B.w own, own, ρ, _, o1, c.e.mono c.ok k1, r1, fun ks zs H2 r2 k2 o2 i2 => ?_⟩⟩
  obtain ⟨l1, l2, r2⟩ := r2
  exact ⟨by rw [i1.len]; exact l1, by rw [i2.len]; exact l2, B.w own, _, _, _, o2, (i1.mono k2).app i2, r2, fun x v H3 r3 k3 o3 i3 => d.nx _ _ _ _ r3 (c.mono ((k1.trans k2).trans k3) o3), fx_of c d (k1.trans k2)⟩
end
end DL
namespace DL
open PySem PySem.Spec PyProof.Rows L2 NW
def hasK (ks : List Key) (k : Key) : Bool := ks.any fun k' => decide (k' = k)
theorem hasK_iff {ks : List Key} {k : Key} : hasK ks k = true ↔ k ∈ ks := by
  unfold hasK
  rw [List.any_eq_true]
  constructor
  · rintro ⟨x, hx, e⟩; rw [← of_decide_eq_true e]; exact hx
  · intro h; exact ⟨k, h, decide_eq_true rfl⟩
def putKs (ks : List Key) (k : Key) : List Key := if hasK ks k = true then ks else ks ++ [k]
def putXs (ks : List Key) (xs : List DV) (k : Key) (v : DV) : List DV := if hasK ks k = true then List.zipWith (fun k' x => if k' = k then v else x) ks xs else xs ++ [v]
theorem any_key (kvs : List (Key × V)) (k : Key) : (kvs.any fun kv => decide (kv.1 = k)) = hasK (kvs.map (·.1)) k := by
  unfold hasK
  rw [List.any_map]
  rfl
theorem put_keys (kvs : List (Key × V)) (k : Key) (v : V) : (putK kvs k v).map (·.1) = putKs (kvs.map (·.1)) k := by
  unfold putK putKs
  rw [any_key]
  split
  · rw [List.map_map]
    refine List.map_congr_left fun x _ => ?_
    show (if x.1 = k then (x.1, v) else x).1 = x.1
    split <;> rfl
  · rw [List.map_append]
    rfl
theorem putKs_nodup {ks : List Key} {k : Key} (h : ks.Nodup) : (putKs ks k).Nodup := by
  unfold putKs
  split
  · exact h
  · rename_i n
    rw [List.nodup_append]
    exact ⟨h, List.pairwise_singleton _ _, fun a ha b hb e => n (hasK_iff.mpr (by rw [List.mem_singleton.mp hb] at e; rw [← e]; exact ha))⟩
section
variable {W : Wd} {H : Hp}
theorem iss_zip {k : Key} {v : V} {d : DV} (hv : Is W H v d) : ∀ {kvs : List (Key × V)} {xs : List DV}, Iss W H (kvs.map (·.2)) xs → Iss W H ((kvs.map fun kv => if kv.1 = k then (kv.1, v) else kv).map (·.2)) (List.zipWith (fun k' x => if k' = k then d else x) (kvs.map (·.1)) xs)
  | [], _, h => by cases h; exact .nil
  | p :: kvs, _, h => by
    cases h with
    | cons h1 h2 =>
      refine .cons ?_ (iss_zip hv h2)
      by_cases e : p.1 = k
      · show Is W H (if p.1 = k then (p.1, v) else p).2 (if p.1 = k then d else _)
        rw [if_pos e, if_pos e]; exact hv
      · show Is W H (if p.1 = k then (p.1, v) else p).2 (if p.1 = k then d else _)
        rw [if_neg e, if_neg e]; exact h1
theorem put_iss {kvs : List (Key × V)} {xs : List DV} {k : Key} {v : V} {d : DV} (h : Iss W H (kvs.map (·.2)) xs) (hv : Is W H v d) : Iss W H ((putK kvs k v).map (·.2)) (putXs (kvs.map (·.1)) xs k d) := by
  unfold putK putXs
  rw [any_key]
  split
  · exact iss_zip hv h
  · rw [List.map_append]
    exact h.app (.cons hv .nil)
end
def asK (d : DV) (R : Key → Prop) : Prop := match d with
  | .int i => R (.inl i)
  | .str s => R (.inr s)
  | _ => False
theorem asK_ex {d : DV} {R : Key → Prop} (h : asK d R) : ∃ k, R k ∧ ∀ {W : Wd} {H : Hp} {v : V}, Is W H v d → v = kV k := by
  unfold asK at h
  split at h
  · exact ⟨_, h, fun i => by cases i; rfl⟩
  · exact ⟨_, h, fun i => by cases i; rfl⟩
  · exact h.elim
def atD (R : List Key → List DV → Prop) : Option Sl → Prop
  | some (.od ks xs) => R ks xs
  | _ => False
theorem atD_ex {R : List Key → List DV → Prop} {o : Option Sl} (h : atD R o) : ∃ ks xs, o = some (.od ks xs) ∧ R ks xs := by
  unfold atD at h
  split at h
  · exact ⟨_, _, rfl, h⟩
  · exact h.elim
/-- a dict that is read: one's own, or data -/
def atDR (R : List Key → List DV → Prop) : Option Sl → Prop
  | some (.od ks xs) => R ks xs
  | some (.dt (.dic ks xs)) => R ks xs
  | _ => False
theorem atDR_ex {R : List Key → List DV → Prop} {o : Option Sl} (h : atDR R o) : ∃ ks xs, (o = some (.od ks xs) ∨ o = some (.dt (.dic ks xs))) ∧ R ks xs := by
  unfold atDR at h
  split at h
  · exact ⟨_, _, .inl rfl, h⟩
  · exact ⟨_, _, .inr rfl, h⟩
  · exact h.elim
theorem IsE.dd {W : Wd} {own : Nat → Option Addr} {H : Hp} {σ : L2.St} {ρ : Env} {i : Nat} {ks : List Key} {xs : List DV} (h : IsE W own H σ ρ) (e : ρ[i]? = some (.od ks xs) ∨ ρ[i]? = some (.dt (.dic ks xs))) :
    ∃ p kvs, σ[i]? = some (some (.ref p)) ∧ H p = some (.dK kvs) ∧ kvs.map (·.1) = ks ∧ Iss W H (kvs.map (·.2)) xs := by
  rcases e with e | e
  · obtain ⟨p, kvs, g1, g2, g3, ⟨g4, g6, g7⟩, g5⟩ := h.od i ks xs e
    exact ⟨p, kvs, g2, g3, g6, g5⟩
  · obtain ⟨v, g1, g2⟩ := h.dt i _ e
    cases g2 with
    | dic a1 a2 a3 a4 a5 a6 => exact ⟨_, _, g1, a1, a4, a6⟩
theorem valV_mem {kvs : List (Key × V)} {k : Key} : (valV kvs k).isSome = hasK (kvs.map (·.1)) k := by
  rw [← valV_any, any_key]
section
variable {Ex : L2.WX} {X : Cx} {e a : Expr} {w wk wv : WE} {st : Stmt} {i : Nat}
/-- x = {} -/
def wAsgD (i : Nat) : WS := fun E ρ => E.nx (ρ.set i (.od [] []))
theorem dasgD (i : Nat) (h : PS X st (tAsg tDNewK (gName i))) : PS X st (liftS Ex (wAsgD i)) := ps_weak h fun D σ H q => by
  obtain ⟨B, own, ρ, E, c, h, d⟩ := q
  intro p hp
  exact d.nx _ _ _ _ h (c.setD (kv := []) i hp ⟨Nat.zero_le _, rfl, List.nodup_nil⟩ .nil)
/-- x[k] = v -/
def wPutD (i : Nat) (wk wv : WE) : WS := fun E ρ => atD (fun ks xs => wv ρ fun v => wk ρ fun k => asK k fun kk => ks.length < 1000000 ∧ E.nx (ρ.set i (.od (putKs ks kk) (putXs ks xs kk v)))) ρ[i]?
theorem dputD (i : Nat) (h : PS X st (sDPut (tVar i) (lift wk) (lift wv))) : PS X st (liftS Ex (wPutD i wk wv)) := ps_weak h fun D σ H q => by
  obtain ⟨B, own, ρ, E, c, h, d⟩ := q
  obtain ⟨ks, xs, hx, h⟩ := atD_ex h
  refine ⟨B.w own, own, ρ, _, c.ok, c.e, h, fun dv v H1 r1 k1 o1 i1 => ?_⟩
  obtain ⟨p, kvs, g1, g2, g3, g4, g5⟩ := c.e.od i ks xs hx
  refine ⟨.ref p, g2, B.w own, own, ρ, _, o1, c.e.mono c.ok k1, r1, fun dk u H2 r2 k2 o2 i2 => ?_⟩
  obtain ⟨kk, ⟨hl, r2⟩, ek⟩ := asK_ex r2
  obtain rfl := ek i2
  have c2 := c.mono (k1.trans k2) o2
  obtain ⟨p', kvs', f1, f2, f3, ⟨f4, f6, f7⟩, f5⟩ := c2.e.od i ks xs hx
  rw [g1] at f1; cases f1
  have ll : kvs'.length < 1000000 := by
    rw [← f6, List.length_map] at hl; exact hl
  have hi : Iss (B.w own) H2 ((putK kvs' kk v).map (·.2)) (putXs ks xs kk dv) := by
    have z := put_iss (k := kk) f5 (i1.mono k2)
    rw [f6] at z
    exact z
  refine ⟨p, _, rfl, DPut.k f3 (Nat.lt_of_lt_of_le ll (by decide)), ?_⟩
  exact d.nx own _ _ _ r2 (c2.updD i g1 hx ⟨Nat.le_trans (length_putK _ _ _) ll, by rw [put_keys, f6], putKs_nodup f7⟩ hi)
/-- y in x, y not in x -/
def wInOD (n : Bool) (w : WE) (i : Nat) : WE := fun ρ R => atDR (fun ks _ => w ρ fun d => asK d fun k => R (.bl (if n then !hasK ks k else hasK ks k))) ρ[i]?
theorem in_tr {te : TE} {n : Bool} (ht : ∀ σ H Q, (lift w σ H fun y H1 => tVar i σ H1 fun x H2 => ∃ a o, x = .ref a ∧ DGet H2 a y o ∧ Q (.bl (if n then !o.isSome else o.isSome)) H2) → te σ H Q) : ∀ σ H Q, lift (wInOD n w i) σ H Q → te σ H Q := fun σ H Q q => ht σ H Q (by
  obtain ⟨W, own, ρ, R, o, ie, z, f⟩ := q
  obtain ⟨ks, xs, hx, h⟩ := atDR_ex z
  refine ⟨W, own, ρ, _, o, ie, h, fun d v H1 r1 k1 o1 i1 => ?_⟩
  obtain ⟨k, r1, ek⟩ := asK_ex r1
  obtain rfl := ek i1
  obtain ⟨p, kvs, g2, g3, g6, g5⟩ := (ie.mono o k1).dd hx
  refine ⟨.ref p, g2, p, _, rfl, .inl ⟨kvs, k, .inl g3, rfl, rfl⟩, ?_⟩
  rw [valV_mem, g6]
  exact f _ _ _ r1 k1 o1 (.bl _))
/-- len(x) -/
def wLenOD (i : Nat) : WE := fun ρ R => atDR (fun ks _ => R (.int (ks.length : Nat))) ρ[i]?
theorem dlenOD (h : PE X e (tCB (fun xs H Q => ∃ a kvs, xs = [V.ref a] ∧ H a = some (.dK kvs) ∧ Q (.int kvs.length) H) (tCons (tVar i) tNil))) : PE X e (lift (wLenOD i)) := pe_weak h fun σ H Q q => by
  obtain ⟨W, own, ρ, R, o, ie, z, f⟩ := q
  obtain ⟨ks, xs, hx, h⟩ := atDR_ex z
  obtain ⟨p, kvs, g2, g3, g6, g5⟩ := ie.dd hx
  refine ⟨.ref p, g2, p, kvs, rfl, g3, ?_⟩
  rw [← g6, List.length_map] at h
  exact f _ _ _ h (Kp.refl _ _) o (.int _)
theorem hu_of {k : Nat} {A : Around} (h : Room k A) : A.units + 1 < cLine := by have := h.un; omega
end
end DL
namespace DL
open PySem PySem.Spec PyProof.Rows L2 NW
section
variable {X : Cx} {e a : Expr} {w : WE} {i : Nat} {r : WA} {kws : List Keyword} {nm : Option Str} {kpos : Pos}
theorem dtOD {n : Bool} {te : TE} (hw : ∀ σ H Q, lift (wInOD n w i) σ H Q → te σ H Q) (h : PT X e (tB te)) : PT X e (liftT (wTB (wInOD n w i))) := pt_weak h fun σ H Q q => hw σ H _ (by
  obtain ⟨W, own, ρ, R, o, i, z, f⟩ := q
  refine ⟨W, own, ρ, _, o, i, z, fun d v H' r k o' i' => ?_⟩
  split at r
  · cases i'
    exact ⟨_, rfl, f _ _ r k o'⟩
  · exact r.elim)
theorem dtninOD (h : PT X e (tB (tDNotIn (lift w) (tVar i)))) : PT X e (liftT (wTB (wInOD true w i))) := dtOD (in_tr (n := true) fun _ _ _ z => z) h
theorem pk_weak {t t' : TA} (h : PK X kws t) (w : ∀ σ H Q, t' σ H Q → t σ H Q) : PK X kws t' := ⟨fun p pins s σ H Q I q => h.run p pins s σ H Q I (w σ H Q q)⟩
theorem dkn : PK X [] (liftA aN) := pk_weak pk_nil fun σ H Q q => by
  obtain ⟨W, own, ρ, R, o, _, r, f⟩ := q
  exact f _ _ _ r (Kp.refl _ _) o .nil
theorem dkc (ha : PE X e (lift w)) (hr : PK X kws (liftA r)) : PK X (⟨nm, e, kpos⟩ :: kws) (liftA (aC w r)) := pk_weak (pk_cons ha hr) fun σ H Q q => by
  obtain ⟨W, own, ρ, R, o, i, z, f⟩ := q
  refine ⟨W, own, ρ, _, o, i, z, fun d v H1 r1 k1 o1 i1 => ⟨W, own, ρ, _, o1, i.mono o k1, r1, fun ds vs H2 r2 k2 o2 i2 => ?_⟩⟩
  exact f _ _ _ r2 (k1.trans k2) o2 (.cons (i1.mono k2) i2)
end
structure HasDAt (P : Program) (w : World) (K : PySem.W.Frag) (mg : Str → Option Value) (base : Heap) (x : Str) (k : Nat) (ps : List Str) (dvs : List V) (sp : Sp) (f : Addr) (fd : FuncData) (ds : List Value) : Prop where
  gl : mg x = some (.ref f)
  kp : PySem.W.keepIn K (.ref f) = true
  v : Vals dvs ds
  b : Binds K fd ps ds
  ok : FnOk P w K mg base (L2N.CX P w) k f fd ps sp
def HasD (P : Program) (w : World) (K : PySem.W.Frag) (mg : Str → Option Value) (base : Heap) (x : Str) (k : Nat) (ps : List Str) (dvs : List V) (sp : Sp) : Prop := ∃ f fd ds, HasDAt P w K mg base x k ps dvs sp f fd ds
section
variable {X : Cx} {k j : Nat} {ps : List Str} {dvs : List V} {sp : Sp} {x : Str} {p pos : Pos} {e : Expr} {es : List Expr} {t : TA}
theorem pe_dcD (h : HasD X.prog X.w X.K X.mg X.base x k ps dvs sp) (hr : Room j X.A) (ha : PA X (e :: es) t) (hk : k ≤ j := by decide) (hg : Gl X x := by rfl) (hdb : (x == ("__debug__" : Str)) = false := by decide)
    (he : starEach (e :: es) X.env = (false, eval e X.env) :: starEach es X.env := by rfl) (hpl : (backTo pos (starEach es X.env)).any (·.1) = false := by rfl) : PE X (.Call (.Name x p) (e :: es) [] pos) (tCall sp dvs E0 t) := by
  obtain ⟨f, fd, ds, F⟩ := h
  exact pe_call F.ok (hr.mono hk) hg F.gl F.kp F.b F.v passN ha hdb he hpl
end
section
variable {X : Cx} {e : Expr} {r : WA} {s : DS2}
def wCallD (s : DS2) (dd : List DV) (r : WA) : WE := fun ρ R => r ρ fun ds => s (ds ++ dd) R fun _ => False
theorem dcallD {dvs : List V} {dd : List DV} (hi : ∀ W H, Iss W H dvs dd) (h : PE X e (tCall (dspX s) dvs E0 (liftA r))) : PE X e (lift (wCallD s dd r)) := pe_weak h fun σ H Q q => by
  obtain ⟨W, own, ρ, R, o, i, z, f⟩ := q
  refine ⟨W, own, ρ, _, o, i, z, fun ds vs H1 r1 k1 o1 i1 => ⟨W, _, _, _, o1, i1.app (hi W H1), r1, f.mono k1, fun _ _ _ _ _ _ z => z.elim⟩⟩
end
def W0of (W : Wd) (own : Nat → Option Addr) : Wd := ⟨W.st, fun a => W.hid a ∧ ¬ ∃ i : Nat, own i = some a⟩
theorem w0of_sub {W : Wd} {own : Nat → Option Addr} : ∀ a, (W0of W own).hid a → W.hid a := fun _ h => h.1
theorem isE_all {W : Wd} {own : Nat → Option Addr} {H : Hp} {σ : L2.St} {ρ : Env} (o : W.Ok H) (h : IsE W own H σ ρ) : IsE (W0of W own) (fun _ => none) H σ (frzE ρ) := by
  have okA : ∀ i a, own i = some a → (W0of W own).ok a := fun i a e => ⟨(o.h a (h.hd i a e)).2, fun z => z.2 ⟨i, e⟩⟩
  refine ⟨?_, fun i d e => ?_, fun i xs e => ?_, fun i ks xs e => ?_, fun i C ns xs e => ?_, fun _ _ z => nomatch z⟩
  · unfold frzE; rw [List.length_map]; exact h.len
  · unfold frzE at e
    rw [List.getElem?_map] at e
    cases z : ρ[i]? with
    | none => rw [z] at e; cases e
    | some s =>
      rw [z] at e
      have e : frz1 s = .dt d := Option.some.inj e
      cases s with
      | un => cases e
      | dt d' =>
        cases e
        obtain ⟨v, h1, h2⟩ := h.dt i d z
        exact ⟨v, h1, Is.less (W := W) (W' := W0of W own) rfl w0of_sub h2⟩
      | ow xs =>
        cases e
        obtain ⟨a, vs, h1, h2, h3, h4, h5⟩ := h.ow i xs z
        exact ⟨_, h2, .lst h3 (okA i a h1) h4 (Iss.less (W := W) (W' := W0of W own) rfl w0of_sub h5)⟩
      | od ks xs =>
        cases e
        obtain ⟨a, kvs, h1, h2, h3, h4, h5⟩ := h.od i ks xs z
        exact ⟨_, h2, .dic h3 (okA i a h1) h4.1 h4.2.1 h4.2.2 (Iss.less (W := W) (W' := W0of W own) rfl w0of_sub h5)⟩
      | oi C ns xs =>
        cases e
        obtain ⟨a, fs, h1, h2, ⟨dx, h3⟩, h4, h5⟩ := h.oi i C ns xs z
        exact ⟨_, h2, .obj h3 (okA i a h1) h4.2.1 (Iss.less (W := W) (W' := W0of W own) rfl w0of_sub h5)⟩
  · unfold frzE at e
    rw [List.getElem?_map] at e
    cases z : ρ[i]? with
    | none => rw [z] at e; cases e
    | some s =>
      rw [z] at e
      cases s <;> cases (Option.some.inj e)
  · unfold frzE at e
    rw [List.getElem?_map] at e
    cases z : ρ[i]? with
    | none => rw [z] at e; cases e
    | some s =>
      rw [z] at e
      cases s <;> cases (Option.some.inj e)
  · unfold frzE at e
    rw [List.getElem?_map] at e
    cases z : ρ[i]? with
    | none => rw [z] at e; cases e
    | some s =>
      rw [z] at e
      cases s <;> cases (Option.some.inj e)
theorem ok_keep {W : Wd} {H H' : Hp} (o : W.Ok H) (k : Kp W.st H H') (s : StoW W.st H') : W.Ok H' := ⟨s, fun a ha => by
  obtain ⟨⟨u, hu⟩, n⟩ := o.h a ha
  exact ⟨⟨u, k.o hu n⟩, n⟩⟩
def wCallB (s : DS1) (r : WA) : WE := fun ρ R => r (frzE ρ) fun ds => s ds fun d => ∃ b, d = .bl b ∧ R (.bl b)
section
variable {X : Cx} {e : Expr} {r : WA} {s : DS1}
theorem dcallB (h : PE X e (tCall (dsp s) [] E0 (liftA r))) : PE X e (lift (wCallB s r)) := pe_weak h fun σ H Q q => by
  obtain ⟨W, own, ρ, R, o, i, z, f⟩ := q
  refine ⟨W0of W own, fun _ => none, frzE ρ, _, ok_less (W := W) (W' := W0of W own) rfl w0of_sub o, isE_all o i, z, fun ds vs H1 r1 k1 o1 i1 => ?_⟩
  show dsp s (vs ++ []) H1 Q E0
  rw [List.append_nil]
  refine ⟨W0of W own, ds, _, o1, i1, r1, fun d v H2 r2 k2 o2 i2 => ?_⟩
  obtain ⟨b, rfl, r2⟩ := r2
  cases i2
  exact f _ _ H2 r2 (k1.trans k2) (ok_keep o (k1.trans k2) o2.s) (.bl b)
end
end DL
namespace DL
open PySem PySem.Spec PyProof.Rows L2 NW
local macro_rules | `(tactic| walk_at "dl1") => `(tactic| simp only [wAsgD, wPutD, atD, atDR, asK, wInOD, wLenOD, fCallN, wCallB, wCallK, wCallD, wDropK, frzE, frz1, wTry, wAsgX, wDropX, wKd, wXf, wSeq, wAsg, wAsgO, wRet, wIfS, wNx, wPass, wBk, wCt, wDrop, wAug, wApp, wAppPop, wPop, wFor, wFz, wV, wVP, atV, atP, atO, wC, wOp, wCall, wCallN, wCB, aC, aN, wL, wTu, fL, wF, fCat, fList, wTB, wTru, wAnd, wOr, wNot, wAndV, wOrV, wNotV, wIf, wChain, wIsN, wNeg, dNeg, wSl, pN, pP, dSl, wLrev, dLrev, wIsi, wIsi2, iL, iT, iV, iS, iR1, iR2, gN, fLc, wYes, wiL,
  dAdd, dSub, dMul, dMulS, dMulL, dDiv, dMod, dLt, dLe, dGt, dGe, dEq, dNe, eqD, dIn, dNi, dIx, dTru, isNon, dLen, dInt, dAbs, dMax, dMin, dList, dTup, dStr, dIAdd, frzE, frz1, startD, List.map_cons, List.map_nil, List.length_cons, List.length_nil, List.replicate_succ, List.replicate_zero, List.cons_append, List.nil_append, List.append_nil, List.getElem?_cons_zero, List.getElem?_cons_succ, List.set_cons_zero, List.set_cons_succ, Nat.reduceSub, Nat.reduceAdd, if_true, if_false, ite_true, ite_false, reduceIte, Bool.false_eq_true, decide_true, decide_false, Bool.not_true, Bool.not_false, Bool.not_eq_true', decide_eq_true_eq, decide_eq_false_iff_not, isi_int_int, isi_int_bool, isi_bl_int, isi_bl_bool, isi_non_int, isi_non_bool, isi_str_int, isi_str_bool, isi_str_str, isi_lst_list, isi_tup_tuple, Option.some.injEq, exists_eq_left', exists_eq_left, DV.int.injEq, DV.str.injEq, DV.bl.injEq, List.cons.injEq, and_true, true_and])
local macro_rules | `(tactic| walk_at "dl") => `(tactic| try walk_at "dl1")
local macro_rules | `(tactic| walk_at "go") => `(tactic| repeat' (first
  | (intro _)
  | walk_at "dl1"
  | (refine ⟨by first | decide | omega, ?_⟩)
  | split))
theorem hasK_str {ss : List Str} {x : Str} : hasK (ss.map Sum.inr) (.inr x) = decide (x ∈ ss) := by
  rw [Bool.eq_iff_iff, hasK_iff, decide_eq_true_eq, List.mem_map]
  constructor
  · rintro ⟨y, hy, e⟩; cases e; exact hy
  · intro h; exact ⟨x, h, rfl⟩
theorem putKs_str (ss : List Str) (x : Str) : putKs (ss.map Sum.inr) (.inr x) = (if x ∈ ss then ss else ss ++ [x]).map Sum.inr := by
  unfold putKs
  rw [hasK_str]
  by_cases h : x ∈ ss
  · rw [if_pos h, if_pos (decide_eq_true h)]
  · rw [if_neg h, if_neg (by rw [decide_eq_false h]; decide), List.map_append]
    rfl
theorem nodup_len {a b : List Str} (ha : a.Nodup) (hb : b.Nodup) (h : ∀ x, x ∈ a ↔ x ∈ b) : a.length = b.length := ((List.perm_ext_iff_of_nodup ha hb).mpr h).length_eq
def w_is_sorted : WS :=
  (wSeq (wIfS (wNot (wTru (wIsi "list" (wVP 0)))) (wRet (wC (.bl false))) wNx)
    (wSeq (wAsgD 2)
    (wSeq (wFor (iL (wV 1)) (gN 3) (wPutD 2 (wV 3) (wC (.int 1))))
    (wSeq (wFor (iR1 (aC (wCB dLen (aC (wVP 0) aN)) aN)) (gN 4) (wIfS (wOr (wNot (wTru (wIsi "str" (wOp dIx (wVP 0) (wVP 4))))) (wOr (wTB (wInOD true (wOp dIx (wVP 0) (wVP 4)) 2)) (wAnd (wTB (wOp dGt (wVP 4) (wC (.int 0)))) (wTB (wOp dGe (wOp dIx (wVP 0) (wOp dSub (wVP 4) (wC (.int 1)))) (wOp dIx (wVP 0) (wVP 4))))))) (wRet (wC (.bl false))) wNx))
    (wRet (wOp dEq (wCB dLen (aC (wVP 0) aN)) (wLenOD 2)))))))
def s_is_sorted : DS1 := fun ds R => match ds with
  | [.lst xs, .lst ys] => ∃ ts rs : List Str, xs = ts.map DV.str ∧ ys = rs.map DV.str ∧ ts.length ≤ 2000 ∧ rs.length ≤ 2000 ∧ ts.Nodup ∧ (∀ x, x ∈ ts ↔ x ∈ rs) ∧ (∀ k a b, ts[k]? = some a → ts[k + 1]? = some b → a.cps.toList < b.cps.toList) ∧ R (.bl true)
  | _ => False
theorem l_is_sorted : ∀ ds R, s_is_sorted ds R → ds.length = 2 := by
  intro ds R h
  unfold s_is_sorted at h
  split at h
  · rfl
  · exact h.elim
theorem o_is_sorted : Owes 5 (s_is_sorted) (w_is_sorted) := by
  intro ds R h
  unfold s_is_sorted at h
  split at h
  · unfold w_is_sorted
    walk_at "dl"
    obtain ⟨ts, rs, rfl, rfl, h1, h2, h3, h4, h5, h⟩ := h
    rw [if_neg (by decide)]
    refine ⟨_, rfl, ?_⟩
    refine forL_ind (fun i ρ => ∃ (ss : List Str) (ys : List DV) (v : Sl), ρ = [.dt (.lst (ts.map DV.str)), .dt (.lst (rs.map DV.str)), .od (ss.map Sum.inr) ys, v, .un] ∧ ss.Nodup ∧ (∀ x, x ∈ ss ↔ x ∈ rs.take i) ∧ ss.length ≤ i) ⟨[], [], _, rfl, List.nodup_nil, (fun x => by rw [List.take_zero]), Nat.le_refl _⟩ ?_ ?_
    · rintro i x ρ K hx ⟨ss, ys, v, rfl, hn, hm, hl⟩ hK
      rw [List.getElem?_map] at hx
      cases e : rs[i]? with
      | none => rw [e] at hx; cases hx
      | some s =>
        rw [e] at hx
        cases hx
        have hi : i < rs.length := (List.getElem?_eq_some_iff.mp e).1
        walk_at "dl"
        refine ⟨by rw [List.length_map]; omega, hK _ ⟨if s ∈ ss then ss else ss ++ [s], _, _, by rw [putKs_str], ?_, ?_, ?_⟩⟩
        · split
          · exact hn
          · rename_i z
            rw [List.nodup_append]
            exact ⟨hn, List.pairwise_singleton _ _, fun a ha b hb ee => z (by rw [List.mem_singleton.mp hb] at ee; rw [← ee]; exact ha)⟩
        · intro x
          rw [List.take_add_one, e]
          split
          · rename_i z
            rw [hm x, List.mem_append]
            refine ⟨.inl, fun q => q.elim id fun q => ?_⟩
            rw [List.mem_singleton.mp q]; exact (hm s).mp z
          · rw [List.mem_append, List.mem_append, hm x]
            rfl
        · split
          · omega
          · rw [List.length_append]; simp only [List.length_cons, List.length_nil]; omega
    · rintro ρ ⟨ss, ys, v, rfl, hn, hm, hl⟩
      rw [List.length_map, List.take_length] at hm
      walk_at "dl"
      have lt : (ts.map DV.str).length = ts.length := List.length_map _
      refine ⟨by omega, by omega, ?_⟩
      refine forL_ind (fun i ρ => ∃ v w : Sl, ρ = [.dt (.lst (ts.map DV.str)), .dt (.lst (rs.map DV.str)), .od (ss.map Sum.inr) ys, v, w]) ⟨_, _, rfl⟩ ?_ ?_
      · rintro i x ρ K hx ⟨v, w, rfl⟩ hK
        obtain ⟨rfl, hi⟩ := intL_at hx
        have hi : i < ts.length := by omega
        have e0 : (0 + (i : Int)) = (i : Int) := by omega
        rw [e0]
        walk_at "dl"
        have e1 : (ts.map DV.str)[i]? = some (.str ts[i]) := by rw [List.getElem?_map, List.getElem?_eq_getElem hi]; rfl
        have hk : hasK (ss.map Sum.inr) (.inr ts[i]) = true := by rw [hasK_str, decide_eq_true ((hm _).mpr ((h4 _).mp (List.getElem_mem hi)))]
        refine ⟨_, atI_nat e1, ?_⟩
        walk_at "dl"
        refine ⟨_, atI_nat e1, ?_⟩
        walk_at "dl"
        rw [if_neg (by rw [hk]; decide)]
        split
        · have hi1 : i - 1 < ts.length := by omega
          have e2 : (ts.map DV.str)[i - 1]? = some (.str ts[i - 1]) := by rw [List.getElem?_map, List.getElem?_eq_getElem hi1]; rfl
          have e3 : (i : Int) - 1 = ((i - 1 : Nat) : Int) := by omega
          have hlt : ltS ts[i - 1] ts[i] = true := by
            unfold ltS
            refine decide_eq_true (h5 (i - 1) _ _ (List.getElem?_eq_getElem hi1) ?_)
            rw [show i - 1 + 1 = i by omega]
            exact List.getElem?_eq_getElem hi
          refine ⟨.str ts[i - 1], by rw [e3]; exact atI_nat e2, _, atI_nat e1, ?_⟩
          show (if ltS ts[i - 1] ts[i] = false then R (.bl false) else _)
          rw [if_neg (by rw [hlt]; decide)]
          exact hK _ ⟨_, _, rfl⟩
        · exact hK _ ⟨_, _, rfl⟩
      · rintro ρ ⟨v, w, rfl⟩
        walk_at "dl"
        have q := nodup_len h3 hn fun x => (h4 x).trans (hm x).symm
        rw [List.length_map, List.length_map, q, decide_eq_true rfl]
        exact h
  · exact h.elim
theorem insS_nodup {ks : List Str} {k : Str} (h : ks.Nodup) : (DS.insS ks k).Nodup := by
  unfold DS.insS
  split
  · exact h
  · rename_i z
    exact List.nodup_cons.mpr ⟨z, h⟩
theorem foldS_nodup : ∀ (xs ks : List Str), ks.Nodup → (xs.foldl DS.insS ks).Nodup
  | [], _, h => h
  | x :: xs, ks, h => foldS_nodup xs _ (insS_nodup h)
theorem metS_nodup (xs : List Str) : (DS.metS xs).Nodup := foldS_nodup xs [] List.nodup_nil
def leS (a b : Str) : Prop := a.cps.toList ≤ b.cps.toList
theorem leS_trans {a b c : Str} (h : leS a b) (g : leS b c) : leS a c := List.le_trans h g
theorem leS_anti {a b : Str} (h : leS a b) (g : leS b a) : a = b := Str.ext' (List.le_antisymm h g)
theorem rising_pw : ∀ (r : List Str) (p : Str), risingS p r = true → (p :: r).Pairwise leS
  | [], p, _ => List.pairwise_singleton _ _
  | x :: r, p, h => by
    unfold risingS at h
    rw [Bool.and_eq_true, Bool.not_eq_true', ltCps_eq, decide_eq_false_iff_not] at h
    have ih := rising_pw r x h.2
    have hx : leS p x := List.not_lt.mp h.1
    refine List.pairwise_cons.mpr ⟨fun y hy => ?_, ih⟩
    rcases List.mem_cons.mp hy with rfl | hy
    · exact hx
    · exact leS_trans hx ((List.pairwise_cons.mp ih).1 y hy)
theorem sorted_pw : ∀ {r : List Str}, sortedS r = true → r.Pairwise leS
  | [], _ => List.Pairwise.nil
  | x :: r, h => rising_pw r x h
theorem sorted_one {a b : List Str} (ha : sortedS a = true) (hb : sortedS b = true) (p : a.Perm b) : a = b := p.eq_of_pairwise (fun _ _ _ _ => leS_anti) (sorted_pw ha) (sorted_pw hb)
theorem sorted_lt {a : List Str} (ha : sortedS a = true) (hn : a.Nodup) {k : Nat} {x y : Str} (hx : a[k]? = some x) (hy : a[k + 1]? = some y) : x.cps.toList < y.cps.toList := by
  obtain ⟨h1, e1⟩ := List.getElem?_eq_some_iff.mp hx
  obtain ⟨h2, e2⟩ := List.getElem?_eq_some_iff.mp hy
  have l : leS x y := by rw [← e1, ← e2]; exact List.pairwise_iff_getElem.mp (sorted_pw ha) k (k + 1) h1 h2 (Nat.lt_succ_self k)
  have n : x ≠ y := by rw [← e1, ← e2]; exact List.pairwise_iff_getElem.mp hn k (k + 1) h1 h2 (Nat.lt_succ_self k)
  refine Classical.byContradiction fun z => n (leS_anti l (List.not_lt.mp z))
theorem s_ord {K : PySem.W.Frag} {rs : List Str} {d : DV} {F : List DV → Prop} {G : DV → Prop} (hd : d = .lst (rs.map DV.str) ∨ d = .tup (rs.map DV.str)) (h1 : rs.length ≤ 1000) (h2 : ∀ s ∈ rs, nmB s = true) (h : ∀ ys : List Str, ys.Perm (DS.metS rs) → sortedS ys = true → F (ys.map DV.str)) : s_Pordered K [d] F G := by
  refine ⟨rs, hd.imp (fun e => by rw [e]) (fun e => by rw [e]), by omega, fun s hs => by have := nm_len (h2 s hs); omega, fun _ ys p so => h ys p so, fun i s e hn _ => ?_⟩
  rw [h2 s (List.mem_of_getElem? e)] at hn
  cases hn
def w_sorts (K : PySem.W.Frag) : WS :=
  (wSeq (wAsg 2 (wCall s_row_of (aC (wV 0) (aC (wV 1) aN))))
    (wSeq (wAsgO 3 (fCallN (s_Pordered K) (aC (wV 2) aN)))
    (wSeq (wIfS (wNot (wTru (wCallB s_is_sorted (aC (wV 3) (aC (wV 1) aN))))) (wRet (wC (.bl false))) wNx)
    (wSeq (wAsg 4 (wCB dList (aC (wVP 3) aN)))
    (wSeq (wApp 3 (wC (.str "a")))
    (wSeq (wIfS (wNot (wTru (wCall (s_same 3) (aC (wCB dList (aC (wVP 2) aN)) (aC (wCB dList (aC (wVP 1) aN)) aN))))) (wRet (wC (.bl false))) wNx)
    (wRet (wCall (s_same 3) (aC (wF (fCallN (s_Pordered K) (aC (wCB dList (aC (wVP 1) aN)) aN))) (aC (wV 4) aN))))))))))
def s_sorts (K : PySem.W.Frag) : DS1 := fun ds R => match ds with
  | [.sto, .lst xs] => ∃ rs : List Str, xs = rs.map DV.str ∧ rs.length ≤ 998 ∧ (∀ s ∈ rs, nmB s = true) ∧ R (.bl true)
  | _ => False
theorem l_sorts (K : PySem.W.Frag) : ∀ ds R, s_sorts K ds R → ds.length = 2 := by
  intro ds R h
  unfold s_sorts at h
  split at h
  · rfl
  · exact h.elim
theorem o_sorts (K : PySem.W.Frag) : Owes 5 (s_sorts K) (w_sorts K) := by
  intro ds R h
  unfold s_sorts at h
  split at h
  · unfold w_sorts
    walk_at "dl"
    obtain ⟨rs, rfl, h1, h2, h⟩ := h
    simp only [s_row_of]
    simp only [s_same]
    walk_at "dl"
    have key : ∀ (d : DV) (G : Bool → Prop), (d = .lst (rs.map DV.str) ∨ d = .tup (rs.map DV.str)) → s_Pordered K [d]
        (fun xs => s_is_sorted [.lst xs, .lst (rs.map DV.str)] fun d => ∃ b, d = .bl b ∧ if b = false then R (.bl false) else xs.length < 1000000 ∧ flD (3 - 1) (.lst (rs.map DV.str)) ∧ s_Pordered K [.lst (rs.map DV.str)] (fun xs_1 => DV.lst xs_1 = DV.lst xs ∧ flD (3 - 1) (.lst xs_1) ∧ R (.bl true)) fun _ => False) fun _ => False := by
      intro d G hd
      refine s_ord hd (by omega) h2 fun ys p so => ?_
      have hn : ys.Nodup := p.nodup_iff.mpr (metS_nodup rs)
      have hl : ys.length ≤ 998 := by rw [p.length_eq]; exact Nat.le_trans (metS_le rs) h1
      refine ⟨ys, rs, rfl, rfl, by omega, by omega, hn, fun x => (p.mem_iff).trans (DS.metS_mem rs x), fun k a b ha hb => sorted_lt so hn ha hb, true, rfl, ?_⟩
      rw [if_neg (by decide)]
      refine ⟨by rw [List.length_map]; omega, fl_strs 1 _, s_ord (.inl rfl) (by omega) h2 fun zs q sz => ?_⟩
      have e : zs = ys := sorted_one sz so (q.trans p.symm)
      rw [e]
      exact ⟨rfl, fl_strs 1 _, h⟩
    have a1 : (rs.map DV.str).length ≤ 1000000 := by rw [List.length_map]; omega
    exact ⟨a1, key _ (fun _ => True) (.inl rfl), key _ (fun _ => True) (.inr rfl)⟩
  · exact h.elim
end DL
namespace DL
open PySem PySem.Spec PyProof.Rows L2 NW
local macro_rules | `(tactic| walk_at "dl1") => `(tactic| simp only [wAsgD, wPutD, atD, atDR, asK, wInOD, wLenOD, fCallN, wCallB, wCallK, wCallD, wDropK, frzE, frz1, wTry, wAsgX, wDropX, wKd, wXf, wSeq, wAsg, wAsgO, wRet, wIfS, wNx, wPass, wBk, wCt, wDrop, wAug, wApp, wAppPop, wPop, wFor, wFz, wV, wVP, atV, atP, atO, wC, wOp, wCall, wCallN, wCB, aC, aN, wL, wTu, fL, wF, fCat, fList, wTB, wTru, wAnd, wOr, wNot, wAndV, wOrV, wNotV, wIf, wChain, wIsN, wNeg, dNeg, wSl, pN, pP, dSl, wLrev, dLrev, wIsi, wIsi2, iL, iT, iV, iS, iR1, iR2, gN, fLc, wYes, wiL,
  dAdd, dSub, dMul, dMulS, dMulL, dDiv, dMod, dLt, dLe, dGt, dGe, dEq, dNe, eqD, dIn, dNi, dIx, dTru, isNon, dLen, dInt, dAbs, dMax, dMin, dList, dTup, dStr, dIAdd, frzE, frz1, startD, List.map_cons, List.map_nil, List.length_cons, List.length_nil, List.replicate_succ, List.replicate_zero, List.cons_append, List.nil_append, List.append_nil, List.getElem?_cons_zero, List.getElem?_cons_succ, List.set_cons_zero, List.set_cons_succ, Nat.reduceSub, Nat.reduceAdd, if_true, if_false, ite_true, ite_false, reduceIte, Bool.false_eq_true, decide_true, decide_false, Bool.not_true, Bool.not_false, Bool.not_eq_true', decide_eq_true_eq, decide_eq_false_iff_not, isi_int_int, isi_int_bool, isi_bl_int, isi_bl_bool, isi_non_int, isi_non_bool, isi_str_int, isi_str_bool, isi_str_str, isi_lst_list, isi_tup_tuple, Option.some.injEq, exists_eq_left', exists_eq_left, DV.int.injEq, DV.str.injEq, DV.bl.injEq, List.cons.injEq, and_true, true_and])
local macro_rules | `(tactic| walk_at "dl") => `(tactic| try walk_at "dl1")
local macro_rules | `(tactic| walk_at "go") => `(tactic| repeat' (first
  | (intro _)
  | walk_at "dl1"
  | (refine ⟨by first | decide | omega, ?_⟩)
  | split))
theorem put_map (ws : List Str) (k : Nat) (n : Str) : (ws.map DV.str).take k ++ DV.str n :: (ws.map DV.str).drop k = (ws.take k ++ n :: ws.drop k).map DV.str := by
  rw [List.map_append, List.map_cons, List.map_take, List.map_drop]
theorem first_bad : ∀ {ws : List Str} {i : Nat} {s : Str}, ws[i]? = some s → nmB s = false → (∀ j t, j < i → ws[j]? = some t → nmB t = true) → ∃ r, ws.filter (fun t => !nmB t) = s :: r
  | [], _, _, h, _, _ => by cases h
  | w :: ws, 0, s, h, hn, _ => by
    cases h
    exact ⟨_, List.filter_cons_of_pos (by rw [hn]; rfl)⟩
  | w :: ws, i + 1, s, h, hn, hp => by
    have hw : nmB w = true := hp 0 w (Nat.succ_pos i) rfl
    obtain ⟨r, e⟩ := first_bad (ws := ws) (i := i) h hn fun j t hj ht => hp (j + 1) t (Nat.succ_lt_succ hj) ht
    exact ⟨r, by rw [List.filter_cons_of_neg (by rw [hw]; decide)]; exact e⟩
def w_refuses (K : PySem.W.Frag) : WS :=
  (wSeq (wAsg 2 (wCB dList (aC (wVP 1) aN)))
    (wSeq (wFor (iR1 (aC (wC (.int 2)) aN)) (gN 3) (wAsg 2 (wCall s_put (aC (wV 2) (aC (wCall s_number (aC (wV 0) (aC (wC (.int 0)) (aC (wCB dLen (aC (wVP 2) aN)) aN)))) (aC (wCall s_not_name (aC (wV 0) aN)) aN))))))
    (wSeq (wAsg 4 (wOp dIx (wF (fLc (iL (wV 2)) (gN 5) (wNot (wTru (wCall s_is_name (aC (wV 5) aN)))) (wV 5) [5])) (wC (.int 0))))
    (wSeq (wAsg 6 (wCall s_row_of (aC (wV 0) (aC (wV 2) aN))))
    (wSeq (wTry K 7 ["BadName"] (wDropX (sF (s_Pordered K)) (aC (wV 6) aN)) (fun a cls d => (wSeq (wIfS (wNot (wTru (wCall (s_same 3) (aC (wKd K ["BadName"] a cls d 7) (aC (wL (aC (wC (.str "ValueError")) (aC (wC (.str "NestError")) (aC (wC (.str "BadName")) aN)))) aN))))) (wRet (wC (.bl false))) wNx)
    (wRet (wAndV (wCall (s_same 3) (aC (wXf K [("BadName", "name")] a cls d "name" 7) (aC (wV 4) aN))) (wCall (s_same 3) (aC (wCB dList (aC (wVP 6) aN)) (aC (wV 2) aN))))))))
    (wRet (wC (.bl false))))))))
def s_refuses (K : PySem.W.Frag) : DS1 := fun ds R => match ds with
  | [.sto, .lst xs] => ∃ rs : List Str, xs = rs.map DV.str ∧ rs.length ≤ 998 ∧ (∀ s ∈ rs, nmB s = true) ∧ R (.bl true)
  | _ => False
theorem l_refuses (K : PySem.W.Frag) : ∀ ds R, s_refuses K ds R → ds.length = 2 := by
  intro ds R h
  unfold s_refuses at h
  split at h
  · rfl
  · exact h.elim
theorem o_refuses (K : PySem.W.Frag) : Owes 8 (s_refuses K) (w_refuses K) := by
  intro ds R h
  unfold s_refuses at h
  split at h
  · unfold w_refuses
    walk_at "dl"
    obtain ⟨rs, rfl, h1, h2, h⟩ := h
    have a0 : (rs.map DV.str).length = rs.length := List.length_map _
    refine ⟨by decide, by decide, ?_⟩
    refine forL_ind (fun i ρ => ∃ (ws : List Str) (v : Sl), ρ = [.dt .sto, .dt (.lst (rs.map DV.str)), .dt (.lst (ws.map DV.str)), v, .un, .un, .un, .un] ∧ ws.length = rs.length + i ∧ (∀ s ∈ ws, s.length ≤ 60) ∧ (0 < i → ∃ s ∈ ws, nmB s = false)) ⟨rs, _, rfl, rfl, (fun s hs => by have := nm_len (h2 s hs); omega), fun z => absurd z (Nat.lt_irrefl _)⟩ ?_ ?_
    · rintro i x ρ K hx ⟨ws, v, rfl, hl, hs, hb⟩ hK
      obtain ⟨rfl, hi⟩ := intL_at hx
      have hi : i < 2 := hi
      have lw : (ws.map DV.str).length = ws.length := List.length_map _
      walk_at "dl"
      simp only [s_number, s_not_name, s_put]
      refine ⟨by omega, fun r r0 r1 n hn nl => ⟨r0, by omega, hK _ ⟨ws.take r.toNat ++ n :: ws.drop r.toNat, _, by rw [put_map], ?_, ?_, fun _ => ⟨n, List.mem_append_right _ List.mem_cons_self, hn⟩⟩⟩⟩
      · rw [List.length_append, List.length_cons, List.length_take, List.length_drop]; omega
      · intro s hs'
        rcases List.mem_append.mp hs' with z | z
        · exact hs s (List.mem_of_mem_take z)
        · rcases List.mem_cons.mp z with rfl | z
          · exact nl
          · exact hs s (List.mem_of_mem_drop z)
    · rintro ρ ⟨ws, v, rfl, hl, hs, hb⟩
      have hl : ws.length = rs.length + 2 := hl
      have hb := hb (by decide)
      walk_at "dl"
      have lw : (ws.map DV.str).length = ws.length := List.length_map _
      refine ⟨_, rfl, by omega, ?_⟩
      refine lcL_ind (fun i acc => acc = ((ws.take i).filter fun t => !nmB t).map DV.str) rfl ?_ ?_
      · rintro i x acc K hx rfl hK
        rw [List.getElem?_map] at hx
        cases e : ws[i]? with
        | none => rw [e] at hx; cases hx
        | some s =>
          rw [e] at hx
          cases hx
          have hm := List.mem_of_getElem? e
          have hz := hs s hm
          walk_at "dl"
          simp only [s_is_name]
          refine ⟨by omega, ?_⟩
          have et : (ws.take (i + 1)).filter (fun t => !nmB t) = (ws.take i).filter (fun t => !nmB t) ++ (if nmB s = false then [s] else []) := by
            rw [List.take_add_one, e, List.filter_append]
            cases q : nmB s with
            | true => simp [q]
            | false => simp [q]
          cases q : nmB s with
          | true =>
            rw [q] at et
            refine hK _ ?_
            rw [et, if_neg (by decide), List.append_nil]
          | false =>
            rw [q] at et
            refine hK _ ?_
            rw [et, if_pos rfl, List.map_append]
            rfl
      · rintro acc rfl
        rw [lw, List.take_length]
        cases ef : ws.filter (fun t => !nmB t) with
        | nil =>
          obtain ⟨s, hm, hn⟩ := hb
          have z : s ∈ ws.filter (fun t => !nmB t) := List.mem_filter.mpr ⟨hm, by rw [hn]; rfl⟩
          rw [ef] at z
          cases z
        | cons d0 r0 =>
          refine ⟨.str d0, atI_lit (by decide) rfl, ?_⟩
          simp only [s_row_of]
          refine ⟨by omega, ?_, ?_⟩
          · unfold sF
            refine ⟨ws, .inl rfl, by omega, fun s hs' => by have := hs s hs'; omega, fun hall => ?_, fun i s e hn hp => ?_⟩
            · obtain ⟨s, hm, hn⟩ := hb
              rw [hall s hm] at hn
              cases hn
            · obtain ⟨r2, e2⟩ := first_bad e hn hp
              rw [ef] at e2
              cases e2
              refine ⟨_, _, _, rfl, List.mem_singleton.mpr rfl, fun a dd => ?_⟩
              walk_at "dl"
              refine ⟨_, _, _, _, rfl, rfl, rfl, List.mem_singleton.mpr rfl, by decide, by rw [sel_plain (by decide +kernel)], fl_sel 1 _, ?_⟩
              dsimp only
              rw [if_neg (by decide)]
              refine ⟨_, _, _, _, _, rfl, rfl, rfl, List.mem_singleton.mpr rfl, rfl, rfl, trivial, ?_⟩
              exact ⟨rfl, fl_strs 1 _, h⟩
          · unfold sF
            refine ⟨ws, .inr rfl, by omega, fun s hs' => by have := hs s hs'; omega, fun hall => ?_, fun i s e hn hp => ?_⟩
            · obtain ⟨s, hm, hn⟩ := hb
              rw [hall s hm] at hn
              cases hn
            · obtain ⟨r2, e2⟩ := first_bad e hn hp
              rw [ef] at e2
              cases e2
              refine ⟨_, _, _, rfl, List.mem_singleton.mpr rfl, fun a dd => ?_⟩
              walk_at "dl"
              refine ⟨_, _, _, _, rfl, rfl, rfl, List.mem_singleton.mpr rfl, by decide, by rw [sel_plain (by decide +kernel)], fl_sel 1 _, ?_⟩
              dsimp only
              rw [if_neg (by decide)]
              refine ⟨_, _, _, _, _, rfl, rfl, rfl, List.mem_singleton.mpr rfl, rfl, rfl, trivial, ?_⟩
              exact ⟨rfl, fl_strs 1 _, h⟩
  · exact h.elim
end DL
namespace DL
open PySem PySem.Spec PyProof.Rows L2 NW
local macro_rules | `(tactic| walk_at "dl1") => `(tactic| simp only [wAsgD, wPutD, atD, atDR, asK, wInOD, wLenOD, fCallN, wCallB, wCallK, wCallD, wDropK, frzE, frz1, wTry, wAsgX, wDropX, wKd, wXf, wSeq, wAsg, wAsgO, wRet, wIfS, wNx, wPass, wBk, wCt, wDrop, wAug, wApp, wAppPop, wPop, wFor, wFz, wV, wVP, atV, atP, atO, wC, wOp, wCall, wCallN, wCB, aC, aN, wL, wTu, fL, wF, fCat, fList, wTB, wTru, wAnd, wOr, wNot, wAndV, wOrV, wNotV, wIf, wChain, wIsN, wNeg, dNeg, wSl, pN, pP, dSl, wLrev, dLrev, wIsi, wIsi2, iL, iT, iV, iS, iR1, iR2, gN, fLc, wYes, wiL,
  dAdd, dSub, dMul, dMulS, dMulL, dDiv, dMod, dLt, dLe, dGt, dGe, dEq, dNe, eqD, dIn, dNi, dIx, dTru, isNon, dLen, dInt, dAbs, dMax, dMin, dList, dTup, dStr, dIAdd, frzE, frz1, startD, List.map_cons, List.map_nil, List.length_cons, List.length_nil, List.replicate_succ, List.replicate_zero, List.cons_append, List.nil_append, List.append_nil, List.getElem?_cons_zero, List.getElem?_cons_succ, List.set_cons_zero, List.set_cons_succ, Nat.reduceSub, Nat.reduceAdd, if_true, if_false, ite_true, ite_false, reduceIte, Bool.false_eq_true, decide_true, decide_false, Bool.not_true, Bool.not_false, Bool.not_eq_true', decide_eq_true_eq, decide_eq_false_iff_not, isi_int_int, isi_int_bool, isi_bl_int, isi_bl_bool, isi_non_int, isi_non_bool, isi_str_int, isi_str_bool, isi_str_str, isi_lst_list, isi_tup_tuple, Option.some.injEq, exists_eq_left', exists_eq_left, DV.int.injEq, DV.str.injEq, DV.bl.injEq, List.cons.injEq, and_true, true_and])
local macro_rules | `(tactic| walk_at "dl") => `(tactic| try walk_at "dl1")
local macro_rules | `(tactic| walk_at "go") => `(tactic| repeat' (first
  | (intro _)
  | walk_at "dl1"
  | (refine ⟨by first | decide | omega, ?_⟩)
  | split))
def w_stops (K : PySem.W.Frag) : WS :=
  (wSeq (wAsg 2 (wL (aC (wOp dAdd (wVP 1) (wC (.str "0"))) (aC (wC (.str "z0")) aN))))
    (wSeq (wTry K 3 ["BadName"] (wDropK (s_Pfresh_name K) (aC (wV 2) aN) (aC (wV 1) aN)) (fun a cls d => (wSeq (wIfS (wNot (wTru (wCall (s_same 3) (aC (wKd K ["BadName"] a cls d 3) (aC (wL (aC (wC (.str "ValueError")) (aC (wC (.str "NestError")) (aC (wC (.str "BadName")) aN)))) aN))))) (wRet (wC (.bl false))) wNx)
    (wRet (wAndV (wCall (s_same 3) (aC (wXf K [("BadName", "name")] a cls d "name" 3) (aC (wV 1) aN))) (wCall (s_same 3) (aC (wV 2) (aC (wL (aC (wOp dAdd (wVP 1) (wC (.str "0"))) (aC (wC (.str "z0")) aN))) aN))))))))
    (wRet (wC (.bl false)))))
def s_stops (K : PySem.W.Frag) : DS1 := fun ds R => match ds with
  | [.sto, .str x] => (nmB x = false ∨ 5 < x.length) ∧ x.length ≤ 100 ∧ R (.bl true)
  | _ => False
theorem l_stops (K : PySem.W.Frag) : ∀ ds R, s_stops K ds R → ds.length = 2 := by
  intro ds R h
  unfold s_stops at h
  split at h
  · rfl
  · exact h.elim
theorem o_stops (K : PySem.W.Frag) : Owes 4 (s_stops K) (w_stops K) := by
  intro ds R h
  unfold s_stops at h
  split at h
  · unfold w_stops
    walk_at "dl"
    rename_i x
    obtain ⟨hb, hz, h⟩ := h
    refine ⟨by show x.length + 1 ≤ _; omega, by decide, ?_⟩
    refine ⟨x, [x ++ Str.ofString "0", Str.ofString "z0"], .inl rfl, by omega, .inl ⟨hb, ?_⟩⟩
    refine ⟨_, _, _, rfl, List.mem_singleton.mpr rfl, fun a dd => ?_⟩
    walk_at "dl"
    refine ⟨_, _, _, _, rfl, rfl, rfl, List.mem_singleton.mpr rfl, by decide, by rw [sel_plain (by decide +kernel)], fl_sel 1 _, ?_⟩
    dsimp only
    rw [if_neg (by decide)]
    refine ⟨_, _, _, _, _, rfl, rfl, rfl, List.mem_singleton.mpr rfl, rfl, rfl, trivial, ?_⟩
    show x.length + 1 ≤ 1000000 ∧ _
    exact ⟨by omega, by decide, rfl, fl_strs 1 [x ++ Str.ofString "0", Str.ofString "z0"], h⟩
  · exact h.elim
theorem nodup_sub : ∀ {l D : List Str}, l.Nodup → (∀ x ∈ l, x ∈ D) → l.length ≤ D.length
  | [], _, _, _ => Nat.zero_le _
  | x :: l, D, hn, hs => by
    obtain ⟨h1, h2⟩ := List.nodup_cons.mp hn
    have hx : x ∈ D := hs x List.mem_cons_self
    have ih := nodup_sub (l := l) (D := D.erase x) h2 fun y hy => (List.mem_erase_of_ne (fun e => h1 (by rw [← e]; exact hy))).mpr (hs y (List.mem_cons_of_mem _ hy))
    rw [List.length_erase_of_mem hx] at ih
    have : 0 < D.length := List.length_pos_of_mem hx
    rw [List.length_cons]
    omega
def ts (k : Nat) : Str := toString (k : Int)
theorem ts_nodup : ((List.range 101).map fun k => (ts k).cps.toList).Nodup := by decide +kernel
theorem cand_nodup (x : Str) : ((List.range 101).map fun k => x ++ ts k).Nodup := by
  rw [List.nodup_iff_pairwise_ne, List.pairwise_map]
  have z := List.pairwise_map.mp (List.nodup_iff_pairwise_ne.mp ts_nodup)
  refine z.imp fun {a b} h e => h ?_
  have e2 := congrArg (fun s : Str => s.cps.toList) e
  simp only [app_cps] at e2
  exact List.append_cancel_left e2
theorem least_of {p : Nat → Prop} : ∀ n, p n → ∃ k, k ≤ n ∧ p k ∧ ∀ j, j < k → ¬ p j
  | n, h => by
    by_cases z : ∃ j, j < n ∧ p j
    · obtain ⟨j, hj, hp⟩ := z
      obtain ⟨k, h1, h2, h3⟩ := least_of j hp
      exact ⟨k, by omega, h2, h3⟩
    · exact ⟨n, Nat.le_refl _, h, fun j hj hp => z ⟨j, hj, hp⟩⟩
theorem free_of (x : Str) {ss : List Str} (h : ss.length ≤ 100) : ∃ n, n ≤ 100 ∧ (x ++ ts n) ∉ ss ∧ ∀ j, j < n → (x ++ ts j) ∈ ss := by
  have e : ∃ k, k ≤ 100 ∧ (x ++ ts k) ∉ ss := Classical.byContradiction fun z => by
    have l := nodup_sub (cand_nodup x) (D := ss) fun y hy => by
      obtain ⟨k, hk, rfl⟩ := List.mem_map.mp hy
      have hk := List.mem_range.mp hk
      exact Classical.byContradiction fun q => z ⟨k, by omega, q⟩
    rw [List.length_map, List.length_range] at l
    omega
  obtain ⟨k, hk, hn⟩ := e
  obtain ⟨n, h1, h2, h3⟩ := least_of (p := fun k => (x ++ ts k) ∉ ss) k hn
  exact ⟨n, by omega, h2, fun j hj => Classical.not_not.mp (h3 j hj)⟩
theorem first_of {α : Type} {p : α → Bool} : ∀ {l : List α} {i : Nat} {a : α}, l[i]? = some a → p a = true → (∀ j b, j < i → l[j]? = some b → p b = false) → ∃ r, l.filter p = a :: r
  | [], _, _, h, _, _ => by cases h
  | w :: ws, 0, s, h, hn, _ => by
    cases h
    exact ⟨_, List.filter_cons_of_pos hn⟩
  | w :: ws, i + 1, s, h, hn, hp => by
    have hw := hp 0 w (Nat.succ_pos i) rfl
    obtain ⟨r, e⟩ := first_of (l := ws) (i := i) h hn fun j t hj ht => hp (j + 1) t (Nat.succ_lt_succ hj) ht
    exact ⟨r, by rw [List.filter_cons_of_neg (by rw [hw]; decide)]; exact e⟩
def w_fresh (K : PySem.W.Frag) : WS :=
  (wSeq (wAsg 2 (wCall s_taken (aC (wV 0) (aC (wV 1) aN))))
    (wSeq (wAsg 3 (wCall s_row_of (aC (wV 0) (aC (wV 2) aN))))
    (wSeq (wAsg 4 (wOp dIx (wF (fLc (iR1 (aC (wC (.int 101)) aN)) (gN 5) (wTB (wOp dNi (wOp dAdd (wVP 1) (wCB dStr (aC (wVP 5) aN))) (wVP 2))) (wOp dAdd (wVP 1) (wCB dStr (aC (wVP 5) aN))) [5])) (wC (.int 0))))
    (wSeq (wAsg 6 (wCallK (s_Pfresh_name K) (aC (wV 3) aN) (aC (wV 1) aN)))
    (wSeq (wIfS (wAnd (wTB (wOp dEq (wVP 1) (wC (.str "z")))) (wNot (wTru (wCall (s_same 3) (aC (wCallD (s_Pfresh_name K) [.str "z"] (aC (wV 3) aN)) (aC (wV 4) aN)))))) (wRet (wC (.bl false))) wNx)
    (wRet (wAndV (wCall (s_same 3) (aC (wV 6) (aC (wV 4) aN))) (wCall (s_same 3) (aC (wCB dList (aC (wVP 3) aN)) (aC (wV 2) aN))))))))))
def s_fresh (K : PySem.W.Frag) : DS1 := fun ds R => match ds with
  | [.sto, .str x] => nmB x = true ∧ x.length ≤ 5 ∧ R (.bl true)
  | _ => False
theorem l_fresh (K : PySem.W.Frag) : ∀ ds R, s_fresh K ds R → ds.length = 2 := by
  intro ds R h
  unfold s_fresh at h
  split at h
  · rfl
  · exact h.elim
theorem o_fresh (K : PySem.W.Frag) : Owes 7 (s_fresh K) (w_fresh K) := by
  intro ds R h
  unfold s_fresh at h
  split at h
  · unfold w_fresh
    walk_at "dl"
    rename_i x
    obtain ⟨hn, h5, h⟩ := h
    simp only [s_taken, s_row_of]
    refine ⟨by omega, fun ss l100 lz => ⟨by rw [List.length_map]; omega, ?_⟩⟩
    obtain ⟨n, n1, n2, n3⟩ := free_of x l100
    have li : (intL 0 (Int.toNat 101)).length ≤ 1000000 := by decide
    refine ⟨⟨by decide, by decide, li, ?_⟩, by decide, by decide, li, ?_⟩
    · refine lcL_ind (fun i acc => acc = ((List.range i).filter fun k => !decide ((x ++ ts k) ∈ ss)).map fun k => DV.str (x ++ ts k)) rfl ?_ ?_
      · rintro i y acc K hx rfl hK
        obtain ⟨rfl, hi⟩ := intL_at hx
        have hi : i < 101 := hi
        have e0 : (0 + (i : Int)) = (i : Int) := by omega
        rw [e0]
        have zl := small_len i (by omega)
        walk_at "dl"
        have et : (List.range (i + 1)).filter (fun k => !decide ((x ++ ts k) ∈ ss)) = (List.range i).filter (fun k => !decide ((x ++ ts k) ∈ ss)) ++ (if (x ++ ts i) ∈ ss then [] else [i]) := by
          rw [List.range_succ, List.filter_append]
          by_cases q : (x ++ ts i) ∈ ss
          · simp [q]
          · simp [q]
        refine ⟨by omega, by omega, ss, rfl, ?_⟩
        dsimp only
        by_cases q : (x ++ ts i) ∈ ss
        · rw [if_neg (by rw [decide_eq_true (show (x ++ Str.ofString (toString (i : Int))) ∈ ss from q)]; decide)]
          refine hK _ ?_
          rw [et, if_pos q, List.append_nil]
        · rw [if_pos (by rw [decide_eq_false (show ¬ (x ++ Str.ofString (toString (i : Int))) ∈ ss from q)])]
          refine ⟨by omega, by omega, hK _ ?_⟩
          rw [et, if_neg q, List.map_append]
          rfl
      · rintro acc rfl
        obtain ⟨r, er⟩ := first_of (p := fun k => !decide ((x ++ ts k) ∈ ss)) (l := List.range 101) (i := n) (a := n) (List.getElem?_range (by omega)) (by rw [decide_eq_false n2]; rfl) (fun j b hj hb => by
          rw [List.getElem?_range (by omega)] at hb
          cases hb
          rw [decide_eq_true (n3 j hj)]; rfl)
        have er2 : (List.range (intL 0 (Int.toNat 101)).length).filter (fun k => !decide ((x ++ ts k) ∈ ss)) = n :: r := er
        rw [er2]
        refine ⟨.str (x ++ ts n), atI_lit (by decide) rfl, ?_⟩
        refine ⟨x, ss, .inl rfl, by omega, .inr ⟨hn, h5, n, by omega, n2, n3, ?_⟩⟩
        dsimp only
        split
        · rename_i hz
          refine ⟨Str.ofString "z", ss, .inl rfl, by decide, .inr ⟨by rw [← hz]; exact hn, by decide, n, by omega, by rw [← hz]; exact n2, fun j hj => by rw [← hz]; exact n3 j hj, ?_⟩⟩
          rw [← hz]
          exact ⟨rfl, trivial, rfl, trivial, rfl, fl_strs 1 _, h⟩
        · exact ⟨rfl, trivial, rfl, fl_strs 1 _, h⟩
    · refine lcL_ind (fun i acc => acc = ((List.range i).filter fun k => !decide ((x ++ ts k) ∈ ss)).map fun k => DV.str (x ++ ts k)) rfl ?_ ?_
      · rintro i y acc K hx rfl hK
        obtain ⟨rfl, hi⟩ := intL_at hx
        have hi : i < 101 := hi
        have e0 : (0 + (i : Int)) = (i : Int) := by omega
        rw [e0]
        have zl := small_len i (by omega)
        walk_at "dl"
        have et : (List.range (i + 1)).filter (fun k => !decide ((x ++ ts k) ∈ ss)) = (List.range i).filter (fun k => !decide ((x ++ ts k) ∈ ss)) ++ (if (x ++ ts i) ∈ ss then [] else [i]) := by
          rw [List.range_succ, List.filter_append]
          by_cases q : (x ++ ts i) ∈ ss
          · simp [q]
          · simp [q]
        refine ⟨by omega, by omega, ss, rfl, ?_⟩
        dsimp only
        by_cases q : (x ++ ts i) ∈ ss
        · rw [if_neg (by rw [decide_eq_true (show (x ++ Str.ofString (toString (i : Int))) ∈ ss from q)]; decide)]
          refine hK _ ?_
          rw [et, if_pos q, List.append_nil]
        · rw [if_pos (by rw [decide_eq_false (show ¬ (x ++ Str.ofString (toString (i : Int))) ∈ ss from q)])]
          refine ⟨by omega, by omega, hK _ ?_⟩
          rw [et, if_neg q, List.map_append]
          rfl
      · rintro acc rfl
        obtain ⟨r, er⟩ := first_of (p := fun k => !decide ((x ++ ts k) ∈ ss)) (l := List.range 101) (i := n) (a := n) (List.getElem?_range (by omega)) (by rw [decide_eq_false n2]; rfl) (fun j b hj hb => by
          rw [List.getElem?_range (by omega)] at hb
          cases hb
          rw [decide_eq_true (n3 j hj)]; rfl)
        have er2 : (List.range (intL 0 (Int.toNat 101)).length).filter (fun k => !decide ((x ++ ts k) ∈ ss)) = n :: r := er
        rw [er2]
        refine ⟨.str (x ++ ts n), atI_lit (by decide) rfl, ?_⟩
        refine ⟨x, ss, .inr rfl, by omega, .inr ⟨hn, h5, n, by omega, n2, n3, ?_⟩⟩
        dsimp only
        split
        · rename_i hz
          refine ⟨Str.ofString "z", ss, .inr rfl, by decide, .inr ⟨by rw [← hz]; exact hn, by decide, n, by omega, by rw [← hz]; exact n2, fun j hj => by rw [← hz]; exact n3 j hj, ?_⟩⟩
          rw [← hz]
          exact ⟨rfl, trivial, rfl, trivial, rfl, fl_strs 1 _, h⟩
        · exact ⟨rfl, trivial, rfl, fl_strs 1 _, h⟩
  · exact h.elim
end DL
namespace DL
open PySem PySem.Spec PyProof.Rows L2 NW
local macro_rules | `(tactic| walk_at "dl1") => `(tactic| simp only [wAsgD, wPutD, atD, atDR, asK, wInOD, wLenOD, fCallN, wCallB, wCallK, wCallD, wDropK, frzE, frz1, wTry, wAsgX, wDropX, wKd, wXf, wSeq, wAsg, wAsgO, wRet, wIfS, wNx, wPass, wBk, wCt, wDrop, wAug, wApp, wAppPop, wPop, wFor, wFz, wV, wVP, atV, atP, atO, wC, wOp, wCall, wCallN, wCB, aC, aN, wL, wTu, fL, wF, fCat, fList, wTB, wTru, wAnd, wOr, wNot, wAndV, wOrV, wNotV, wIf, wChain, wIsN, wNeg, dNeg, wSl, pN, pP, dSl, wLrev, dLrev, wIsi, wIsi2, iL, iT, iV, iS, iR1, iR2, gN, fLc, wYes, wiL,
  dAdd, dSub, dMul, dMulS, dMulL, dDiv, dMod, dLt, dLe, dGt, dGe, dEq, dNe, eqD, dIn, dNi, dIx, dTru, isNon, dLen, dInt, dAbs, dMax, dMin, dList, dTup, dStr, dIAdd, frzE, frz1, startD, List.map_cons, List.map_nil, List.length_cons, List.length_nil, List.replicate_succ, List.replicate_zero, List.cons_append, List.nil_append, List.append_nil, List.getElem?_cons_zero, List.getElem?_cons_succ, List.set_cons_zero, List.set_cons_succ, Nat.reduceSub, Nat.reduceAdd, if_true, if_false, ite_true, ite_false, reduceIte, Bool.false_eq_true, decide_true, decide_false, Bool.not_true, Bool.not_false, Bool.not_eq_true', decide_eq_true_eq, decide_eq_false_iff_not, isi_int_int, isi_int_bool, isi_bl_int, isi_bl_bool, isi_non_int, isi_non_bool, isi_str_int, isi_str_bool, isi_str_str, isi_lst_list, isi_tup_tuple, Option.some.injEq, exists_eq_left', exists_eq_left, DV.int.injEq, DV.str.injEq, DV.bl.injEq, List.cons.injEq, and_true, true_and])
local macro_rules | `(tactic| walk_at "dl") => `(tactic| try walk_at "dl1")
local macro_rules | `(tactic| walk_at "go") => `(tactic| repeat' (first
  | (intro _)
  | walk_at "dl1"
  | (refine ⟨by first | decide | omega, ?_⟩)
  | split))
def w_law02 (K : PySem.W.Frag) : WS :=
  (wSeq (wAsg 2 (wCall s_drawn_row (aC (wV 1) aN)))
    (wSeq (wIfS (wOr (wNot (wTru (wCall (s_sorts K) (aC (wV 1) (aC (wV 2) aN))))) (wOr (wNot (wTru (wCall (s_refuses K) (aC (wV 1) (aC (wV 2) aN))))) (wNot (wTru (wCall (s_sorts K) (aC (wV 1) (aC (wV 2) aN))))))) (wRet (wC (.bl false))) wNx)
    (wSeq (wAsg 3 (wOp dAdd (wCall s_name (aC (wV 1) aN)) (wC (.str "a0b1c"))))
    (wSeq (wIfS (wOr (wNot (wTru (wCall (s_fresh K) (aC (wV 1) (aC (wSl (wVP 3) pN (pP (wOp dAdd (wC (.int 1)) (wCall s_take (aC (wV 1) (aC (wC (.int 5)) aN)))))) aN))))) (wNot (wTru (wCall (s_fresh K) (aC (wV 1) (aC (wC (.str "z")) aN)))))) (wRet (wC (.bl false))) wNx)
    (wSeq (wIfS (wOr (wNot (wTru (wCall (s_stops K) (aC (wV 1) (aC (wSl (wVP 3) pN (pP (wOp dAdd (wC (.int 6)) (wCall s_take (aC (wV 1) (aC (wC (.int 3)) aN)))))) aN))))) (wNot (wTru (wCall (s_stops K) (aC (wV 1) (aC (wCall s_not_name (aC (wV 1) aN)) aN)))))) (wRet (wC (.bl false))) wNx)
    (wRet (wCall (s_fresh K) (aC (wV 1) (aC (wSl (wVP 3) pN (pP (wC (.int 5)))) aN)))))))))
theorem beg_nm {n : Str} (h : nmB n = true) {k : Nat} (h1 : 1 ≤ k) (h8 : k ≤ 5) : nmB (cutS (n ++ Str.ofString "a0b1c") none (some (k : Int))) = true ∧ (cutS (n ++ Str.ofString "a0b1c") none (some (k : Int))).length ≤ 5 := by
  obtain ⟨c, cs, es, a1, a2, a3⟩ := nm_split h
  obtain ⟨k, rfl⟩ : ∃ j, k = j + 1 := ⟨k - 1, by omega⟩
  have e : (cutS (n ++ Str.ofString "a0b1c") none (some ((k + 1 : Nat) : Int))).cps.toList = c :: (cs ++ (Str.ofString "a0b1c").cps.toList).take k := by
    rw [cut_cps, cutG_to, app_cps, es, List.cons_append, List.take_succ_cons]
  have l : (cutS (n ++ Str.ofString "a0b1c") none (some ((k + 1 : Nat) : Int))).length ≤ 5 := by
    rw [len_cps, e, List.length_cons, List.length_take]; omega
  refine ⟨nm_of e a1 ?_ ?_, l⟩
  · rw [List.all_eq_true]
    intro x hx
    rcases List.mem_append.mp (List.mem_of_mem_take hx) with z | z
    · exact List.all_eq_true.mp a2 x z
    · have q : (Str.ofString "a0b1c").cps.toList.all lodB = true := by decide +kernel
      exact List.all_eq_true.mp q x z
  · rw [List.length_take]; omega
theorem beg_len {n : Str} (h : nmB n = true) {k : Nat} (hk : k ≤ 6 + 2) (h6 : 6 ≤ k) : 5 < (cutS (n ++ Str.ofString "a0b1c") none (some (k : Int))).length ∧ (cutS (n ++ Str.ofString "a0b1c") none (some (k : Int))).length ≤ 100 := by
  have nl := nm_len h
  have e : (cutS (n ++ Str.ofString "a0b1c") none (some (k : Int))).length = min k (n.length + 5) := by
    rw [len_cps, cut_cps, cutG_to, List.length_take, ← len_cps, app_len]; rfl
  omega
theorem o_law02 (K : PySem.W.Frag) : w_law02 K { nx := fun _ => False, rt := fun d => d = .bl true } (.un :: .dt .sto :: List.replicate 2 .un) := by
  unfold w_law02
  walk_at "dl"
  simp only [s_drawn_row]
  intro rs hl hs
  walk_at "dl"
  simp only [s_sorts, s_refuses]
  refine ⟨rs, rfl, hl, hs, ?_⟩
  rw [if_neg (by decide)]
  refine ⟨rs, rfl, hl, hs, ?_⟩
  rw [if_neg (by decide)]
  refine ⟨rs, rfl, hl, hs, ?_⟩
  rw [if_neg (by decide)]
  simp only [s_name]
  intro n hn
  have nl := nm_len hn
  have la : (n ++ Str.ofString "a0b1c").length = n.length + 5 := by rw [app_len]; rfl
  walk_at "dl"
  simp only [s_take]
  refine ⟨by show n.length + 5 ≤ _; omega, by decide, fun r r0 r1 => ?_⟩
  obtain ⟨k, rfl⟩ : ∃ k : Nat, r = (k : Int) := ⟨r.toNat, by omega⟩
  walk_at "dl"
  simp only [s_fresh]
  obtain ⟨b1, b2⟩ := beg_nm hn (k := 1 + k) (by omega) (by omega)
  refine ⟨by omega, b1, b2, ?_⟩
  rw [if_neg (by decide)]
  refine ⟨by decide +kernel, by decide, ?_⟩
  rw [if_neg (by decide)]
  refine ⟨by decide, fun q q0 q1 => ?_⟩
  obtain ⟨j, rfl⟩ : ∃ j : Nat, q = (j : Int) := ⟨q.toNat, by omega⟩
  walk_at "dl"
  simp only [s_stops, s_not_name]
  obtain ⟨c1, c2⟩ := beg_len hn (k := 6 + j) (by omega) (by omega)
  refine ⟨by omega, .inr c1, c2, ?_⟩
  rw [if_neg (by decide)]
  intro u hu ul
  walk_at "dl"
  obtain ⟨d1, d2⟩ := beg_nm hn (k := 5) (by decide) (by decide)
  refine ⟨.inl hu, by omega, ?_⟩
  rw [if_neg (by decide)]
  exact ⟨by omega, d1, d2⟩
end DL
namespace DL
open PySem PySem.Spec PyProof.Rows L2 NW
open C8 (tCut pss_cut)
structure Txt (K : PySem.W.Frag) (mg : Str → Option Value) : Prop where
  g_mix : mg "_law_mix" = some (.ref (He.ga K "_law_mix"))
  F_mix : ∃ fd, FunD K "_law_mix" "_law_mix" (defArgs q_mix) (defBody q_mix) (defScope q_mix) [] [] (He.ga K "_law_mix") fd
  g_take : mg "_law_take" = some (.ref (He.ga K "_law_take"))
  F_take : ∃ fd, FunD K "_law_take" "_law_take" (defArgs q_take) (defBody q_take) (defScope q_take) [] [] (He.ga K "_law_take") fd
  g_store : mg "_law_store" = some (.ref (He.ga K "_law_store"))
  F_store : ∃ fd, FunD K "_law_store" "_law_store" (defArgs q_store) (defBody q_store) (defScope q_store) [] [] (He.ga K "_law_store") fd
  g_same : mg "_law_same" = some (.ref (He.ga K "_law_same"))
  F_same : ∃ fd, FunD K "_law_same" "_law_same" (defArgs q_same) (defBody q_same) (defScope q_same) [] [] (He.ga K "_law_same") fd
  g_kinds : mg "_law_kinds" = some (.ref (He.ga K "_law_kinds"))
  F_kinds : ∃ fd, FunD K "_law_kinds" "_law_kinds" (defArgs q_kinds) (defBody q_kinds) (defScope q_kinds) [] [] (He.ga K "_law_kinds") fd
  g_edge : mg "_law_edge" = some (.ref (He.ga K "_law_edge"))
  F_edge : ∃ fd, FunD K "_law_edge" "_law_edge" (defArgs q_edge) (defBody q_edge) (defScope q_edge) [] [] (He.ga K "_law_edge") fd
  g_number : mg "_law_number" = some (.ref (He.ga K "_law_number"))
  F_number : ∃ fd, FunD K "_law_number" "_law_number" (defArgs q_number) (defBody q_number) (defScope q_number) [] [] (He.ga K "_law_number") fd
  g_pick : mg "_law_pick" = some (.ref (He.ga K "_law_pick"))
  F_pick : ∃ fd, FunD K "_law_pick" "_law_pick" (defArgs q_pick) (defBody q_pick) (defScope q_pick) [] [] (He.ga K "_law_pick") fd
  g_shuffled : mg "_law_shuffled" = some (.ref (He.ga K "_law_shuffled"))
  F_shuffled : ∃ fd, FunD K "_law_shuffled" "_law_shuffled" (defArgs q_shuffled) (defBody q_shuffled) (defScope q_shuffled) [] [] (He.ga K "_law_shuffled") fd
  g_row_of : mg "_law_row_of" = some (.ref (He.ga K "_law_row_of"))
  F_row_of : ∃ fd, FunD K "_law_row_of" "_law_row_of" (defArgs q_row_of) (defBody q_row_of) (defScope q_row_of) [] [] (He.ga K "_law_row_of") fd
  g_put : mg "_law_put" = some (.ref (He.ga K "_law_put"))
  F_put : ∃ fd, FunD K "_law_put" "_law_put" (defArgs q_put) (defBody q_put) (defScope q_put) [] [] (He.ga K "_law_put") fd
  g_sign : mg "_law_sign" = some (.ref (He.ga K "_law_sign"))
  F_sign : ∃ fd, FunD K "_law_sign" "_law_sign" (defArgs q_sign) (defBody q_sign) (defScope q_sign) [] [] (He.ga K "_law_sign") fd
  g_name_of : mg "_law_name_of" = some (.ref (He.ga K "_law_name_of"))
  F_name_of : ∃ fd, FunD K "_law_name_of" "_law_name_of" (defArgs q_name_of) (defBody q_name_of) (defScope q_name_of) [] [] (He.ga K "_law_name_of") fd
  g_name : mg "_law_name" = some (.ref (He.ga K "_law_name"))
  F_name : ∃ fd, FunD K "_law_name" "_law_name" (defArgs q_name) (defBody q_name) (defScope q_name) [] [] (He.ga K "_law_name") fd
  g_unlike : mg "_law_unlike" = some (.ref (He.ga K "_law_unlike"))
  F_unlike : ∃ fd, FunD K "_law_unlike" "_law_unlike" (defArgs q_unlike) (defBody q_unlike) (defScope q_unlike) [] [] (He.ga K "_law_unlike") fd
  g_name_like_by : mg "_law_name_like_by" = some (.ref (He.ga K "_law_name_like_by"))
  F_name_like_by : ∃ fd, FunD K "_law_name_like_by" "_law_name_like_by" (defArgs q_name_like_by) (defBody q_name_like_by) (defScope q_name_like_by) [] [] (He.ga K "_law_name_like_by") fd
  g_names_by : mg "_law_names_by" = some (.ref (He.ga K "_law_names_by"))
  F_names_by : ∃ fd, FunD K "_law_names_by" "_law_names_by" (defArgs q_names_by) (defBody q_names_by) (defScope q_names_by) [] [] (He.ga K "_law_names_by") fd
  g_not_name : mg "_law_not_name" = some (.ref (He.ga K "_law_not_name"))
  F_not_name : ∃ fd, FunD K "_law_not_name" "_law_not_name" (defArgs q_not_name) (defBody q_not_name) (defScope q_not_name) [] [] (He.ga K "_law_not_name") fd
  g_is_name : mg "_law_is_name" = some (.ref (He.ga K "_law_is_name"))
  F_is_name : ∃ fd, FunD K "_law_is_name" "_law_is_name" (defArgs q_is_name) (defBody q_is_name) (defScope q_is_name) [] [] (He.ga K "_law_is_name") fd
  g_Pis_name : mg "is_name" = some (.ref (He.ga K "is_name"))
  F_Pis_name : ∃ fd, FunD K "is_name" "is_name" (defArgs q_Pis_name) (defBody q_Pis_name) (defScope q_Pis_name) [] [] (He.ga K "is_name") fd
  g_Pvalid_name : mg "valid_name" = some (.ref (He.ga K "valid_name"))
  F_Pvalid_name : ∃ fd, FunD K "valid_name" "valid_name" (defArgs q_Pvalid_name) (defBody q_Pvalid_name) (defScope q_Pvalid_name) [] [] (He.ga K "valid_name") fd
  g_Pordered : mg "ordered" = some (.ref (He.ga K "ordered"))
  F_Pordered : ∃ fd, FunD K "ordered" "ordered" (defArgs q_Pordered) (defBody q_Pordered) (defScope q_Pordered) [] [] (He.ga K "ordered") fd
  g_Pfresh_name : mg "fresh_name" = some (.ref (He.ga K "fresh_name"))
  F_Pfresh_name : ∃ fd, FunD K "fresh_name" "fresh_name" (defArgs q_Pfresh_name) (defBody q_Pfresh_name) (defScope q_Pfresh_name) [] [("stem", .str "z")] (He.ga K "fresh_name") fd
  g_drawn_row : mg "_law_drawn_row" = some (.ref (He.ga K "_law_drawn_row"))
  F_drawn_row : ∃ fd, FunD K "_law_drawn_row" "_law_drawn_row" (defArgs q_drawn_row) (defBody q_drawn_row) (defScope q_drawn_row) [] [] (He.ga K "_law_drawn_row") fd
  g_is_sorted : mg "_law_is_sorted" = some (.ref (He.ga K "_law_is_sorted"))
  F_is_sorted : ∃ fd, FunD K "_law_is_sorted" "_law_is_sorted" (defArgs q_is_sorted) (defBody q_is_sorted) (defScope q_is_sorted) [] [] (He.ga K "_law_is_sorted") fd
  g_sorts : mg "_law_sorts" = some (.ref (He.ga K "_law_sorts"))
  F_sorts : ∃ fd, FunD K "_law_sorts" "_law_sorts" (defArgs q_sorts) (defBody q_sorts) (defScope q_sorts) [] [] (He.ga K "_law_sorts") fd
  g_refuses : mg "_law_refuses" = some (.ref (He.ga K "_law_refuses"))
  F_refuses : ∃ fd, FunD K "_law_refuses" "_law_refuses" (defArgs q_refuses) (defBody q_refuses) (defScope q_refuses) [] [] (He.ga K "_law_refuses") fd
  g_taken : mg "_law_taken" = some (.ref (He.ga K "_law_taken"))
  F_taken : ∃ fd, FunD K "_law_taken" "_law_taken" (defArgs q_taken) (defBody q_taken) (defScope q_taken) [] [] (He.ga K "_law_taken") fd
  g_fresh : mg "_law_fresh" = some (.ref (He.ga K "_law_fresh"))
  F_fresh : ∃ fd, FunD K "_law_fresh" "_law_fresh" (defArgs q_fresh) (defBody q_fresh) (defScope q_fresh) [] [] (He.ga K "_law_fresh") fd
  g_stops : mg "_law_stops" = some (.ref (He.ga K "_law_stops"))
  F_stops : ∃ fd, FunD K "_law_stops" "_law_stops" (defArgs q_stops) (defBody q_stops) (defScope q_stops) [] [] (He.ga K "_law_stops") fd
  g_law : mg "law" = some (.ref (He.ga K "law"))
  F_law : ∃ fd, FunD K "law" "law" (defArgs q_law) (defBody q_law) (defScope q_law) [] [] (He.ga K "law") fd
  z_ValueError : mg "ValueError" = none
  z_abs : mg "abs" = none
  z_all : mg "all" = none
  z_bool : mg "bool" = none
  z_dict : mg "dict" = none
  z_int : mg "int" = none
  z_isinstance : mg "isinstance" = none
  z_len : mg "len" = none
  z_list : mg "list" = none
  z_max : mg "max" = none
  z_min : mg "min" = none
  z_range : mg "range" = none
  z_set : mg "set" = none
  z_sorted : mg "sorted" = none
  z_str : mg "str" = none
  z_tuple : mg "tuple" = none
  k_DIGITS : ∃ t, mg "DIGITS" = some (.str "0123456789" t)
  k_LETTERS : ∃ t, mg "LETTERS" = some (.str "abcdefghijklmnopqrstuvwxyz" t)
  k_LONGEST_NAME : ∃ t, mg "LONGEST_NAME" = some (.int 8 t)
  k_LONGEST_STEM : ∃ t, mg "LONGEST_STEM" = some (.int 5 t)
  c_BadClaim : mg "BadClaim" = some (.ref (He.ga K "BadClaim"))
  c_BadCount : mg "BadCount" = some (.ref (He.ga K "BadCount"))
  c_BadName : mg "BadName" = some (.ref (He.ga K "BadName"))
  c_BadNumber : mg "BadNumber" = some (.ref (He.ga K "BadNumber"))
  c_BadOrder : mg "BadOrder" = some (.ref (He.ga K "BadOrder"))
  c_BadText : mg "BadText" = some (.ref (He.ga K "BadText"))
  c_BadWeight : mg "BadWeight" = some (.ref (He.ga K "BadWeight"))
  c_BadWish : mg "BadWish" = some (.ref (He.ga K "BadWish"))
  c_Broken : mg "Broken" = some (.ref (He.ga K "Broken"))
  c_Clash : mg "Clash" = some (.ref (He.ga K "Clash"))
  c_Idle : mg "Idle" = some (.ref (He.ga K "Idle"))
  c_Inside : mg "Inside" = some (.ref (He.ga K "Inside"))
  c_Loop : mg "Loop" = some (.ref (He.ga K "Loop"))
  c_Nailed : mg "Nailed" = some (.ref (He.ga K "Nailed"))
  c_NestError : mg "NestError" = some (.ref (He.ga K "NestError"))
  c_NoChange : mg "NoChange" = some (.ref (He.ga K "NoChange"))
  c_NoHolder : mg "NoHolder" = some (.ref (He.ga K "NoHolder"))
  c_NoStory : mg "NoStory" = some (.ref (He.ga K "NoStory"))
  c_NotComing : mg "NotComing" = some (.ref (He.ga K "NotComing"))
  c_NotEmpty : mg "NotEmpty" = some (.ref (He.ga K "NotEmpty"))
  c_NothingDone : mg "NothingDone" = some (.ref (He.ga K "NothingDone"))
  c_OrderRefused : mg "OrderRefused" = some (.ref (He.ga K "OrderRefused"))
  c_OtherDoors : mg "OtherDoors" = some (.ref (He.ga K "OtherDoors"))
  c_OtherYard : mg "OtherYard" = some (.ref (He.ga K "OtherYard"))
  c_OutOfSteps : mg "OutOfSteps" = some (.ref (He.ga K "OutOfSteps"))
  c_Refusal : mg "Refusal" = some (.ref (He.ga K "Refusal"))
  c_Same : mg "Same" = some (.ref (He.ga K "Same"))
  c_Sealed : mg "Sealed" = some (.ref (He.ga K "Sealed"))
  c_Short : mg "Short" = some (.ref (He.ga K "Short"))
  c_TooMany : mg "TooMany" = some (.ref (He.ga K "TooMany"))
  c_Twice : mg "Twice" = some (.ref (He.ga K "Twice"))
  c_Unbalanced : mg "Unbalanced" = some (.ref (He.ga K "Unbalanced"))
  c_Unknown : mg "Unknown" = some (.ref (He.ga K "Unknown"))
  c_Unlike : mg "Unlike" = some (.ref (He.ga K "Unlike"))
  e_BadName : ErrN K (He.ga K "BadName") "BadName.__init__" ["name"] (defArgs q_BadName) (defBody q_BadName) (defScope q_BadName)
  errs : Errs K ((["BadName"] : List PySem.Str))
  flds : ∀ p ∈ (([("BadName", "name")] : List (PySem.Str × PySem.Str))), PySem.W.findIn K (.ref (He.ga K p.1)) p.2 = some none
section
variable {P : Program} {w : World} {K : PySem.W.Frag} {mg : Str → Option Value} {base : Heap} {p : Addr × Obj}
theorem LN (T : Txt K mg) {L : List Str} (h : ∀ c ∈ L, c ∈ ((["BadName"] : List PySem.Str)) := by decide +kernel) : ∀ cn ∈ L, PySem.W.exmOne K (.ref (He.ga K cn)) (.ref (He.ga K "NestError")) = some true := fun cn z => (T.errs.f cn (h cn z)).nest
theorem LE (T : Txt K mg) {L : List Str} (h : ∀ c ∈ L, c ∈ ((["BadName"] : List PySem.Str)) := by decide +kernel) : Errs K L := ⟨fun c z => T.errs.f c (h c z)⟩
theorem LSa : ∀ c ∈ ((["BadName"] : List PySem.Str)), ((kindsAll (inL (kindsOf c))).filter (·.2)).map (·.1) = kindsOf c ∧ (kindsOf c).length ≤ 100 := by decide +kernel
theorem LS {L : List Str} (h : ∀ c ∈ L, c ∈ ((["BadName"] : List PySem.Str)) := by decide +kernel) : ∀ c ∈ L, sel (kindsAll (inL (kindsOf c))) = (kindsOf c).map V.str ∧ (kindsOf c).length ≤ 100 := fun c z => by
  obtain ⟨e, l⟩ := LSa c (h c z)
  refine ⟨?_, l⟩
  have y := congrArg (List.map V.str) e
  rw [List.map_map] at y
  exact y
theorem LX (T : Txt K mg) {L : List (Str × Str)} (h : ∀ c ∈ L, c ∈ (([("BadName", "name")] : List (PySem.Str × PySem.Str))) ∧ c.1 ∈ ((["BadName"] : List PySem.Str)) := by decide +kernel) : ∀ c ∈ L, XfC K (He.ga K c.1) ∧ PySem.W.findIn K (.ref (He.ga K c.1)) c.2 = some none := fun c z => ⟨(T.errs.f c.1 (h c z).2).xf, T.flds c (h c z).1⟩
theorem sc_BadName : FnScope (["self", "name"] : List Str) (["self", "name"] : List Str) (defScope q_BadName) := ⟨rfl, rfl, rfl, by decide +kernel, rfl, by decide +kernel, by decide +kernel⟩
theorem i1_BadName (T : Txt K mg) : InitOk P w K mg base (He.ga K "BadName") 1 (["self", "name"] : List Str) (sp_init1 K (He.ga K "BadName") "name") :=
  init1 ⟨T.e_BadName.o, T.e_BadName.n "name" List.mem_cons_self, T.e_BadName.ex⟩ sc_BadName (fun _ _ _ _ _ _ us hl => match us, hl with | [_, _], _ => rfl) (fun _ _ _ _ _ _ _ => pss_one (ps_ost (pv 0) (pv 1)))
theorem sc_mix : FnScope ["seed", "turn", "one", "two"] ["seed", "turn"] (defScope q_mix) := ⟨rfl, rfl, rfl, by decide +kernel, rfl, by decide +kernel, by decide +kernel⟩
theorem h_mix (T : Txt K mg) : Has P w K mg base "_law_mix" 1 ["seed", "turn"] sp_mix := by
  refine has_of (N := ["seed", "turn", "one", "two"]) (k := 0) (t := t_mix K) T.g_mix T.F_mix sc_mix NW.l_mix (fun _ _ _ _ _ _ us hl => match us, hl with | [_, _], _ => rfl) (fun cdv A outer s H E hr => ?_) (p_mix K)
  exact (pss_cons (ps_set (i := 2) sc_mix.nd rfl (Or.inl rfl) (pe_op oMod (pe_op oAdd (pe_op oAdd (pe_op oMul (pe_callTy cInt (by rfl) T.z_int (by decide +kernel) (pa_cons (pv 0) pa_nil)) pe_int) (pe_op oMul (pe_callTy cInt (by rfl) T.z_int (by decide +kernel) (pa_cons (pv 1) pa_nil)) pe_int)) pe_int) pe_int))
    (pss_cons (ps_set (i := 3) sc_mix.nd rfl (Or.inl rfl) (pe_op oMod (pe_op oAdd (pe_op oAdd (pe_op oAdd (pe_op oMul (pv 2) (pv 2)) (pv 2)) (pe_callTy cInt (by rfl) T.z_int (by decide +kernel) (pa_cons (pv 0) pa_nil))) (pe_callTy cInt (by rfl) T.z_int (by decide +kernel) (pa_cons (pv 1) pa_nil))) pe_int))
    (pss_one (ps_ret (pe_op oMod (pe_op oAdd (pe_op oAdd (pe_op oMul (pv 3) (pv 3)) (pe_op oMul pe_int (pv 3))) (pv 2)) pe_int)))))
theorem sc_take : FnScope ["store", "many", "cell", "digits", "number", "room", "k"] ["store", "many"] (defScope q_take) := ⟨rfl, rfl, rfl, by decide +kernel, rfl, by decide +kernel, by decide +kernel⟩
theorem h0_take (T : Txt K mg) : Has P w K mg base "_law_take" 2 ["store", "many"] sp_take := by
  refine has_of (N := ["store", "many", "cell", "digits", "number", "room", "k"]) (k := 1) (t := t_take K) T.g_take T.F_take sc_take NW.l_take (fun _ _ _ _ _ _ us hl => match us, hl with | [_, _], _ => rfl) (fun cdv A outer s H E hr => ?_) (p_take K)
  exact (pss_cons (ps_if (pt_cmpR oLt (pv 1) pe_int (nomark _)) (pss_one (ps_ret pe_int)) pss_nil)
    (pss_cut (ps_if (pw_and (pt_cmpR oEq (pe_ix oIx (pv 0) pe_int (fun _ _ => rfl)) pe_int (nomark _)) (pw_and (pt_cmpR oEq (pe_ix oIx (pv 0) pe_int (fun _ _ => rfl)) pe_int (nomark _)) (pw_and1 (pt_cmpR oLt (pe_ix oIx (pv 0) pe_int (fun _ _ => rfl)) (pe_callB cLen (by rfl) T.z_len (by decide +kernel) (pa_cons (pe_ix oIx (pv 0) pe_int (fun _ _ => rfl)) pa_nil)) (nomark _))))).pt (pss_cons (ps_set (i := 2) sc_take.nd rfl (Or.inl rfl) (pe_callTy cInt (by rfl) T.z_int (by decide +kernel) (pa_cons (pe_ix oIx (pe_ix oIx (pv 0) pe_int (fun _ _ => rfl)) (pe_ix oIx (pv 0) pe_int (fun _ _ => rfl)) (fun _ _ => rfl)) pa_nil)))
    (pss_cons (ps_augS (pv 0) pe_int getL pe_int ioAdd oSet)
    (pss_cons (ps_asg (pe_op oMod (pe_callTy cInt (by rfl) T.z_int (by decide +kernel) (pa_cons (pe_op oAdd (pe_op oMul (pe_ix oIx (pv 0) pe_int (fun _ _ => rfl)) pe_int) (pv 2)) pa_nil)) pe_int) (pg_sub (pv 0) pe_int oSet))
    (pss_one (ps_if (pt_cmpR oGe (pe_callB call_abs (by rfl) T.z_abs (by decide +kernel) (pa_cons (pv 2) pa_nil)) (pe_powc pe_int pe_int 1000000000000000000 (by decide +kernel)) (nomark _)) (pss_one (ps_asg (pe_callB call_abs (by rfl) T.z_abs (by decide +kernel) (pa_cons (pv 2) pa_nil)) (pg_sub (pv 0) pe_int oSet))) (pss_one (ps_asg pe_int (pg_sub (pv 0) pe_int oSet)))))))) pss_nil)
    (pss_cons (ps_augS (pv 0) pe_int getL pe_int ioAdd oSet)
    (pss_cons (ps_if (pt_cmpR oGt (pe_ix oIx (pv 0) pe_int (fun _ _ => rfl)) pe_int (nomark _)) (pss_cons (ps_set (i := 3) sc_take.nd rfl (Or.inl rfl) (pe_callTy cInt (by rfl) T.z_int (by decide +kernel) (pa_cons (pe_ix oIx (pv 0) pe_int (fun _ _ => rfl)) pa_nil)))
    (pss_cons (ps_asg (pe_op oDiv (pv 3) (pv 1)) (pg_sub (pv 0) pe_int oSet))
    (pss_one (ps_ret (pe_op oMod (pv 3) (pv 1)))))) pss_nil)
    (pss_cons (ps_asg (pe_callB (call_max2 rfl) (by rfl) T.z_max (by decide +kernel) (pa_cons pe_int (pa_cons (pe_op oSub (pe_ix oIx (pv 0) pe_int (fun _ _ => rfl)) pe_int) pa_nil))) (pg_sub (pv 0) pe_int oSet))
    (pss_cons (ps_set (i := 4) sc_take.nd rfl (Or.inl rfl) pe_int)
    (pss_cons (ps_set (i := 5) sc_take.nd rfl (Or.inl rfl) pe_int)
    (pss_cons (ps_for PassesOwn.never rfl (pi_range1 (by rfl) T.z_range (pa_cons pe_int pa_nil)) (pg_name (i := 6) sc_take.nd rfl (Or.inl rfl)) (pss_cons (ps_if (pt_cmpR oGe (pv 5) (pv 1) (nomark _)) (pss_one ps_break) pss_nil)
    (pss_cons (ps_set (i := 4) sc_take.nd rfl (Or.inl rfl) (pe_op oAdd (pe_op oMul (pv 4) pe_int) (pe_dc (h_mix T) hr (pa_cons (pe_ix oIx (pv 0) pe_int (fun _ _ => rfl)) (pa_cons (pe_op oAdd (pe_ix oIx (pv 0) pe_int (fun _ _ => rfl)) (pe_op oMul pe_int (pv 6))) pa_nil)))))
    (pss_one (ps_set (i := 5) sc_take.nd rfl (Or.inl rfl) (pe_op oMul (pv 5) pe_int))))))
    (pss_one (ps_ret (pe_op oMod (pe_callTy cInt (by rfl) T.z_int (by decide +kernel) (pa_cons (pv 4) pa_nil)) (pv 1))))))))))))
theorem h_take (T : Txt K mg) : Has P w K mg base "_law_take" 2 ["store", "many"] (dsp s_take) := Has.weak (h0_take T) take_weak
theorem sc_store : FnScope ["script"] ["script"] (defScope q_store) := ⟨rfl, rfl, rfl, by decide +kernel, rfl, by decide +kernel, by decide +kernel⟩
theorem h_store (T : Txt K mg) : Has P w K mg base "_law_store" 1 ["script"] (sp_store K) := by
  refine has_of (N := ["script"]) (k := 0) (t := t_store K) T.g_store T.F_store sc_store (l_store K) (fun _ _ _ _ _ _ us hl => match us, hl with | [_], _ => rfl) (fun cdv A outer s H E hr => ?_) (p_store K)
  exact (pss_one (ps_ret (pe_lst (pa_cons (pe_callTy cList (by rfl) T.z_list (by decide +kernel) (pa_cons (pv 0) pa_nil)) (pa_cons pe_int (pa_cons pe_int (pa_cons pe_int (pa_cons pe_int (pa_cons pe_int pa_nil)))))))))
theorem sc_same : FnScope ["one", "other", "k"] ["one", "other"] (defScope q_same) := ⟨rfl, rfl, rfl, by decide +kernel, rfl, by decide +kernel, by decide +kernel⟩
theorem h0_same (T : Txt K mg) : ∀ n, Has P w K mg base "_law_same" n ["one", "other"] (sp_same n)
  | 0 => has0 T.g_same T.F_same (fun _ _ _ _ _ _ us hl => match us, hl with | [_, _], _ => rfl) (fun _ _ _ _ h => h)
  | n + 1 => by
    have ih : Has P w K mg base "_law_same" n ["one", "other"] (sp_same n) := h0_same T n
    refine has_of (N := ["one", "other", "k"]) (k := n) (t := t_same K n) T.g_same T.F_same sc_same (NW.l_same (n + 1)) (fun _ _ _ _ _ _ us hl => match us, hl with | [_, _], _ => rfl) (fun cdv A outer s H E hr => ?_) (p_same K n)
    exact (pss_cons (ps_if (pw_or (pt_cmp (pc_isN (pv 0))) (pw_or1 (pt_cmp (pc_isN (pv 1))))).pt (pss_one (ps_ret (pe_and (pe_cmp (pc_isN (pv 0))) (pe_one (pe_cmp (pc_isN (pv 1))))))) pss_nil)
    (pss_cons (ps_if (pw_or (pt_truth (pe_callB cIsi (by rfl) T.z_isinstance (by decide +kernel) (pa_cons (pv 0) (pa_cons (pe_bltn (v := .ty "bool") (u := .type "bool") (by rfl) T.z_bool (by rfl) (by rfl)) pa_nil))) (fun _ => rfl)) (pw_or1 (pt_truth (pe_callB cIsi (by rfl) T.z_isinstance (by decide +kernel) (pa_cons (pv 1) (pa_cons (pe_bltn (v := .ty "bool") (u := .type "bool") (by rfl) T.z_bool (by rfl) (by rfl)) pa_nil))) (fun _ => rfl)))).pt (pss_one (ps_ret (pe_and (pe_callB cIsi (by rfl) T.z_isinstance (by decide +kernel) (pa_cons (pv 0) (pa_cons (pe_bltn (v := .ty "bool") (u := .type "bool") (by rfl) T.z_bool (by rfl) (by rfl)) pa_nil))) (pe_and (pe_callB cIsi (by rfl) T.z_isinstance (by decide +kernel) (pa_cons (pv 1) (pa_cons (pe_bltn (v := .ty "bool") (u := .type "bool") (by rfl) T.z_bool (by rfl) (by rfl)) pa_nil))) (pe_one (pe_cmpR oEq (pv 0) (pv 1) (nomark _))))))) pss_nil)
    (pss_cons (ps_if (pt_truth (pe_callB cIsi (by rfl) T.z_isinstance (by decide +kernel) (pa_cons (pv 0) (pa_cons (pe_bltn (v := .ty "int") (u := .type "int") (by rfl) T.z_int (by rfl) (by rfl)) pa_nil))) (fun _ => rfl)) (pss_one (ps_ret (pe_and (pe_callB cIsi (by rfl) T.z_isinstance (by decide +kernel) (pa_cons (pv 1) (pa_cons (pe_bltn (v := .ty "int") (u := .type "int") (by rfl) T.z_int (by rfl) (by rfl)) pa_nil))) (pe_one (pe_cmpR oEq (pv 0) (pv 1) (nomark _)))))) pss_nil)
    (pss_cons (ps_if (pt_truth (pe_callB cIsi (by rfl) T.z_isinstance (by decide +kernel) (pa_cons (pv 0) (pa_cons (pe_bltn (v := .ty "str") (u := .type "str") (by rfl) T.z_str (by rfl) (by rfl)) pa_nil))) (fun _ => rfl)) (pss_one (ps_ret (pe_and (pe_callB cIsi (by rfl) T.z_isinstance (by decide +kernel) (pa_cons (pv 1) (pa_cons (pe_bltn (v := .ty "str") (u := .type "str") (by rfl) T.z_str (by rfl) (by rfl)) pa_nil))) (pe_one (pe_cmpR oEq (pv 0) (pv 1) (nomark _)))))) pss_nil)
    (pss_cons (ps_if (pt_truth (pe_callB cIsi (by rfl) T.z_isinstance (by decide +kernel) (pa_cons (pv 0) (pa_cons (pe_bltn (v := .ty "dict") (u := .type "dict") (by rfl) T.z_dict (by rfl) (by rfl)) pa_nil))) (fun _ => rfl)) pss_never pss_nil)
    (pss_cons (ps_if (pw_and (pt_truth (pe_callB cIsi (by rfl) T.z_isinstance (by decide +kernel) (pa_cons (pv 0) (pa_cons (pe_bltn (v := .ty "list") (u := .type "list") (by rfl) T.z_list (by rfl) (by rfl)) pa_nil))) (fun _ => rfl)) (pw_and1 (pt_not (pt_truth (pe_callB cIsi (by rfl) T.z_isinstance (by decide +kernel) (pa_cons (pv 1) (pa_cons (pe_bltn (v := .ty "list") (u := .type "list") (by rfl) T.z_list (by rfl) (by rfl)) pa_nil))) (fun _ => rfl))))).pt (pss_one (ps_ret pe_bl)) pss_nil)
    (pss_cons (ps_if (pw_and (pt_truth (pe_callB cIsi (by rfl) T.z_isinstance (by decide +kernel) (pa_cons (pv 0) (pa_cons (pe_bltn (v := .ty "tuple") (u := .type "tuple") (by rfl) T.z_tuple (by rfl) (by rfl)) pa_nil))) (fun _ => rfl)) (pw_and1 (pt_not (pt_truth (pe_callB cIsi (by rfl) T.z_isinstance (by decide +kernel) (pa_cons (pv 1) (pa_cons (pe_bltn (v := .ty "tuple") (u := .type "tuple") (by rfl) T.z_tuple (by rfl) (by rfl)) pa_nil))) (fun _ => rfl))))).pt (pss_one (ps_ret pe_bl)) pss_nil)
    (pss_cons (ps_if (pw_or (pt_not (pt_truth (pe_callB cIsi (by rfl) T.z_isinstance (by decide +kernel) (pa_cons (pv 0) (pa_cons (pe_tup (pa_cons (pe_bltn (v := .ty "list") (u := .type "list") (by rfl) T.z_list (by rfl) (by rfl)) (pa_cons (pe_bltn (v := .ty "tuple") (u := .type "tuple") (by rfl) T.z_tuple (by rfl) (by rfl)) pa_nil))) pa_nil))) (fun _ => rfl))) (pw_or1 (pt_cmpR oNe (pe_callB cLen (by rfl) T.z_len (by decide +kernel) (pa_cons (pv 0) pa_nil)) (pe_callB cLen (by rfl) T.z_len (by decide +kernel) (pa_cons (pv 1) pa_nil)) (nomark _)))).pt (pss_one (ps_ret pe_bl)) pss_nil)
    (pss_cons (ps_for PassesOwn.never rfl (pi_range1 (by rfl) T.z_range (pa_cons (pe_callB cLen (by rfl) T.z_len (by decide +kernel) (pa_cons (pv 0) pa_nil)) pa_nil)) (pg_name (i := 2) sc_same.nd rfl (Or.inl rfl)) (pss_one (ps_if (pt_not (pt_truth (pe_dc ih hr (pa_cons (pe_ix oIx (pv 0) (pv 2) (fun _ _ => rfl)) (pa_cons (pe_ix oIx (pv 1) (pv 2) (fun _ _ => rfl)) pa_nil)) (Nat.le_refl _)) (fun _ => rfl))) (pss_one (ps_ret pe_bl)) pss_nil)))
    (pss_one (ps_ret pe_bl)))))))))))
theorem hh0_same (T : Txt K mg) : ∀ n, HasH P w K mg base p "_law_same" n ["one", "other"] (sp_same n)
  | 0 => hasH0 T.g_same T.F_same (fun _ _ _ _ _ _ us hl => match us, hl with | [_, _], _ => rfl) (fun _ _ _ _ h => h)
  | n + 1 => by
    have ih : HasH P w K mg base p "_law_same" n ["one", "other"] (sp_same n) := hh0_same T n
    refine hasH_of (N := ["one", "other", "k"]) (k := n) (t := t_same K n) T.g_same T.F_same sc_same (NW.l_same (n + 1)) (fun _ _ _ _ _ _ us hl => match us, hl with | [_, _], _ => rfl) (fun cdv A outer s H hr hp => ?_) (p_same K n)
    exact (pss_cons (ps_if (pw_or (pt_cmp (pc_isN (pv 0))) (pw_or1 (pt_cmp (pc_isN (pv 1))))).pt (pss_one (ps_ret (pe_and (pe_cmp (pc_isN (pv 0))) (pe_one (pe_cmp (pc_isN (pv 1))))))) pss_nil)
    (pss_cons (ps_if (pw_or (pt_truth (pe_callB cIsi (by rfl) T.z_isinstance (by decide +kernel) (pa_cons (pv 0) (pa_cons (pe_bltn (v := .ty "bool") (u := .type "bool") (by rfl) T.z_bool (by rfl) (by rfl)) pa_nil))) (fun _ => rfl)) (pw_or1 (pt_truth (pe_callB cIsi (by rfl) T.z_isinstance (by decide +kernel) (pa_cons (pv 1) (pa_cons (pe_bltn (v := .ty "bool") (u := .type "bool") (by rfl) T.z_bool (by rfl) (by rfl)) pa_nil))) (fun _ => rfl)))).pt (pss_one (ps_ret (pe_and (pe_callB cIsi (by rfl) T.z_isinstance (by decide +kernel) (pa_cons (pv 0) (pa_cons (pe_bltn (v := .ty "bool") (u := .type "bool") (by rfl) T.z_bool (by rfl) (by rfl)) pa_nil))) (pe_and (pe_callB cIsi (by rfl) T.z_isinstance (by decide +kernel) (pa_cons (pv 1) (pa_cons (pe_bltn (v := .ty "bool") (u := .type "bool") (by rfl) T.z_bool (by rfl) (by rfl)) pa_nil))) (pe_one (pe_cmpR oEq (pv 0) (pv 1) (nomark _))))))) pss_nil)
    (pss_cons (ps_if (pt_truth (pe_callB cIsi (by rfl) T.z_isinstance (by decide +kernel) (pa_cons (pv 0) (pa_cons (pe_bltn (v := .ty "int") (u := .type "int") (by rfl) T.z_int (by rfl) (by rfl)) pa_nil))) (fun _ => rfl)) (pss_one (ps_ret (pe_and (pe_callB cIsi (by rfl) T.z_isinstance (by decide +kernel) (pa_cons (pv 1) (pa_cons (pe_bltn (v := .ty "int") (u := .type "int") (by rfl) T.z_int (by rfl) (by rfl)) pa_nil))) (pe_one (pe_cmpR oEq (pv 0) (pv 1) (nomark _)))))) pss_nil)
    (pss_cons (ps_if (pt_truth (pe_callB cIsi (by rfl) T.z_isinstance (by decide +kernel) (pa_cons (pv 0) (pa_cons (pe_bltn (v := .ty "str") (u := .type "str") (by rfl) T.z_str (by rfl) (by rfl)) pa_nil))) (fun _ => rfl)) (pss_one (ps_ret (pe_and (pe_callB cIsi (by rfl) T.z_isinstance (by decide +kernel) (pa_cons (pv 1) (pa_cons (pe_bltn (v := .ty "str") (u := .type "str") (by rfl) T.z_str (by rfl) (by rfl)) pa_nil))) (pe_one (pe_cmpR oEq (pv 0) (pv 1) (nomark _)))))) pss_nil)
    (pss_cons (ps_if (pt_truth (pe_callB cIsi (by rfl) T.z_isinstance (by decide +kernel) (pa_cons (pv 0) (pa_cons (pe_bltn (v := .ty "dict") (u := .type "dict") (by rfl) T.z_dict (by rfl) (by rfl)) pa_nil))) (fun _ => rfl)) pss_never pss_nil)
    (pss_cons (ps_if (pw_and (pt_truth (pe_callB cIsi (by rfl) T.z_isinstance (by decide +kernel) (pa_cons (pv 0) (pa_cons (pe_bltn (v := .ty "list") (u := .type "list") (by rfl) T.z_list (by rfl) (by rfl)) pa_nil))) (fun _ => rfl)) (pw_and1 (pt_not (pt_truth (pe_callB cIsi (by rfl) T.z_isinstance (by decide +kernel) (pa_cons (pv 1) (pa_cons (pe_bltn (v := .ty "list") (u := .type "list") (by rfl) T.z_list (by rfl) (by rfl)) pa_nil))) (fun _ => rfl))))).pt (pss_one (ps_ret pe_bl)) pss_nil)
    (pss_cons (ps_if (pw_and (pt_truth (pe_callB cIsi (by rfl) T.z_isinstance (by decide +kernel) (pa_cons (pv 0) (pa_cons (pe_bltn (v := .ty "tuple") (u := .type "tuple") (by rfl) T.z_tuple (by rfl) (by rfl)) pa_nil))) (fun _ => rfl)) (pw_and1 (pt_not (pt_truth (pe_callB cIsi (by rfl) T.z_isinstance (by decide +kernel) (pa_cons (pv 1) (pa_cons (pe_bltn (v := .ty "tuple") (u := .type "tuple") (by rfl) T.z_tuple (by rfl) (by rfl)) pa_nil))) (fun _ => rfl))))).pt (pss_one (ps_ret pe_bl)) pss_nil)
    (pss_cons (ps_if (pw_or (pt_not (pt_truth (pe_callB cIsi (by rfl) T.z_isinstance (by decide +kernel) (pa_cons (pv 0) (pa_cons (pe_tup (pa_cons (pe_bltn (v := .ty "list") (u := .type "list") (by rfl) T.z_list (by rfl) (by rfl)) (pa_cons (pe_bltn (v := .ty "tuple") (u := .type "tuple") (by rfl) T.z_tuple (by rfl) (by rfl)) pa_nil))) pa_nil))) (fun _ => rfl))) (pw_or1 (pt_cmpR oNe (pe_callB cLen (by rfl) T.z_len (by decide +kernel) (pa_cons (pv 0) pa_nil)) (pe_callB cLen (by rfl) T.z_len (by decide +kernel) (pa_cons (pv 1) pa_nil)) (nomark _)))).pt (pss_one (ps_ret pe_bl)) pss_nil)
    (pss_cons (L2H.ps_forH PassesOwn.never hp.c (L2H.pi_range1H (by rfl) T.z_range (pa_cons (pe_callB cLen (by rfl) T.z_len (by decide +kernel) (pa_cons (pv 0) pa_nil)) pa_nil)) (pg_name (i := 2) sc_same.nd rfl (Or.inl rfl)) (pss_one (ps_if (pt_not (pt_truth (pe_hc ih hr hp (pa_cons (pe_ix oIx (pv 0) (pv 2) (fun _ _ => rfl)) (pa_cons (pe_ix oIx (pv 1) (pv 2) (fun _ _ => rfl)) pa_nil)) (Nat.le_refl _)) (fun _ => rfl))) (pss_one (ps_ret pe_bl)) pss_nil)))
    (pss_one (ps_ret pe_bl)))))))))))
theorem h_same (T : Txt K mg) : ∀ n, Has P w K mg base "_law_same" (n + 1) ["one", "other"] (dsp (s_same (n + 1))) := fun n => Has.weak (h0_same T (n + 1)) (same_weak n)
theorem hh_same (T : Txt K mg) : ∀ n, HasH P w K mg base p "_law_same" (n + 1) ["one", "other"] (dsp (s_same (n + 1))) := fun n => HasH.weak (hh0_same T (n + 1)) (same_weak n)
theorem sc_kinds : FnScope ["error", "rows", "row"] ["error"] (defScope q_kinds) := ⟨rfl, rfl, rfl, by decide +kernel, rfl, by decide +kernel, by decide +kernel⟩
theorem hh_kinds (T : Txt K mg) {E : Addr} {d : Option Addr} {b : Str → Bool} (F : KitF K E b) (F1 : ExcC K E) (F2 : Zc (.ref E) d p.2) (F3 : ∃ vs, p.2.data = .fields vs) : HasH P w K mg base p "_law_kinds" 1 ["error"] (sp_kindF E p.1 d b) := by
  refine hasH_of (N := ["error", "rows", "row"]) (k := 0) (t := (t_kinds K E p.1 d)) T.g_kinds T.F_kinds sc_kinds (l_kindF E p.1 d b) (fun _ _ _ _ _ _ us hl => match us, hl with | [_], _ => rfl) (fun cdv A outer s H hr hp => ?_) (fun vs H Q X => p_kindF K E p.1 d b F vs H Q X)
  exact (pss_cons (ps_set (i := 1) sc_kinds.nd rfl (Or.inl rfl) (pe_lst (pa_cons (pe_tup (pa_cons pe_str (pa_cons (pe_callB (call_isP F1 hp.mem F2 F3) (by rfl) T.z_isinstance (by decide +kernel) (pa_cons (pv 0) (pa_cons (pe_bltn (v := .ty "ValueError") (u := .type "ValueError") (by rfl) T.z_ValueError (by rfl) (by rfl)) pa_nil))) pa_nil))) (pa_cons (pe_tup (pa_cons pe_str (pa_cons (pe_callB (call_isP F1 hp.mem F2 F3) (by rfl) T.z_isinstance (by decide +kernel) (pa_cons (pv 0) (pa_cons (pe_glob (by rfl) T.c_NestError (by rfl)) pa_nil))) pa_nil))) pa_nil))))
    (pss_cons (ps_set (i := 1) sc_kinds.nd rfl (Or.inl rfl) (pe_op oAdd (pv 1) (pe_lst (pa_cons (pe_tup (pa_cons pe_str (pa_cons (pe_callB (call_isP F1 hp.mem F2 F3) (by rfl) T.z_isinstance (by decide +kernel) (pa_cons (pv 0) (pa_cons (pe_glob (by rfl) T.c_Refusal (by rfl)) pa_nil))) pa_nil))) (pa_cons (pe_tup (pa_cons pe_str (pa_cons (pe_callB (call_isP F1 hp.mem F2 F3) (by rfl) T.z_isinstance (by decide +kernel) (pa_cons (pv 0) (pa_cons (pe_glob (by rfl) T.c_BadName (by rfl)) pa_nil))) pa_nil))) pa_nil)))))
    (pss_cons (ps_set (i := 1) sc_kinds.nd rfl (Or.inl rfl) (pe_op oAdd (pv 1) (pe_lst (pa_cons (pe_tup (pa_cons pe_str (pa_cons (pe_callB (call_isP F1 hp.mem F2 F3) (by rfl) T.z_isinstance (by decide +kernel) (pa_cons (pv 0) (pa_cons (pe_glob (by rfl) T.c_BadWeight (by rfl)) pa_nil))) pa_nil))) (pa_cons (pe_tup (pa_cons pe_str (pa_cons (pe_callB (call_isP F1 hp.mem F2 F3) (by rfl) T.z_isinstance (by decide +kernel) (pa_cons (pv 0) (pa_cons (pe_glob (by rfl) T.c_BadNumber (by rfl)) pa_nil))) pa_nil))) pa_nil)))))
    (pss_cons (ps_set (i := 1) sc_kinds.nd rfl (Or.inl rfl) (pe_op oAdd (pv 1) (pe_lst (pa_cons (pe_tup (pa_cons pe_str (pa_cons (pe_callB (call_isP F1 hp.mem F2 F3) (by rfl) T.z_isinstance (by decide +kernel) (pa_cons (pv 0) (pa_cons (pe_glob (by rfl) T.c_BadCount (by rfl)) pa_nil))) pa_nil))) (pa_cons (pe_tup (pa_cons pe_str (pa_cons (pe_callB (call_isP F1 hp.mem F2 F3) (by rfl) T.z_isinstance (by decide +kernel) (pa_cons (pv 0) (pa_cons (pe_glob (by rfl) T.c_Twice (by rfl)) pa_nil))) pa_nil))) pa_nil)))))
    (pss_cons (ps_set (i := 1) sc_kinds.nd rfl (Or.inl rfl) (pe_op oAdd (pv 1) (pe_lst (pa_cons (pe_tup (pa_cons pe_str (pa_cons (pe_callB (call_isP F1 hp.mem F2 F3) (by rfl) T.z_isinstance (by decide +kernel) (pa_cons (pv 0) (pa_cons (pe_glob (by rfl) T.c_Unknown (by rfl)) pa_nil))) pa_nil))) (pa_cons (pe_tup (pa_cons pe_str (pa_cons (pe_callB (call_isP F1 hp.mem F2 F3) (by rfl) T.z_isinstance (by decide +kernel) (pa_cons (pv 0) (pa_cons (pe_glob (by rfl) T.c_NoHolder (by rfl)) pa_nil))) pa_nil))) pa_nil)))))
    (pss_cons (ps_set (i := 1) sc_kinds.nd rfl (Or.inl rfl) (pe_op oAdd (pv 1) (pe_lst (pa_cons (pe_tup (pa_cons pe_str (pa_cons (pe_callB (call_isP F1 hp.mem F2 F3) (by rfl) T.z_isinstance (by decide +kernel) (pa_cons (pv 0) (pa_cons (pe_glob (by rfl) T.c_Loop (by rfl)) pa_nil))) pa_nil))) (pa_cons (pe_tup (pa_cons pe_str (pa_cons (pe_callB (call_isP F1 hp.mem F2 F3) (by rfl) T.z_isinstance (by decide +kernel) (pa_cons (pv 0) (pa_cons (pe_glob (by rfl) T.c_Short (by rfl)) pa_nil))) pa_nil))) pa_nil)))))
    (pss_cons (ps_set (i := 1) sc_kinds.nd rfl (Or.inl rfl) (pe_op oAdd (pv 1) (pe_lst (pa_cons (pe_tup (pa_cons pe_str (pa_cons (pe_callB (call_isP F1 hp.mem F2 F3) (by rfl) T.z_isinstance (by decide +kernel) (pa_cons (pv 0) (pa_cons (pe_glob (by rfl) T.c_BadText (by rfl)) pa_nil))) pa_nil))) (pa_cons (pe_tup (pa_cons pe_str (pa_cons (pe_callB (call_isP F1 hp.mem F2 F3) (by rfl) T.z_isinstance (by decide +kernel) (pa_cons (pv 0) (pa_cons (pe_glob (by rfl) T.c_OtherYard (by rfl)) pa_nil))) pa_nil))) pa_nil)))))
    (pss_cons (ps_set (i := 1) sc_kinds.nd rfl (Or.inl rfl) (pe_op oAdd (pv 1) (pe_lst (pa_cons (pe_tup (pa_cons pe_str (pa_cons (pe_callB (call_isP F1 hp.mem F2 F3) (by rfl) T.z_isinstance (by decide +kernel) (pa_cons (pv 0) (pa_cons (pe_glob (by rfl) T.c_Same (by rfl)) pa_nil))) pa_nil))) (pa_cons (pe_tup (pa_cons pe_str (pa_cons (pe_callB (call_isP F1 hp.mem F2 F3) (by rfl) T.z_isinstance (by decide +kernel) (pa_cons (pv 0) (pa_cons (pe_glob (by rfl) T.c_Inside (by rfl)) pa_nil))) pa_nil))) pa_nil)))))
    (pss_cons (ps_set (i := 1) sc_kinds.nd rfl (Or.inl rfl) (pe_op oAdd (pv 1) (pe_lst (pa_cons (pe_tup (pa_cons pe_str (pa_cons (pe_callB (call_isP F1 hp.mem F2 F3) (by rfl) T.z_isinstance (by decide +kernel) (pa_cons (pv 0) (pa_cons (pe_glob (by rfl) T.c_Unlike (by rfl)) pa_nil))) pa_nil))) (pa_cons (pe_tup (pa_cons pe_str (pa_cons (pe_callB (call_isP F1 hp.mem F2 F3) (by rfl) T.z_isinstance (by decide +kernel) (pa_cons (pv 0) (pa_cons (pe_glob (by rfl) T.c_Nailed (by rfl)) pa_nil))) pa_nil))) pa_nil)))))
    (pss_cons (ps_set (i := 1) sc_kinds.nd rfl (Or.inl rfl) (pe_op oAdd (pv 1) (pe_lst (pa_cons (pe_tup (pa_cons pe_str (pa_cons (pe_callB (call_isP F1 hp.mem F2 F3) (by rfl) T.z_isinstance (by decide +kernel) (pa_cons (pv 0) (pa_cons (pe_glob (by rfl) T.c_Sealed (by rfl)) pa_nil))) pa_nil))) (pa_cons (pe_tup (pa_cons pe_str (pa_cons (pe_callB (call_isP F1 hp.mem F2 F3) (by rfl) T.z_isinstance (by decide +kernel) (pa_cons (pv 0) (pa_cons (pe_glob (by rfl) T.c_Idle (by rfl)) pa_nil))) pa_nil))) pa_nil)))))
    (pss_cons (ps_set (i := 1) sc_kinds.nd rfl (Or.inl rfl) (pe_op oAdd (pv 1) (pe_lst (pa_cons (pe_tup (pa_cons pe_str (pa_cons (pe_callB (call_isP F1 hp.mem F2 F3) (by rfl) T.z_isinstance (by decide +kernel) (pa_cons (pv 0) (pa_cons (pe_glob (by rfl) T.c_Broken (by rfl)) pa_nil))) pa_nil))) (pa_cons (pe_tup (pa_cons pe_str (pa_cons (pe_callB (call_isP F1 hp.mem F2 F3) (by rfl) T.z_isinstance (by decide +kernel) (pa_cons (pv 0) (pa_cons (pe_glob (by rfl) T.c_NotComing (by rfl)) pa_nil))) pa_nil))) pa_nil)))))
    (pss_cons (ps_set (i := 1) sc_kinds.nd rfl (Or.inl rfl) (pe_op oAdd (pv 1) (pe_lst (pa_cons (pe_tup (pa_cons pe_str (pa_cons (pe_callB (call_isP F1 hp.mem F2 F3) (by rfl) T.z_isinstance (by decide +kernel) (pa_cons (pv 0) (pa_cons (pe_glob (by rfl) T.c_Unbalanced (by rfl)) pa_nil))) pa_nil))) (pa_cons (pe_tup (pa_cons pe_str (pa_cons (pe_callB (call_isP F1 hp.mem F2 F3) (by rfl) T.z_isinstance (by decide +kernel) (pa_cons (pv 0) (pa_cons (pe_glob (by rfl) T.c_TooMany (by rfl)) pa_nil))) pa_nil))) pa_nil)))))
    (pss_cons (ps_set (i := 1) sc_kinds.nd rfl (Or.inl rfl) (pe_op oAdd (pv 1) (pe_lst (pa_cons (pe_tup (pa_cons pe_str (pa_cons (pe_callB (call_isP F1 hp.mem F2 F3) (by rfl) T.z_isinstance (by decide +kernel) (pa_cons (pv 0) (pa_cons (pe_glob (by rfl) T.c_BadWish (by rfl)) pa_nil))) pa_nil))) (pa_cons (pe_tup (pa_cons pe_str (pa_cons (pe_callB (call_isP F1 hp.mem F2 F3) (by rfl) T.z_isinstance (by decide +kernel) (pa_cons (pv 0) (pa_cons (pe_glob (by rfl) T.c_Clash (by rfl)) pa_nil))) pa_nil))) pa_nil)))))
    (pss_cons (ps_set (i := 1) sc_kinds.nd rfl (Or.inl rfl) (pe_op oAdd (pv 1) (pe_lst (pa_cons (pe_tup (pa_cons pe_str (pa_cons (pe_callB (call_isP F1 hp.mem F2 F3) (by rfl) T.z_isinstance (by decide +kernel) (pa_cons (pv 0) (pa_cons (pe_glob (by rfl) T.c_OtherDoors (by rfl)) pa_nil))) pa_nil))) (pa_cons (pe_tup (pa_cons pe_str (pa_cons (pe_callB (call_isP F1 hp.mem F2 F3) (by rfl) T.z_isinstance (by decide +kernel) (pa_cons (pv 0) (pa_cons (pe_glob (by rfl) T.c_NoStory (by rfl)) pa_nil))) pa_nil))) pa_nil)))))
    (pss_cons (ps_set (i := 1) sc_kinds.nd rfl (Or.inl rfl) (pe_op oAdd (pv 1) (pe_lst (pa_cons (pe_tup (pa_cons pe_str (pa_cons (pe_callB (call_isP F1 hp.mem F2 F3) (by rfl) T.z_isinstance (by decide +kernel) (pa_cons (pv 0) (pa_cons (pe_glob (by rfl) T.c_BadOrder (by rfl)) pa_nil))) pa_nil))) (pa_cons (pe_tup (pa_cons pe_str (pa_cons (pe_callB (call_isP F1 hp.mem F2 F3) (by rfl) T.z_isinstance (by decide +kernel) (pa_cons (pv 0) (pa_cons (pe_glob (by rfl) T.c_OrderRefused (by rfl)) pa_nil))) pa_nil))) pa_nil)))))
    (pss_cons (ps_set (i := 1) sc_kinds.nd rfl (Or.inl rfl) (pe_op oAdd (pv 1) (pe_lst (pa_cons (pe_tup (pa_cons pe_str (pa_cons (pe_callB (call_isP F1 hp.mem F2 F3) (by rfl) T.z_isinstance (by decide +kernel) (pa_cons (pv 0) (pa_cons (pe_glob (by rfl) T.c_OutOfSteps (by rfl)) pa_nil))) pa_nil))) (pa_cons (pe_tup (pa_cons pe_str (pa_cons (pe_callB (call_isP F1 hp.mem F2 F3) (by rfl) T.z_isinstance (by decide +kernel) (pa_cons (pv 0) (pa_cons (pe_glob (by rfl) T.c_NotEmpty (by rfl)) pa_nil))) pa_nil))) pa_nil)))))
    (pss_cons (ps_set (i := 1) sc_kinds.nd rfl (Or.inl rfl) (pe_op oAdd (pv 1) (pe_lst (pa_cons (pe_tup (pa_cons pe_str (pa_cons (pe_callB (call_isP F1 hp.mem F2 F3) (by rfl) T.z_isinstance (by decide +kernel) (pa_cons (pv 0) (pa_cons (pe_glob (by rfl) T.c_NoChange (by rfl)) pa_nil))) pa_nil))) (pa_cons (pe_tup (pa_cons pe_str (pa_cons (pe_callB (call_isP F1 hp.mem F2 F3) (by rfl) T.z_isinstance (by decide +kernel) (pa_cons (pv 0) (pa_cons (pe_glob (by rfl) T.c_NothingDone (by rfl)) pa_nil))) pa_nil))) pa_nil)))))
    (pss_cons (ps_set (i := 1) sc_kinds.nd rfl (Or.inl rfl) (pe_op oAdd (pv 1) (pe_lst (pa_cons (pe_tup (pa_cons pe_str (pa_cons (pe_callB (call_isP F1 hp.mem F2 F3) (by rfl) T.z_isinstance (by decide +kernel) (pa_cons (pv 0) (pa_cons (pe_glob (by rfl) T.c_BadClaim (by rfl)) pa_nil))) pa_nil))) pa_nil))))
    (pss_one (ps_ret (pe_sel hp (pv 1) (fun _ => rfl) (by decide +kernel) rfl (by decide +kernel) (by decide +kernel))))))))))))))))))))))
theorem sc_edge : FnScope ["store"] ["store"] (defScope q_edge) := ⟨rfl, rfl, rfl, by decide +kernel, rfl, by decide +kernel, by decide +kernel⟩
theorem h_edge (T : Txt K mg) : Has P w K mg base "_law_edge" 3 ["store"] (dsp (s_edge)) := by
  refine has_of (N := ["store"]) (k := 2) (t := liftS (fun _ _ _ _ => False) (w_edge)) T.g_edge T.F_edge sc_edge (len_dsp (l_edge)) (fun _ _ _ _ _ _ us hl => match us, hl with | [_], _ => rfl) (fun cdv A outer s H E hr => ?_) (dl_start (o_edge))
  exact (dss1 (dret (dcmp oEq opEq (dp (dcall (pe_dc (h_take T) hr (dac (dv 0 (pv 0)) (dac dc_int dan))))) (dp dc_int) (nomark _))))
theorem sc_number : FnScope ["store", "low", "high", "manner"] ["store", "low", "high"] (defScope q_number) := ⟨rfl, rfl, rfl, by decide +kernel, rfl, by decide +kernel, by decide +kernel⟩
theorem h_number (T : Txt K mg) : Has P w K mg base "_law_number" 3 ["store", "low", "high"] (dsp (s_number)) := by
  refine has_of (N := ["store", "low", "high", "manner"]) (k := 2) (t := liftS (fun _ _ _ _ => False) (w_number)) T.g_number T.F_number sc_number (len_dsp (l_number)) (fun _ _ _ _ _ _ us hl => match us, hl with | [_, _, _], _ => rfl) (fun cdv A outer s H E hr => ?_) (dl_start (o_number))
  exact (dss (dasg 3 (fun _ h => ps_set (i := 3) sc_number.nd rfl (Or.inl rfl) h) (dcall (pe_dc (h_take T) hr (dac (dv 0 (pv 0)) (dac dc_int dan)))))
    (dss (difS (PW.pt (dor (dtcmp oEq opEq (dvP 3 (pv 3)) (dp dc_int) (nomark _)) (dor1 (dtcmp kLe opLe (dvP 2 (pv 2)) (dvP 1 (pv 1)) (nomark _))))) (dss1 (dret (dv 1 (pv 1)))) dss0)
    (dss (difS (dtcmp oEq opEq (dvP 3 (pv 3)) (dp dc_int) (nomark _)) (dss1 (dret (dv 2 (pv 2)))) dss0)
    (dss (difS (dtcmp oEq opEq (dvP 3 (pv 3)) (dp dc_int) (nomark _)) (dss1 (dret (dcb clMin (pe_callB (call_min2 rfl) (by rfl) T.z_min (by decide +kernel) (dbc (dvP 2 (pv 2)) (dbc (dp (dop oAdd opAdd (dp (dop oAdd opAdd (dvP 1 (pv 1)) (dp dc_int))) (dp (dcall (pe_dc (h_take T) hr (dac (dv 0 (pv 0)) (dac dc_int dan))))))) dbn)))))) dss0)
    (dss (difS (dtcmp oEq opEq (dvP 3 (pv 3)) (dp dc_int) (nomark _)) (dss1 (dret (dcb clMax (pe_callB (call_max2 rfl) (by rfl) T.z_max (by decide +kernel) (dbc (dvP 1 (pv 1)) (dbc (dp (dop oSub opSub (dp (dop oSub opSub (dvP 2 (pv 2)) (dp dc_int))) (dp (dcall (pe_dc (h_take T) hr (dac (dv 0 (pv 0)) (dac dc_int dan))))))) dbn)))))) dss0)
    (dss1 (dret (dop oAdd opAdd (dvP 1 (pv 1)) (dp (dcall (pe_dc (h_take T) hr (dac (dv 0 (pv 0)) (dac (dop oAdd opAdd (dp (dop oSub opSub (dvP 2 (pv 2)) (dvP 1 (pv 1)))) (dp dc_int)) dan)))))))))))))
theorem sc_pick : FnScope ["store", "row"] ["store", "row"] (defScope q_pick) := ⟨rfl, rfl, rfl, by decide +kernel, rfl, by decide +kernel, by decide +kernel⟩
theorem h_pick (T : Txt K mg) : Has P w K mg base "_law_pick" 3 ["store", "row"] (dsp (s_pick)) := by
  refine has_of (N := ["store", "row"]) (k := 2) (t := liftS (fun _ _ _ _ => False) (w_pick)) T.g_pick T.F_pick sc_pick (len_dsp (l_pick)) (fun _ _ _ _ _ _ us hl => match us, hl with | [_, _], _ => rfl) (fun cdv A outer s H E hr => ?_) (dl_start (o_pick))
  exact (dss1 (dret (dix oIx opIx (dvP 1 (pv 1)) (dp (dcall (pe_dc (h_take T) hr (dac (dv 0 (pv 0)) (dac (dcb clLen (pe_callB cLen (by rfl) T.z_len (by decide +kernel) (dbc (dvP 1 (pv 1)) dbn))) dan))))) (fun _ _ => rfl))))
theorem sc_shuffled : FnScope ["store", "row", "rest", "found", "k"] ["store", "row"] (defScope q_shuffled) := ⟨rfl, rfl, rfl, by decide +kernel, rfl, by decide +kernel, by decide +kernel⟩
theorem h_shuffled (T : Txt K mg) : Has P w K mg base "_law_shuffled" 3 ["store", "row"] (dsp (s_shuffled)) := by
  refine has_of (N := ["store", "row", "rest", "found", "k"]) (k := 2) (t := liftS (fun _ _ _ _ => False) (w_shuffled)) T.g_shuffled T.F_shuffled sc_shuffled (len_dsp (l_shuffled)) (fun _ _ _ _ _ _ us hl => match us, hl with | [_, _], _ => rfl) (fun cdv A outer s H E hr => ?_) (dl_start (o_shuffled))
  exact (dss (dasgO 2 (fun _ h => ps_set (i := 2) sc_shuffled.nd rfl (Or.inl rfl) h) (dlistF (fun _ h => pe_callTy cList (by rfl) T.z_list (by decide +kernel) (pa_cons h pa_nil)) (dvP 1 (pv 1))))
    (dss (dasgO 3 (fun _ h => ps_set (i := 3) sc_shuffled.nd rfl (Or.inl rfl) h) (dlstF dan))
    (dss (dfor PassesOwn.never rfl (diR1 (fun _ h => pi_range1 (by rfl) T.z_range h) (dac (dcb clLen (pe_callB cLen (by rfl) T.z_len (by decide +kernel) (dbc (dvP 1 (pv 1)) dbn))) dan)) (pg_name (i := 4) sc_shuffled.nd rfl (Or.inl rfl)) (tgN 4) (dss1 (dappPop 3 2 (fun _ h => ps_expr (pe_bm PySem.F.plainAttrs_list PySem.F.slot_list_append PySem.F.type_list_append mt_append (pv 3) (pa_cons (pe_bm PySem.F.plainAttrs_list PySem.F.slot_list_pop PySem.F.type_list_pop mt_popAt (pv 2) (pa_cons h pa_nil)) pa_nil))) (dcall (pe_dc (h_take T) hr (dac (dv 0 (pv 0)) (dac (dcb clLen (pe_callB cLen (by rfl) T.z_len (by decide +kernel) (dbc (dvP 2 (pv 2)) dbn))) dan)))))))
    (dss1 (dret (dv 3 (pv 3)))))))
theorem sc_row_of : FnScope ["store", "row"] ["store", "row"] (defScope q_row_of) := ⟨rfl, rfl, rfl, by decide +kernel, rfl, by decide +kernel, by decide +kernel⟩
theorem h_row_of (T : Txt K mg) : Has P w K mg base "_law_row_of" 3 ["store", "row"] (dsp (s_row_of)) := by
  refine has_of (N := ["store", "row"]) (k := 2) (t := liftS (fun _ _ _ _ => False) (w_row_of)) T.g_row_of T.F_row_of sc_row_of (len_dsp (l_row_of)) (fun _ _ _ _ _ _ us hl => match us, hl with | [_, _], _ => rfl) (fun cdv A outer s H E hr => ?_) (dl_start (o_row_of))
  exact (dss (difS (dtcmp oEq opEq (dp (dcall (pe_dc (h_take T) hr (dac (dv 0 (pv 0)) (dac dc_int dan))))) (dp dc_int) (nomark _)) (dss1 (dret (dcb clList (pe_callTy cList (by rfl) T.z_list (by decide +kernel) (dbc (dvP 1 (pv 1)) dbn))))) dss0)
    (dss1 (dret (dcb clTup (pe_callTy cTup (by rfl) T.z_tuple (by decide +kernel) (dbc (dvP 1 (pv 1)) dbn))))))
theorem sc_put : FnScope ["row", "at", "item"] ["row", "at", "item"] (defScope q_put) := ⟨rfl, rfl, rfl, by decide +kernel, rfl, by decide +kernel, by decide +kernel⟩
theorem h_put (T : Txt K mg) : Has P w K mg base "_law_put" 1 ["row", "at", "item"] (dsp (s_put)) := by
  refine has_of (N := ["row", "at", "item"]) (k := 0) (t := liftS (fun _ _ _ _ => False) (w_put)) T.g_put T.F_put sc_put (len_dsp (l_put)) (fun _ _ _ _ _ _ us hl => match us, hl with | [_, _, _], _ => rfl) (fun cdv A outer s H E hr => ?_) (dl_start (o_put))
  exact (dss1 (dret (dop oAdd opAdd (dp (dop oAdd opAdd (dp (dsl (dp (dcb clList (pe_callTy cList (by rfl) T.z_list (by decide +kernel) (dbc (dvP 0 (pv 0)) dbn)))) dpo0 (dpo (dvP 1 (pv 1))))) (dp (dlst (dac (dv 2 (pv 2)) dan))))) (dp (dsl (dp (dcb clList (pe_callTy cList (by rfl) T.z_list (by decide +kernel) (dbc (dvP 0 (pv 0)) dbn)))) (dpo (dvP 1 (pv 1))) dpo0)))))
theorem sc_sign : FnScope ["number"] ["number"] (defScope q_sign) := ⟨rfl, rfl, rfl, by decide +kernel, rfl, by decide +kernel, by decide +kernel⟩
theorem h_sign (T : Txt K mg) : Has P w K mg base "_law_sign" 1 ["number"] (dsp (s_sign)) := by
  refine has_of (N := ["number"]) (k := 0) (t := liftS (fun _ _ _ _ => False) (w_sign)) T.g_sign T.F_sign sc_sign (len_dsp (l_sign)) (fun _ _ _ _ _ _ us hl => match us, hl with | [_], _ => rfl) (fun cdv A outer s H E hr => ?_) (dl_start (o_sign))
  exact (dss1 (dret (dix oIx opIx (dp dc_str) (dp (dop oMod opMod (dp (dcb clInt (pe_callTy cInt (by rfl) T.z_int (by decide +kernel) (dbc (dvP 0 (pv 0)) dbn)))) (dp dc_int))) (fun _ _ => rfl))))
theorem sc_name_of : FnScope ["number", "size", "rest", "name", "k"] ["number"] (defScope q_name_of) := ⟨rfl, rfl, rfl, by decide +kernel, rfl, by decide +kernel, by decide +kernel⟩
theorem h_name_of (T : Txt K mg) : Has P w K mg base "_law_name_of" 2 ["number"] (dsp (s_name_of)) := by
  refine has_of (N := ["number", "size", "rest", "name", "k"]) (k := 1) (t := liftS (fun _ _ _ _ => False) (w_name_of)) T.g_name_of T.F_name_of sc_name_of (len_dsp (l_name_of)) (fun _ _ _ _ _ _ us hl => match us, hl with | [_], _ => rfl) (fun cdv A outer s H E hr => ?_) (dl_start (o_name_of))
  exact (dss (dasg 1 (fun _ h => ps_set (i := 1) sc_name_of.nd rfl (Or.inl rfl) h) (dop oMod opMod (dp (dcb clInt (pe_callTy cInt (by rfl) T.z_int (by decide +kernel) (dbc (dvP 0 (pv 0)) dbn)))) (dp dc_int)))
    (dss (dasg 2 (fun _ h => ps_set (i := 2) sc_name_of.nd rfl (Or.inl rfl) h) (dop oDiv opDiv (dp (dcb clInt (pe_callTy cInt (by rfl) T.z_int (by decide +kernel) (dbc (dvP 0 (pv 0)) dbn)))) (dp dc_int)))
    (dss (dasg 3 (fun _ h => ps_set (i := 3) sc_name_of.nd rfl (Or.inl rfl) h) (dcall (pe_dc (h_sign T) hr (dac (dop oMod opMod (dvP 2 (pv 2)) (dp dc_int)) dan))))
    (dss (dasg 2 (fun _ h => ps_set (i := 2) sc_name_of.nd rfl (Or.inl rfl) h) (dop oDiv opDiv (dvP 2 (pv 2)) (dp dc_int)))
    (dss (dfor PassesOwn.never rfl (diR1 (fun _ h => pi_range1 (by rfl) T.z_range h) (dac (dv 1 (pv 1)) dan)) (pg_name (i := 4) sc_name_of.nd rfl (Or.inl rfl)) (tgN 4) (dss (dasg 3 (fun _ h => ps_set (i := 3) sc_name_of.nd rfl (Or.inl rfl) h) (dop oAdd opAdd (dvP 3 (pv 3)) (dp (dcall (pe_dc (h_sign T) hr (dac (dop oMod opMod (dvP 2 (pv 2)) (dp dc_int)) dan))))))
    (dss1 (dasg 2 (fun _ h => ps_set (i := 2) sc_name_of.nd rfl (Or.inl rfl) h) (dop oDiv opDiv (dvP 2 (pv 2)) (dp dc_int))))))
    (dss1 (dret (dv 3 (pv 3)))))))))
theorem sc_name : FnScope ["store"] ["store"] (defScope q_name) := ⟨rfl, rfl, rfl, by decide +kernel, rfl, by decide +kernel, by decide +kernel⟩
theorem h_name (T : Txt K mg) : Has P w K mg base "_law_name" 3 ["store"] (dsp (s_name)) := by
  refine has_of (N := ["store"]) (k := 2) (t := liftS (fun _ _ _ _ => False) (w_name)) T.g_name T.F_name sc_name (len_dsp (l_name)) (fun _ _ _ _ _ _ us hl => match us, hl with | [_], _ => rfl) (fun cdv A outer s H E hr => ?_) (dl_start (o_name))
  exact (dss1 (dret (dcall (pe_dc (h_name_of T) hr (dac (dcall (pe_dc (h_take T) hr (dac (dv 0 (pv 0)) (dac (dc (pe_mulc (pe_mulc pe_int pe_int 208 (by decide +kernel)) (pe_powc pe_int pe_int 78364164096 (by decide +kernel)) 16299746131968 (by decide +kernel)) (fun _ _ => .int _)) dan)))) dan)))))
theorem sc_unlike : FnScope ["name", "taken", "k", "other"] ["name", "taken"] (defScope q_unlike) := ⟨rfl, rfl, rfl, by decide +kernel, rfl, by decide +kernel, by decide +kernel⟩
theorem h_unlike (T : Txt K mg) : Has P w K mg base "_law_unlike" 2 ["name", "taken"] (dsp (s_unlike)) := by
  refine has_of (N := ["name", "taken", "k", "other"]) (k := 1) (t := liftS (fun _ _ _ _ => False) (w_unlike)) T.g_unlike T.F_unlike sc_unlike (len_dsp (l_unlike)) (fun _ _ _ _ _ _ us hl => match us, hl with | [_, _], _ => rfl) (fun cdv A outer s H E hr => ?_) (dl_start (o_unlike))
  exact (dss (difS (dtcmp kNi opNi (dvP 0 (pv 0)) (dvP 1 (pv 1)) (by rfl)) (dss1 (dret (dv 0 (pv 0)))) dss0)
    (dss (dfor PassesOwn.never rfl (diR1 (fun _ h => pi_range1 (by rfl) T.z_range h) (dac (dop oAdd opAdd (dp (dcb clLen (pe_callB cLen (by rfl) T.z_len (by decide +kernel) (dbc (dvP 1 (pv 1)) dbn)))) (dp dc_int)) dan)) (pg_name (i := 2) sc_unlike.nd rfl (Or.inl rfl)) (tgN 2) (dss (dasg 3 (fun _ h => ps_set (i := 3) sc_unlike.nd rfl (Or.inl rfl) h) (dop oAdd opAdd (dp (dop oAdd opAdd (dp (dsl (dvP 0 (pv 0)) dpo0 (dpo (dp dc_int)))) (dp (dcall (pe_dc (h_sign T) hr (dac (dop oMod opMod (dp (dop oDiv opDiv (dvP 2 (pv 2)) (dp dc_int))) (dp dc_int)) dan)))))) (dp (dcall (pe_dc (h_sign T) hr (dac (dop oMod opMod (dvP 2 (pv 2)) (dp dc_int)) dan))))))
    (dss1 (difS (dtcmp kNi opNi (dvP 3 (pv 3)) (dvP 1 (pv 1)) (by rfl)) (dss1 (dret (dv 3 (pv 3)))) dss0))))
    (dss1 (dret (dv 0 (pv 0))))))
theorem sc_name_like_by : FnScope ["store", "manner", "start", "at", "words"] ["store", "manner", "start"] (defScope q_name_like_by) := ⟨rfl, rfl, rfl, by decide +kernel, rfl, by decide +kernel, by decide +kernel⟩
theorem h_name_like_by (T : Txt K mg) : Has P w K mg base "_law_name_like_by" 4 ["store", "manner", "start"] (dsp (s_name_like_by)) := by
  refine has_of (N := ["store", "manner", "start", "at", "words"]) (k := 3) (t := liftS (fun _ _ _ _ => False) (w_name_like_by)) T.g_name_like_by T.F_name_like_by sc_name_like_by (len_dsp (l_name_like_by)) (fun _ _ _ _ _ _ us hl => match us, hl with | [_, _, _], _ => rfl) (fun cdv A outer s H E hr => ?_) (dl_start (o_name_like_by))
  exact (dss (difS (dtcmp oEq opEq (dvP 1 (pv 1)) (dp dc_int) (nomark _)) (dss (dasg 3 (fun _ h => ps_set (i := 3) sc_name_like_by.nd rfl (Or.inl rfl) h) (dcall (pe_dc (h_take T) hr (dac (dv 0 (pv 0)) (dac (dcb clLen (pe_callB cLen (by rfl) T.z_len (by decide +kernel) (dbc (dvP 2 (pv 2)) dbn))) dan)))))
    (dss (difS (dtcmp oEq opEq (dvP 3 (pv 3)) (dp dc_int) (nomark _)) (dss1 (dret (dop oAdd opAdd (dp (dcall (pe_dc (h_sign T) hr (dac (dcall (pe_dc (h_take T) hr (dac (dv 0 (pv 0)) (dac dc_int dan)))) dan)))) (dp (dsl (dvP 2 (pv 2)) (dpo (dp dc_int)) dpo0))))) dss0)
    (dss1 (dret (dop oAdd opAdd (dp (dop oAdd opAdd (dp (dsl (dvP 2 (pv 2)) dpo0 (dpo (dvP 3 (pv 3))))) (dp (dcall (pe_dc (h_sign T) hr (dac (dcall (pe_dc (h_take T) hr (dac (dv 0 (pv 0)) (dac dc_int dan)))) dan)))))) (dp (dsl (dvP 2 (pv 2)) (dpo (dp (dop oAdd opAdd (dvP 3 (pv 3)) (dp dc_int)))) dpo0))))))) dss0)
    (dss (difS (dtcmp oEq opEq (dvP 1 (pv 1)) (dp dc_int) (nomark _)) (dss1 (dret (dsl (dvP 2 (pv 2)) dpo0 (dpo (dp (dop oAdd opAdd (dp dc_int) (dp (dcall (pe_dc (h_take T) hr (dac (dv 0 (pv 0)) (dac (dcb clLen (pe_callB cLen (by rfl) T.z_len (by decide +kernel) (dbc (dvP 2 (pv 2)) dbn))) dan))))))))))) dss0)
    (dss (difS (dtcmp oEq opEq (dvP 1 (pv 1)) (dp dc_int) (nomark _)) (dss1 (dret (dop oAdd opAdd (dp (dsl (dvP 2 (pv 2)) dpo0 (dpo (dp dc_int)))) (dp (dcb clStr (pe_callTy cStr (by rfl) T.z_str (by decide +kernel) (dbc (dp (dcall (pe_dc (h_take T) hr (dac (dv 0 (pv 0)) (dac dc_int dan))))) dbn))))))) dss0)
    (dss (difS (dtcmp oEq opEq (dvP 1 (pv 1)) (dp dc_int) (nomark _)) (dss1 (dret (dcall (pe_dc (h_sign T) hr (dac (dcall (pe_dc (h_take T) hr (dac (dv 0 (pv 0)) (dac dc_int dan)))) dan))))) dss0)
    (dss (difS (dtcmp oEq opEq (dvP 1 (pv 1)) (dp dc_int) (nomark _)) (dss (dasg 4 (fun _ h => ps_set (i := 4) sc_name_like_by.nd rfl (Or.inl rfl) h) (dlst (dac dc_str (dac dc_str (dac dc_str (dac dc_str (dac dc_str (dac dc_str (dac dc_str (dac dc_str (dac dc_str (dac dc_str (dac dc_str (dac dc_str (dac dc_str dan)))))))))))))))
    (dss1 (dret (dcall (pe_dc (h_pick T) hr (dac (dv 0 (pv 0)) (dac (dv 4 (pv 4)) dan))))))) dss0)
    (dss1 (dret (dcall (pe_dc (h_name T) hr (dac (dv 0 (pv 0)) dan))))))))))
theorem sc_names_by : FnScope ["store", "many", "taken", "manner", "start", "found", "k"] ["store", "many", "taken"] (defScope q_names_by) := ⟨rfl, rfl, rfl, by decide +kernel, rfl, by decide +kernel, by decide +kernel⟩
theorem h_names_by (T : Txt K mg) : Has P w K mg base "_law_names_by" 5 ["store", "many", "taken"] (dsp (s_names_by)) := by
  refine has_of (N := ["store", "many", "taken", "manner", "start", "found", "k"]) (k := 4) (t := liftS (fun _ _ _ _ => False) (w_names_by)) T.g_names_by T.F_names_by sc_names_by (len_dsp (l_names_by)) (fun _ _ _ _ _ _ us hl => match us, hl with | [_, _, _], _ => rfl) (fun cdv A outer s H E hr => ?_) (dl_start (o_names_by))
  exact (dss (dasg 3 (fun _ h => ps_set (i := 3) sc_names_by.nd rfl (Or.inl rfl) h) (dcall (pe_dc (h_take T) hr (dac (dv 0 (pv 0)) (dac dc_int dan)))))
    (dss (dasg 4 (fun _ h => ps_set (i := 4) sc_names_by.nd rfl (Or.inl rfl) h) (dcall (pe_dc (h_name T) hr (dac (dv 0 (pv 0)) dan))))
    (dss (dasgO 5 (fun _ h => ps_set (i := 5) sc_names_by.nd rfl (Or.inl rfl) h) (dlstF dan))
    (dss (dfor PassesOwn.never rfl (diR1 (fun _ h => pi_range1 (by rfl) T.z_range h) (dac (dv 1 (pv 1)) dan)) (pg_name (i := 6) sc_names_by.nd rfl (Or.inl rfl)) (tgN 6) (dss1 (dapp 5 (fun _ h => ps_expr (pe_bm PySem.F.plainAttrs_list PySem.F.slot_list_append PySem.F.type_list_append mt_append (pv 5) (pa_cons h pa_nil))) (dcall (pe_dc (h_unlike T) hr (dac (dcall (pe_dc (h_name_like_by T) hr (dac (dv 0 (pv 0)) (dac (dv 3 (pv 3)) (dac (dv 4 (pv 4)) dan))))) (dac (dop oAdd opAdd (dp (dcb clList (pe_callTy cList (by rfl) T.z_list (by decide +kernel) (dbc (dvP 2 (pv 2)) dbn)))) (dvP 5 (pv 5))) dan)))))))
    (dss1 (dret (dv 5 (pv 5))))))))
theorem sc_not_name : FnScope ["store", "name", "wrong", "sign", "manner", "at"] ["store"] (defScope q_not_name) := ⟨rfl, rfl, rfl, by decide +kernel, rfl, by decide +kernel, by decide +kernel⟩
theorem h_not_name (T : Txt K mg) : Has P w K mg base "_law_not_name" 4 ["store"] (dsp (s_not_name)) := by
  refine has_of (N := ["store", "name", "wrong", "sign", "manner", "at"]) (k := 3) (t := liftS (fun _ _ _ _ => False) (w_not_name)) T.g_not_name T.F_not_name sc_not_name (len_dsp (l_not_name)) (fun _ _ _ _ _ _ us hl => match us, hl with | [_], _ => rfl) (fun cdv A outer s H E hr => ?_) (dl_start (o_not_name))
  exact (dss (dasg 1 (fun _ h => ps_set (i := 1) sc_not_name.nd rfl (Or.inl rfl) h) (dcall (pe_dc (h_name T) hr (dac (dv 0 (pv 0)) dan))))
    (dss (dasg 2 (fun _ h => ps_set (i := 2) sc_not_name.nd rfl (Or.inl rfl) h) dc_str)
    (dss (dasg 3 (fun _ h => ps_set (i := 3) sc_not_name.nd rfl (Or.inl rfl) h) (dcall (pe_dc (h_pick T) hr (dac (dv 0 (pv 0)) (dac (dv 2 (pv 2)) dan)))))
    (dss (dasg 4 (fun _ h => ps_set (i := 4) sc_not_name.nd rfl (Or.inl rfl) h) (dcall (pe_dc (h_take T) hr (dac (dv 0 (pv 0)) (dac dc_int dan)))))
    (dss (dasg 5 (fun _ h => ps_set (i := 5) sc_not_name.nd rfl (Or.inl rfl) h) (dcall (pe_dc (h_take T) hr (dac (dv 0 (pv 0)) (dac (dcb clLen (pe_callB cLen (by rfl) T.z_len (by decide +kernel) (dbc (dvP 1 (pv 1)) dbn))) dan)))))
    (dss (difS (dtcmp oEq opEq (dvP 4 (pv 4)) (dp dc_int) (nomark _)) (dss1 (dret dc_str)) dss0)
    (dss (difS (dtcmp oEq opEq (dvP 4 (pv 4)) (dp dc_int) (nomark _)) (dss1 (dret (dop oAdd opAdd (dp (dop oMulS opMulS (dp (dsl (dp (dop oAdd opAdd (dvP 1 (pv 1)) (dp dc_str))) dpo0 (dpo (dp dc_int)))) (dp (dop oAdd opAdd (dp dc_int) (dp (dcall (pe_dc (h_take T) hr (dac (dv 0 (pv 0)) (dac dc_int dan))))))))) (dp (dcall (pe_dc (h_sign T) hr (dac (dcall (pe_dc (h_take T) hr (dac (dv 0 (pv 0)) (dac dc_int dan)))) dan))))))) dss0)
    (dss (difS (dtcmp oEq opEq (dvP 4 (pv 4)) (dp dc_int) (nomark _)) (dss1 (dret (dop oAdd opAdd (dp (dcb clStr (pe_callTy cStr (by rfl) T.z_str (by decide +kernel) (dbc (dp (dcall (pe_dc (h_take T) hr (dac (dv 0 (pv 0)) (dac dc_int dan))))) dbn)))) (dp (dsl (dvP 1 (pv 1)) (dpo (dp dc_int)) dpo0))))) dss0)
    (dss (difS (dtcmp oEq opEq (dvP 4 (pv 4)) (dp dc_int) (nomark _)) (dss1 (dret (dop oAdd opAdd (dp (dop oAdd opAdd (dp (dsl (dvP 1 (pv 1)) dpo0 (dpo (dvP 5 (pv 5))))) (dvP 3 (pv 3)))) (dp (dsl (dvP 1 (pv 1)) (dpo (dp (dop oAdd opAdd (dvP 5 (pv 5)) (dp dc_int)))) dpo0))))) dss0)
    (dss (difS (dtcmp oEq opEq (dvP 4 (pv 4)) (dp dc_int) (nomark _)) (dss1 (dret (dop oAdd opAdd (dp (dsl (dvP 1 (pv 1)) dpo0 (dpo (dp dc_int)))) (dvP 3 (pv 3))))) dss0)
    (dss (difS (dtcmp oEq opEq (dvP 4 (pv 4)) (dp dc_int) (nomark _)) (dss1 (dret (dop oAdd opAdd (dvP 3 (pv 3)) (dp (dsl (dvP 1 (pv 1)) dpo0 (dpo (dp dc_int))))))) dss0)
    (dss1 (dret (dupper (dvP 1 (pv 1))))))))))))))))
theorem sc_is_name : FnScope ["text", "sign"] ["text"] (defScope q_is_name) := ⟨rfl, rfl, rfl, by decide +kernel, rfl, by decide +kernel, by decide +kernel⟩
theorem h_is_name (T : Txt K mg) : Has P w K mg base "_law_is_name" 1 ["text"] (dsp (s_is_name)) := by
  refine has_of (N := ["text", "sign"]) (k := 0) (t := liftS (fun _ _ _ _ => False) (w_is_name)) T.g_is_name T.F_is_name sc_is_name (len_dsp (l_is_name)) (fun _ _ _ _ _ _ us hl => match us, hl with | [_], _ => rfl) (fun cdv A outer s H E hr => ?_) (dl_start (o_is_name))
  exact (dss (difS (PW.pt (dor (dtcmp kLt opLt (dp (dcb clLen (pe_callB cLen (by rfl) T.z_len (by decide +kernel) (dbc (dvP 0 (pv 0)) dbn)))) (dp dc_int) (nomark _)) (dor (dtcmp kGt opGt (dp (dcb clLen (pe_callB cLen (by rfl) T.z_len (by decide +kernel) (dbc (dvP 0 (pv 0)) dbn)))) (dp dc_int) (nomark _)) (dor1 (dtcmp kNi opNi (dp (dix oIx opIx (dvP 0 (pv 0)) (dp dc_int) (fun _ _ => rfl))) (dp dc_str) (by rfl)))))) (dss1 (dret dc_bl)) dss0)
    (dss (dfor PassesOwn.never rfl (diS (dv 0 (pv 0))) (pg_name (i := 1) sc_is_name.nd rfl (Or.inl rfl)) (tgN 1) (dss1 (difS (dtcmp kNi opNi (dvP 1 (pv 1)) (dp dc_str) (by rfl)) (dss1 (dret dc_bl)) dss0)))
    (dss1 (dret dc_bl))))
theorem sc_Pis_name : FnScope ["text", "mark"] ["text"] (defScope q_Pis_name) := ⟨rfl, rfl, rfl, by decide +kernel, rfl, by decide +kernel, by decide +kernel⟩
theorem h_Pis_name (T : Txt K mg) : Has P w K mg base "is_name" 1 ["text"] (dsp (s_Pis_name)) := by
  refine has_of (N := ["text", "mark"]) (k := 0) (t := liftS (fun _ _ _ _ => False) (w_Pis_name)) T.g_Pis_name T.F_Pis_name sc_Pis_name (len_dsp (l_Pis_name)) (fun _ _ _ _ _ _ us hl => match us, hl with | [_], _ => rfl) (fun cdv A outer s H E hr => ?_) (dl_start (o_Pis_name))
  exact (dss (difS (PW.pt (dor (dnot (dtchain opLe opLe (pt_chain kLe kLe (dp dc_int) (dp (dcb clLen (pe_callB cLen (by rfl) T.z_len (by decide +kernel) (dbc (dvP 0 (pv 0)) dbn)))) (dp (dc (pe_gi T.k_LONGEST_NAME) (fun _ _ => .int _)))))) (dor1 (dtcmp kNi opNi (dp (dix oIx opIx (dvP 0 (pv 0)) (dp dc_int) (fun _ _ => rfl))) (dp (dc (pe_gs T.k_LETTERS) (fun _ _ => .str _))) (by rfl))))) (dss1 (dret dc_bl)) dss0)
    (dss1 (dret (dcb clAll (pe_callB (cr_all rfl) (by rfl) T.z_all (by decide +kernel) (dbc (dp (df (dlc (tcN 1) yes_tr (pe_lc (own := [("mark", 1)]) (g := gName 1) (by rfl) sc_Pis_name.nd (diS (dv 0 (pv 0))) (blkOk_by (own := [("mark", 1)]) (N := ["text", "mark"]) (sc := defScope q_Pis_name) (by decide +kernel)) (fun _ _ _ _ _ => pg_name (i := 1) sc_Pis_name.nd rfl (Or.inl rfl)) (fun _ _ _ _ _ => pts_nil) (fun _ _ _ _ _ => (dorV (dcmp kIn opIn (dvP 1 (pv 1)) (dp (dc (pe_gs T.k_LETTERS) (fun _ _ => .str _))) (by rfl)) (done (dcmp kIn opIn (dvP 1 (pv 1)) (dp (dc (pe_gs T.k_DIGITS) (fun _ _ => .str _))) (by rfl))))))))) dbn))))))
theorem sc_Pvalid_name : FnScope ["name"] ["name"] (defScope q_Pvalid_name) := ⟨rfl, rfl, rfl, by decide +kernel, rfl, by decide +kernel, by decide +kernel⟩
theorem h_Pvalid_name (T : Txt K mg) : Has P w K mg base "valid_name" 3 ["name"] (dspX (s_Pvalid_name K)) := by
  refine has_ofX (N := ["name"]) (k := 2) (t := (fun E => liftS (fun cls d _ H => E cls d H) (w_Pvalid_name K))) T.g_Pvalid_name T.F_Pvalid_name sc_Pvalid_name (len_dspX (l_Pvalid_name K)) (fun _ _ _ _ _ _ us hl => match us, hl with | [_], _ => rfl) (fun cdv A outer s H E hr tk => ?_) (dl_startX (o_Pvalid_name K))
  exact (dss (difS (dnot (dtru (dp (dcall (pe_dc (h_Pis_name T) hr (dac (dv 0 (pv 0)) dan)))))) (dss1 (draise1 (ps_rs (by rfl) tk (pmk_in (i1_BadName T) T.c_BadName hr (pa_cons (dv 0 (pv 0)) pa_nil))))) dss0)
    (dss1 (dret (dv 0 (pv 0)))))
theorem sc_Pordered : FnScope ["names", "name"] ["names"] (defScope q_Pordered) := ⟨rfl, rfl, rfl, by decide +kernel, rfl, by decide +kernel, by decide +kernel⟩
theorem hF_Pordered (T : Txt K mg) : Has P w K mg base "ordered" 4 ["names"] (dspXF (s_Pordered K)) := by
  refine has_ofX (N := ["names", "name"]) (k := 3) (t := fun E => tSeq (liftS (fun cls d _ H => E cls d H) (w_Pordered K)) (tRet (liftF (fSort (wVP 0))))) T.g_Pordered T.F_Pordered sc_Pordered (len_dspXF (l_Pordered K)) (fun _ _ _ _ _ _ us hl => match us, hl with | [_], _ => rfl) (fun cdv A outer s H E hr tk => ?_) (dl_startXF (o_Pordered K))
  exact (pss_cons (dfor PassesOwn.leaving rfl (diV 0 (pv 0) (fun _ h => pi_seq h)) (pg_name (i := 1) sc_Pordered.nd rfl (Or.inl rfl)) (tgN 1) (dss1 (ddropX (fun _ h => ps_expr h) (pe_dcS (h_Pvalid_name T) hr (fun σ => L2N.passAt tk σ) (dac (dv 1 (pv 1)) dan)))))
    (pss_one (ps_ret (dsortF rfl T.z_sorted T.z_set (dvP 0 (pv 0))))))
theorem h_Pordered (T : Txt K mg) : Has P w K mg base "ordered" 4 ["names"] (dspX (sF (s_Pordered K))) := Has.weak (hF_Pordered T) dspXF_weak
theorem ok_ofX {x : Str} {params : Arguments} {body : List Stmt} {scope : Scope} {kws : List (Str × V)} {f : Addr} {fd : FuncData} {N ps : List Str} {k : Nat} {sp : Sp} {t : XK → TS} (F : FunD K x x params body scope [] kws f fd) (S : FnScope N ps scope) (len : ∀ vs H Q E, sp vs H Q E → vs.length = ps.length)
    (d : ∀ (cdv : Value) (A : Around) (outer : List PySem.Env) (s : Shared) (H : Hp) (E : XK), Room k (A.deeper (envOfC x scope s.heap.objs.size f cdv)) →
      L2N.Takes (cxOf (L2N.CX P w) P w K mg base N x scope f cdv A outer s H E) (fun cls d _ H => E cls d H) → PSs (cxOf (L2N.CX P w) P w K mg base N x scope f cdv A outer s H E) body (t E))
    (pure_ : ∀ vs H Q E, sp vs H Q E → t E { nx := fun _ H' => Q .non H', rt := Q } (L2.start N vs) H) : FnOk P w K mg base (L2N.CX P w) (k + 1) f fd ps sp :=
  F.ok S len fun cdv A outer s H vs Q E hr h => ⟨t E, d cdv A outer s H E hr (L2N.takes_of rfl rfl rfl rfl), pure_ vs H Q E h⟩
theorem sc_Pfresh_name : FnScope ["taken", "stem", "number"] ["taken", "stem"] (defScope q_Pfresh_name) := ⟨rfl, rfl, rfl, by decide +kernel, rfl, by decide +kernel, by decide +kernel⟩
theorem okk_Pfresh_name (T : Txt K mg) {fd : FuncData} (F : FunD K "fresh_name" "fresh_name" (defArgs q_Pfresh_name) (defBody q_Pfresh_name) (defScope q_Pfresh_name) [] [("stem", .str "z")] (He.ga K "fresh_name") fd) : FnOk P w K mg base (L2N.CX P w) 3 (He.ga K "fresh_name") fd ["taken", "stem"] (dspX (s_Pfresh_name K)) := by
  refine ok_ofX (N := ["taken", "stem", "number"]) (k := 2) (t := fun E => liftS (fun cls d _ H => E cls d H) (w_Pfresh_name K)) F sc_Pfresh_name (len_dspX (l_Pfresh_name K)) (fun cdv A outer s H E hr tk => ?_) (dl_startX (o_Pfresh_name K))
  exact (dss (difS (PW.pt (dor (dnot (dtru (dp (dcall (pe_dc (h_Pis_name T) hr (dac (dv 1 (pv 1)) dan)))))) (dor1 (dtcmp kGt opGt (dp (dcb clLen (pe_callB cLen (by rfl) T.z_len (by decide +kernel) (dbc (dvP 1 (pv 1)) dbn)))) (dp (dc (pe_gi T.k_LONGEST_STEM) (fun _ _ => .int _))) (nomark _))))) (dss1 (draise1 (ps_rs (by rfl) tk (pmk_in (i1_BadName T) T.c_BadName hr (pa_cons (dv 1 (pv 1)) pa_nil))))) dss0)
    (dss (dasg 2 (fun _ h => ps_set (i := 2) sc_Pfresh_name.nd rfl (Or.inl rfl) h) dc_int)
    (dss (dwhile PassesOwn.leaving (dtcmp kIn opIn (dp (dfstr (dv 1 (pv 1)) (dv 2 (pv 2)))) (dvP 0 (pv 0)) (by rfl)) (dss1 (daug 2 opIAdd (fun _ h => ps_aug (i := 2) sc_Pfresh_name.nd rfl (Or.inl rfl) h ioAdd) (dp dc_int))))
    (dss1 (dret (dfstr (dv 1 (pv 1)) (dv 2 (pv 2))))))))
theorem hK_Pfresh_name (T : Txt K mg) : HasK P w K mg base "fresh_name" 3 ["taken", "stem"] 1 ["stem"] gCat (dspX (s_Pfresh_name K)) := by
  obtain ⟨fd, F⟩ := T.F_Pfresh_name
  obtain ⟨mv, b⟩ := F.kbinds0 (ps := ["taken", "stem"]) 1 ["stem"] [] (fun us _ ws => us ++ ws) (fun z => nomatch z) (fun _ z => nomatch z) (fun r1 _ r3 => r1.append r3) (fun D doc pm an cdv ct us mv ws h1 h2 h3 => match us, mv, ws, h1, h2, h3 with | [_], [], [_], _, _, _ => rfl)
  exact ⟨_, fd, _, ⟨T.g_Pfresh_name, F.kp, b, okk_Pfresh_name T F⟩⟩
theorem hD_Pfresh_name (T : Txt K mg) : HasD P w K mg base "fresh_name" 3 ["taken", "stem"] [.str "z"] (dspX (s_Pfresh_name K)) := by
  obtain ⟨fd, F⟩ := T.F_Pfresh_name
  obtain ⟨ds, v, b⟩ := F.binds0 (ps := ["taken", "stem"]) 1 (fun z => nomatch z) rfl (fun D doc pm an cdv ct us ks h1 h2 => match us, ks, h1, h2 with | [_], [_], _, _ => ⟨_, _, _, _, _, _, rfl, rfl, rfl⟩)
  exact ⟨_, fd, ds, ⟨T.g_Pfresh_name, F.kp, v, b, okk_Pfresh_name T F⟩⟩
theorem sc_drawn_row : FnScope ["store", "some", "k", "names", "size"] ["store"] (defScope q_drawn_row) := ⟨rfl, rfl, rfl, by decide +kernel, rfl, by decide +kernel, by decide +kernel⟩
theorem h_drawn_row (T : Txt K mg) : Has P w K mg base "_law_drawn_row" 6 ["store"] (dsp (s_drawn_row)) := by
  refine has_of (N := ["store", "some", "k", "names", "size"]) (k := 5) (t := liftS (fun _ _ _ _ => False) (w_drawn_row)) T.g_drawn_row T.F_drawn_row sc_drawn_row (len_dsp (l_drawn_row)) (fun _ _ _ _ _ _ us hl => match us, hl with | [_], _ => rfl) (fun cdv A outer s H E hr => ?_) (dl_start (o_drawn_row))
  exact (dss (difS (dtcmp oEq opEq (dp (dcall (pe_dc (h_take T) hr (dac (dv 0 (pv 0)) (dac dc_int dan))))) (dp dc_int) (nomark _)) (dss (dasg 1 (fun _ h => ps_set (i := 1) sc_drawn_row.nd rfl (Or.inr rfl) h) (df (dlc (tcN 2) yes_tr (pe_lc (own := [("k", 2)]) (g := gName 2) (by rfl) sc_drawn_row.nd (diR1 (fun _ h => pi_range1 (by rfl) T.z_range h) (dac dc_int dan)) (blkOk_by (own := [("k", 2)]) (N := ["store", "some", "k", "names", "size"]) (sc := defScope q_drawn_row) (by decide +kernel)) (fun _ _ _ _ _ => pg_name (i := 2) sc_drawn_row.nd rfl (Or.inl rfl)) (fun _ _ _ _ _ => pts_nil) (fun _ _ _ _ _ => (dcall (pe_dc (h_name T) hr (dac (dv 0 (pv 0)) dan))))))))
    (dss1 (dret (df (dlc (tcN 2) yes_tr (pe_lc (own := [("k", 2)]) (g := gName 2) (by rfl) sc_drawn_row.nd (diR1 (fun _ h => pi_range1 (by rfl) T.z_range h) (dac (dcall (pe_dc (h_number T) hr (dac (dv 0 (pv 0)) (dac dc_int (dac dc_int dan))))) dan)) (blkOk_by (own := [("k", 2)]) (N := ["store", "some", "k", "names", "size"]) (sc := defScope q_drawn_row) (by decide +kernel)) (fun _ _ _ _ _ => pg_name (i := 2) sc_drawn_row.nd rfl (Or.inl rfl)) (fun _ _ _ _ _ => pts_nil) (fun _ _ _ _ _ => (dop oAdd opAdd (dp (dsl (dp (dix oIx opIx (dvP 1 (pv 1)) (dp (dop oMod opMod (dvP 2 (pv 2)) (dp dc_int))) (fun _ _ => rfl))) dpo0 (dpo (dp dc_int)))) (dp (dcall (pe_dc (h_sign T) hr (dac (dop oDiv opDiv (dvP 2 (pv 2)) (dp dc_int)) dan)))))))))))) dss0)
    (dss (dasg 3 (fun _ h => ps_set (i := 3) sc_drawn_row.nd rfl (Or.inr rfl) h) (dcall (pe_dc (h_names_by T) hr (dac (dv 0 (pv 0)) (dac (dcall (pe_dc (h_number T) hr (dac (dv 0 (pv 0)) (dac dc_int (dac dc_int dan))))) (dac (dlst dan) dan))))))
    (dss (dasg 4 (fun _ h => ps_set (i := 4) sc_drawn_row.nd rfl (Or.inl rfl) h) (dcall (pe_dc (h_number T) hr (dac (dv 0 (pv 0)) (dac dc_int (dac dc_int dan))))))
    (dsc (difS (dtcmp oEq opEq (dp (dcall (pe_dc (h_take T) hr (dac (dv 0 (pv 0)) (dac dc_int dan))))) (dp dc_int) (nomark _)) (dss1 (dasg 4 (fun _ h => ps_set (i := 4) sc_drawn_row.nd rfl (Or.inl rfl) h) dc_int)) dss0)
    (dss (difS (dnot (dtru (dvP 3 (pv 3)))) (dss1 (dret (dlst dan))) dss0)
    (dss1 (dret (df (dlc (tcN 2) yes_tr (pe_lc (own := [("k", 2)]) (g := gName 2) (by rfl) sc_drawn_row.nd (diR1 (fun _ h => pi_range1 (by rfl) T.z_range h) (dac (dv 4 (pv 4)) dan)) (blkOk_by (own := [("k", 2)]) (N := ["store", "some", "k", "names", "size"]) (sc := defScope q_drawn_row) (by decide +kernel)) (fun _ _ _ _ _ => pg_name (i := 2) sc_drawn_row.nd rfl (Or.inl rfl)) (fun _ _ _ _ _ => pts_nil) (fun _ _ _ _ _ => (dcall (pe_dc (h_pick T) hr (dac (dv 0 (pv 0)) (dac (dv 3 (pv 3)) dan)))))))))))))))
theorem sc_is_sorted : FnScope ["told", "row", "held", "name", "k"] ["told", "row"] (defScope q_is_sorted) := ⟨rfl, rfl, rfl, by decide +kernel, rfl, by decide +kernel, by decide +kernel⟩
theorem h_is_sorted (T : Txt K mg) : Has P w K mg base "_law_is_sorted" 1 ["told", "row"] (dsp (s_is_sorted)) := by
  refine has_of (N := ["told", "row", "held", "name", "k"]) (k := 0) (t := liftS (fun _ _ _ _ => False) (w_is_sorted)) T.g_is_sorted T.F_is_sorted sc_is_sorted (len_dsp (l_is_sorted)) (fun _ _ _ _ _ _ us hl => match us, hl with | [_, _], _ => rfl) (fun cdv A outer s H E hr => ?_) (dl_start (o_is_sorted))
  exact (dss (difS (dnot (dtru (dp (disi (pe_callB cIsi (by rfl) T.z_isinstance (by decide +kernel) (pa_cons (dvP 0 (pv 0)) (pa_cons (pe_bltn (v := .ty "list") (u := .type "list") (by rfl) T.z_list (by rfl) (by rfl)) pa_nil))))))) (dss1 (dret dc_bl)) dss0)
    (dss (dasgD 2 (ps_set (i := 2) sc_is_sorted.nd rfl (Or.inl rfl) pe_dnewK))
    (dss (dfor PassesOwn.never rfl (diL (dv 1 (pv 1))) (pg_name (i := 3) sc_is_sorted.nd rfl (Or.inl rfl)) (tgN 3) (dss1 (dputD 2 (ps_dput (hu_of hr) (pv 2) (dv 3 (pv 3)) dc_int rfl))))
    (dss (dfor PassesOwn.never rfl (diR1 (fun _ h => pi_range1 (by rfl) T.z_range h) (dac (dcb clLen (pe_callB cLen (by rfl) T.z_len (by decide +kernel) (dbc (dvP 0 (pv 0)) dbn))) dan)) (pg_name (i := 4) sc_is_sorted.nd rfl (Or.inl rfl)) (tgN 4) (dss1 (difS (PW.pt (dor (dnot (dtru (dp (disi (pe_callB cIsi (by rfl) T.z_isinstance (by decide +kernel) (pa_cons (dp (dix oIx opIx (dvP 0 (pv 0)) (dvP 4 (pv 4)) (fun _ _ => rfl))) (pa_cons (pe_bltn (v := .ty "str") (u := .type "str") (by rfl) T.z_str (by rfl) (by rfl)) pa_nil))))))) (dor (dtninOD (pt_cmp (pc_dnotin (hu_of hr) (dix oIx opIx (dvP 0 (pv 0)) (dvP 4 (pv 4)) (fun _ _ => rfl)) (pv 2)))) (dor1 (PW.pt (dand (dtcmp kGt opGt (dvP 4 (pv 4)) (dp dc_int) (nomark _)) (dand1 (dtcmp kGe opGe (dp (dix oIx opIx (dvP 0 (pv 0)) (dp (dop oSub opSub (dvP 4 (pv 4)) (dp dc_int))) (fun _ _ => rfl))) (dp (dix oIx opIx (dvP 0 (pv 0)) (dvP 4 (pv 4)) (fun _ _ => rfl))) (nomark _))))))))) (dss1 (dret dc_bl)) dss0)))
    (dss1 (dret (dcmp oEq opEq (dp (dcb clLen (pe_callB cLen (by rfl) T.z_len (by decide +kernel) (dbc (dvP 0 (pv 0)) dbn)))) (dp (dlenOD (pe_callB call_lenD (by rfl) T.z_len (by decide +kernel) (pa_cons (pv 2) pa_nil)))) (nomark _))))))))
theorem sc_sorts : FnScope ["store", "row", "handed", "told", "kept"] ["store", "row"] (defScope q_sorts) := ⟨rfl, rfl, rfl, by decide +kernel, rfl, by decide +kernel, by decide +kernel⟩
theorem h_sorts (T : Txt K mg) : Has P w K mg base "_law_sorts" 5 ["store", "row"] (dsp (s_sorts K)) := by
  refine has_of (N := ["store", "row", "handed", "told", "kept"]) (k := 4) (t := liftS (fun _ _ _ _ => False) (w_sorts K)) T.g_sorts T.F_sorts sc_sorts (len_dsp (l_sorts K)) (fun _ _ _ _ _ _ us hl => match us, hl with | [_, _], _ => rfl) (fun cdv A outer s H E hr => ?_) (dl_start (o_sorts K))
  exact (dss (dasg 2 (fun _ h => ps_set (i := 2) sc_sorts.nd rfl (Or.inl rfl) h) (dcall (pe_dc (h_row_of T) hr (dac (dv 0 (pv 0)) (dac (dv 1 (pv 1)) dan)))))
    (dss (dasgO 3 (fun _ h => ps_set (i := 3) sc_sorts.nd rfl (Or.inl rfl) h) (dcallNF (pe_dc (hF_Pordered T) hr (dac (dv 2 (pv 2)) dan))))
    (dss (difS (dnot (dtru (dp (dcallB (pe_dc (h_is_sorted T) hr (dac (dv 3 (pv 3)) (dac (dv 1 (pv 1)) dan))))))) (dss1 (dret dc_bl)) dss0)
    (dss (dasg 4 (fun _ h => ps_set (i := 4) sc_sorts.nd rfl (Or.inl rfl) h) (dcb clList (pe_callTy cList (by rfl) T.z_list (by decide +kernel) (dbc (dvP 3 (pv 3)) dbn))))
    (dss (dapp 3 (fun _ h => ps_expr (pe_bm PySem.F.plainAttrs_list PySem.F.slot_list_append PySem.F.type_list_append mt_append (pv 3) (pa_cons h pa_nil))) dc_str)
    (dss (difS (dnot (dtru (dp (dcall (pe_dc (h_same T 2) hr (dac (dcb clList (pe_callTy cList (by rfl) T.z_list (by decide +kernel) (dbc (dvP 2 (pv 2)) dbn))) (dac (dcb clList (pe_callTy cList (by rfl) T.z_list (by decide +kernel) (dbc (dvP 1 (pv 1)) dbn))) dan))))))) (dss1 (dret dc_bl)) dss0)
    (dss1 (dret (dcall (pe_dc (h_same T 2) hr (dac (df (dcallNF (pe_dc (hF_Pordered T) hr (dac (dcb clList (pe_callTy cList (by rfl) T.z_list (by decide +kernel) (dbc (dvP 1 (pv 1)) dbn))) dan)))) (dac (dv 4 (pv 4)) dan))))))))))))
theorem sc_refuses : FnScope ["store", "row", "wrong", "k", "due", "name", "handed", "e"] ["store", "row"] (defScope q_refuses) := ⟨rfl, rfl, rfl, by decide +kernel, rfl, by decide +kernel, by decide +kernel⟩
theorem h_refuses (T : Txt K mg) : Has P w K mg base "_law_refuses" 5 ["store", "row"] (dsp (s_refuses K)) := by
  refine has_of (N := ["store", "row", "wrong", "k", "due", "name", "handed", "e"]) (k := 4) (t := liftS (fun _ _ _ _ => False) (w_refuses K)) T.g_refuses T.F_refuses sc_refuses (len_dsp (l_refuses K)) (fun _ _ _ _ _ _ us hl => match us, hl with | [_, _], _ => rfl) (fun cdv A outer s H E hr => ?_) (dl_start (o_refuses K))
  exact (dss (dasg 2 (fun _ h => ps_set (i := 2) sc_refuses.nd rfl (Or.inl rfl) h) (dcb clList (pe_callTy cList (by rfl) T.z_list (by decide +kernel) (dbc (dvP 1 (pv 1)) dbn))))
    (dss (dfor PassesOwn.never rfl (diR1 (fun _ h => pi_range1 (by rfl) T.z_range h) (dac dc_int dan)) (pg_name (i := 3) sc_refuses.nd rfl (Or.inl rfl)) (tgN 3) (dss1 (dasg 2 (fun _ h => ps_set (i := 2) sc_refuses.nd rfl (Or.inl rfl) h) (dcall (pe_dc (h_put T) hr (dac (dv 2 (pv 2)) (dac (dcall (pe_dc (h_number T) hr (dac (dv 0 (pv 0)) (dac dc_int (dac (dcb clLen (pe_callB cLen (by rfl) T.z_len (by decide +kernel) (dbc (dvP 2 (pv 2)) dbn))) dan))))) (dac (dcall (pe_dc (h_not_name T) hr (dac (dv 0 (pv 0)) dan))) dan))))))))
    (dss (dasg 4 (fun _ h => ps_set (i := 4) sc_refuses.nd rfl (Or.inl rfl) h) (dix oIx opIx (dp (df (dlc (tcN 5) one_tr (pe_lc (own := [("name", 5)]) (g := gName 5) (by rfl) sc_refuses.nd (diL (dv 2 (pv 2))) (blkOk_by (own := [("name", 5)]) (N := ["store", "row", "wrong", "k", "due", "name", "handed", "e"]) (sc := defScope q_refuses) (by decide +kernel)) (fun _ _ _ _ _ => pg_name (i := 5) sc_refuses.nd rfl (Or.inl rfl)) (fun _ _ _ _ _ => (pts_one (dnot (dtru (dp (dcall (pe_dc (h_is_name T) hr (dac (dv 5 (pv 5)) dan)))))))) (fun _ _ _ _ _ => (dv 5 (pv 5))))))) (dp dc_int) (fun _ _ => rfl)))
    (dss (dasg 6 (fun _ h => ps_set (i := 6) sc_refuses.nd rfl (Or.inl rfl) h) (dcall (pe_dc (h_row_of T) hr (dac (dv 0 (pv 0)) (dac (dv 2 (pv 2)) dan)))))
    (dss (dtry (LN T) (ps_tryA (i := 7) (c := .ref (He.ga K "NestError")) rfl rfl sc_refuses.nd rfl rfl ⟨by rfl, by decide, .inl T.c_NestError⟩ tkNone (fun W pn xe tk _ => (dss1 (ddropX (fun _ h => ps_expr h) (pe_dcS (h_Pordered T) hr (fun σ => L2N.passAt tk σ) (dac (dv 6 (pv 6)) dan))))) (fun a oe cls d pn hz hf => (dss (difS (dnot (dtru (dp (dcall (pe_hc (hh_same T 2) (roomS hr) (hotS hz hf) (dac (dkd (LE T) LS (pe_kdF (fun C b F G Z => hh_kinds T F G Z hf) (roomS hr) hz hf (pv 7))) (dac (dlst (dac dc_str (dac dc_str (dac dc_str dan)))) dan))))))) (dss1 (dret dc_bl)) dss0)
    (dss1 (dret (dandV (dcall (pe_hc (hh_same T 2) (roomS hr) (hotS hz hf) (dac (dxf (LX T) (pe_xfE hz hf (pv 7))) (dac (dv 4 (pv 4)) dan)))) (done (dcall (pe_hc (hh_same T 2) (roomS hr) (hotS hz hf) (dac (dcb clList (pe_callTy cList (by rfl) T.z_list (by decide +kernel) (dbc (dvP 6 (pv 6)) dbn))) (dac (dv 2 (pv 2)) dan))))))))))))
    (dss1 (dret dc_bl)))))))
theorem sc_taken : FnScope ["store", "start", "many", "rest", "k"] ["store", "start"] (defScope q_taken) := ⟨rfl, rfl, rfl, by decide +kernel, rfl, by decide +kernel, by decide +kernel⟩
theorem h_taken (T : Txt K mg) : Has P w K mg base "_law_taken" 5 ["store", "start"] (dsp (s_taken)) := by
  refine has_of (N := ["store", "start", "many", "rest", "k"]) (k := 4) (t := liftS (fun _ _ _ _ => False) (w_taken)) T.g_taken T.F_taken sc_taken (len_dsp (l_taken)) (fun _ _ _ _ _ _ us hl => match us, hl with | [_, _], _ => rfl) (fun cdv A outer s H E hr => ?_) (dl_start (o_taken))
  exact (dss (dasg 2 (fun _ h => ps_set (i := 2) sc_taken.nd rfl (Or.inl rfl) h) (dcall (pe_dc (h_pick T) hr (dac (dv 0 (pv 0)) (dac (dlst (dac dc_int (dac dc_int (dac dc_int (dac dc_int (dac dc_int (dac dc_int (dac dc_int (dac dc_int (dac (dcall (pe_dc (h_number T) hr (dac (dv 0 (pv 0)) (dac dc_int (dac dc_int dan))))) dan)))))))))) dan)))))
    (dss (dsetLcO 3 (tcN 4) yes_tr (ps_setLc (i := 3) (own := [("k", 4)]) (g := gName 4) (by rfl) sc_taken.nd rfl rfl (sw_true rfl rfl rfl (by decide +kernel)) (diR1 (fun _ h => pi_range1 (by rfl) T.z_range h) (dac (dv 2 (pv 2)) dan)) (blkOk_by (own := [("k", 4)]) (N := ["store", "start", "many", "rest", "k"]) (sc := defScope q_taken) (by decide +kernel)) (fun _ _ _ _ _ => pg_name (i := 4) sc_taken.nd rfl (Or.inl rfl)) (fun _ _ _ _ _ => pts_nil) (fun _ _ _ _ _ => (dop oAdd opAdd (dvP 1 (pv 1)) (dp (dcb clStr (pe_callTy cStr (by rfl) T.z_str (by decide +kernel) (dbc (dvP 4 (pv 4)) dbn))))))))
    (dsc (difS (PW.pt (dand (dtru (dvP 3 (pv 3))) (dand1 (dtru (dp (dcall (pe_dc (h_edge T) hr (dac (dv 0 (pv 0)) dan)))))))) (dss1 (dpop 3 (fun _ h => ps_expr (pe_bm PySem.F.plainAttrs_list PySem.F.slot_list_pop PySem.F.type_list_pop mt_popAt (pv 3) (pa_cons h pa_nil))) (dcall (pe_dc (h_take T) hr (dac (dv 0 (pv 0)) (dac (dcb clLen (pe_callB cLen (by rfl) T.z_len (by decide +kernel) (dbc (dvP 3 (pv 3)) dbn))) dan)))))) dss0)
    (dss (dasgO 3 (fun _ h => ps_set (i := 3) sc_taken.nd rfl (Or.inl rfl) h) (dcat (dp (dop oAdd opAdd (dvP 3 (pv 3)) (dp (dlst (dac (dv 1 (pv 1)) (dac (dop oAdd opAdd (dvP 1 (pv 1)) (dp dc_str)) (dac dc_str (dac (dop oAdd opAdd (dvP 1 (pv 1)) (dp (dcb clStr (pe_callTy cStr (by rfl) T.z_str (by decide +kernel) (dbc (dp (dop oAdd opAdd (dvP 2 (pv 2)) (dp dc_int))) dbn))))) (dac (dop oAdd opAdd (dvP 1 (pv 1)) (dp dc_str)) (dac (dcall (pe_dc (h_not_name T) hr (dac (dv 0 (pv 0)) dan))) dan)))))))))) (dp (dsl (dvP 3 (pv 3)) dpo0 (dpo (dp dc_int))))))
    (dss1 (dret (dcall (pe_dc (h_shuffled T) hr (dac (dv 0 (pv 0)) (dac (dsl (dvP 3 (pv 3)) dpo0 (dpo (dp dc_int))) dan))))))))))
theorem sc_fresh : FnScope ["store", "start", "taken", "handed", "due", "k", "told"] ["store", "start"] (defScope q_fresh) := ⟨rfl, rfl, rfl, by decide +kernel, rfl, by decide +kernel, by decide +kernel⟩
theorem h_fresh (T : Txt K mg) : Has P w K mg base "_law_fresh" 6 ["store", "start"] (dsp (s_fresh K)) := by
  refine has_of (N := ["store", "start", "taken", "handed", "due", "k", "told"]) (k := 5) (t := liftS (fun _ _ _ _ => False) (w_fresh K)) T.g_fresh T.F_fresh sc_fresh (len_dsp (l_fresh K)) (fun _ _ _ _ _ _ us hl => match us, hl with | [_, _], _ => rfl) (fun cdv A outer s H E hr => ?_) (dl_start (o_fresh K))
  exact (dss (dasg 2 (fun _ h => ps_set (i := 2) sc_fresh.nd rfl (Or.inr rfl) h) (dcall (pe_dc (h_taken T) hr (dac (dv 0 (pv 0)) (dac (dv 1 (pv 1)) dan)))))
    (dss (dasg 3 (fun _ h => ps_set (i := 3) sc_fresh.nd rfl (Or.inl rfl) h) (dcall (pe_dc (h_row_of T) hr (dac (dv 0 (pv 0)) (dac (dv 2 (pv 2)) dan)))))
    (dss (dasg 4 (fun _ h => ps_set (i := 4) sc_fresh.nd rfl (Or.inl rfl) h) (dix oIx opIx (dp (df (dlc (tcN 5) one_tr (pe_lc (own := [("k", 5)]) (g := gName 5) (by rfl) sc_fresh.nd (diR1 (fun _ h => pi_range1 (by rfl) T.z_range h) (dac dc_int dan)) (blkOk_by (own := [("k", 5)]) (N := ["store", "start", "taken", "handed", "due", "k", "told"]) (sc := defScope q_fresh) (by decide +kernel)) (fun _ _ _ _ _ => pg_name (i := 5) sc_fresh.nd rfl (Or.inl rfl)) (fun _ _ _ _ _ => (pts_one (dtcmp kNi opNi (dp (dop oAdd opAdd (dvP 1 (pv 1)) (dp (dcb clStr (pe_callTy cStr (by rfl) T.z_str (by decide +kernel) (dbc (dvP 5 (pv 5)) dbn)))))) (dvP 2 (pv 2)) (by rfl)))) (fun _ _ _ _ _ => (dop oAdd opAdd (dvP 1 (pv 1)) (dp (dcb clStr (pe_callTy cStr (by rfl) T.z_str (by decide +kernel) (dbc (dvP 5 (pv 5)) dbn)))))))))) (dp dc_int) (fun _ _ => rfl)))
    (dss (dasg 6 (fun _ h => ps_set (i := 6) sc_fresh.nd rfl (Or.inl rfl) h) (dcallK (pe_dcK (hK_Pfresh_name T) hr passN (dac (dv 3 (pv 3)) dan) (dkc (dv 1 (pv 1)) dkn))))
    (dss (difS (PW.pt (dand (dtcmp oEq opEq (dvP 1 (pv 1)) (dp dc_str) (nomark _)) (dand1 (dnot (dtru (dp (dcall (pe_dc (h_same T 2) hr (dac (dcallD (fun _ _ => .cons (.str _) (.nil)) (pe_dcD (hD_Pfresh_name T) hr (dac (dv 3 (pv 3)) dan))) (dac (dv 4 (pv 4)) dan)))))))))) (dss1 (dret dc_bl)) dss0)
    (dss1 (dret (dandV (dcall (pe_dc (h_same T 2) hr (dac (dv 6 (pv 6)) (dac (dv 4 (pv 4)) dan)))) (done (dcall (pe_dc (h_same T 2) hr (dac (dcb clList (pe_callTy cList (by rfl) T.z_list (by decide +kernel) (dbc (dvP 3 (pv 3)) dbn))) (dac (dv 2 (pv 2)) dan)))))))))))))
theorem sc_stops : FnScope ["store", "start", "taken", "e"] ["store", "start"] (defScope q_stops) := ⟨rfl, rfl, rfl, by decide +kernel, rfl, by decide +kernel, by decide +kernel⟩
theorem h_stops (T : Txt K mg) : Has P w K mg base "_law_stops" 5 ["store", "start"] (dsp (s_stops K)) := by
  refine has_of (N := ["store", "start", "taken", "e"]) (k := 4) (t := liftS (fun _ _ _ _ => False) (w_stops K)) T.g_stops T.F_stops sc_stops (len_dsp (l_stops K)) (fun _ _ _ _ _ _ us hl => match us, hl with | [_, _], _ => rfl) (fun cdv A outer s H E hr => ?_) (dl_start (o_stops K))
  exact (dss (dasg 2 (fun _ h => ps_set (i := 2) sc_stops.nd rfl (Or.inl rfl) h) (dlst (dac (dop oAdd opAdd (dvP 1 (pv 1)) (dp dc_str)) (dac dc_str dan))))
    (dss (dtry (LN T) (ps_tryA (i := 3) (c := .ref (He.ga K "NestError")) rfl rfl sc_stops.nd rfl rfl ⟨by rfl, by decide, .inl T.c_NestError⟩ tkNone (fun W pn xe tk _ => (dss1 (ddropK (fun _ h => ps_expr h) (pe_dcKS (hK_Pfresh_name T) hr (fun σ => L2N.passAt tk σ) (dac (dv 2 (pv 2)) dan) (dkc (dv 1 (pv 1)) dkn))))) (fun a oe cls d pn hz hf => (dss (difS (dnot (dtru (dp (dcall (pe_hc (hh_same T 2) (roomS hr) (hotS hz hf) (dac (dkd (LE T) LS (pe_kdF (fun C b F G Z => hh_kinds T F G Z hf) (roomS hr) hz hf (pv 3))) (dac (dlst (dac dc_str (dac dc_str (dac dc_str dan)))) dan))))))) (dss1 (dret dc_bl)) dss0)
    (dss1 (dret (dandV (dcall (pe_hc (hh_same T 2) (roomS hr) (hotS hz hf) (dac (dxf (LX T) (pe_xfE hz hf (pv 3))) (dac (dv 1 (pv 1)) dan)))) (done (dcall (pe_hc (hh_same T 2) (roomS hr) (hotS hz hf) (dac (dv 2 (pv 2)) (dac (dlst (dac (dop oAdd opAdd (dvP 1 (pv 1)) (dp dc_str)) (dac dc_str dan))) dan))))))))))))
    (dss1 (dret dc_bl))))
theorem sc_law : FnScope ["script", "store", "row", "name"] ["script"] (defScope q_law) := ⟨rfl, rfl, rfl, by decide +kernel, rfl, by decide +kernel, by decide +kernel⟩
theorem h_law (T : Txt K mg) : ∃ fd, (∀ (s : Shared) (u : Value), BindsTo s fd ⟨[u], []⟩ [("script", u)]) ∧ ∀ base : Heap, FnOk P w K mg base CX0 7 (He.ga K "law") fd ["script"] (sp_lawS K) := by
  obtain ⟨fd, F⟩ := T.F_law
  have b := FunD.bindsA (ps := ["script"]) F fun _ _ _ _ _ _ us hl => match us, hl with | [_], _ => rfl
  refine ⟨fd, fun s v => b s [v] rfl, fun base => law_of (N := ["script", "store", "row", "name"]) (k := 6) (t := t_lawS K (fun _ _ _ _ => False) (w_law02 K)) F sc_law (l_lawS K) (fun cdv A outer s H E hr => ?_) (p_lawS K (n := 2) rfl (o_law02 K))⟩
  exact (pss_cons (ps_set (i := 1) sc_law.nd rfl (Or.inl rfl) (pe_dc (h_store T) hr (pa_cons (pv 0) pa_nil)))
    (dss (dasg 2 (fun _ h => ps_set (i := 2) sc_law.nd rfl (Or.inl rfl) h) (dcall (pe_dc (h_drawn_row T) hr (dac (dv 1 (pv 1)) dan))))
    (dss (difS (PW.pt (dor (dnot (dtru (dp (dcall (pe_dc (h_sorts T) hr (dac (dv 1 (pv 1)) (dac (dv 2 (pv 2)) dan))))))) (dor (dnot (dtru (dp (dcall (pe_dc (h_refuses T) hr (dac (dv 1 (pv 1)) (dac (dv 2 (pv 2)) dan))))))) (dor1 (dnot (dtru (dp (dcall (pe_dc (h_sorts T) hr (dac (dv 1 (pv 1)) (dac (dv 2 (pv 2)) dan))))))))))) (dss1 (dret dc_bl)) dss0)
    (dss (dasg 3 (fun _ h => ps_set (i := 3) sc_law.nd rfl (Or.inl rfl) h) (dop oAdd opAdd (dp (dcall (pe_dc (h_name T) hr (dac (dv 1 (pv 1)) dan)))) (dp dc_str)))
    (dss (difS (PW.pt (dor (dnot (dtru (dp (dcall (pe_dc (h_fresh T) hr (dac (dv 1 (pv 1)) (dac (dsl (dvP 3 (pv 3)) dpo0 (dpo (dp (dop oAdd opAdd (dp dc_int) (dp (dcall (pe_dc (h_take T) hr (dac (dv 1 (pv 1)) (dac dc_int dan))))))))) dan))))))) (dor1 (dnot (dtru (dp (dcall (pe_dc (h_fresh T) hr (dac (dv 1 (pv 1)) (dac dc_str dan)))))))))) (dss1 (dret dc_bl)) dss0)
    (dss (difS (PW.pt (dor (dnot (dtru (dp (dcall (pe_dc (h_stops T) hr (dac (dv 1 (pv 1)) (dac (dsl (dvP 3 (pv 3)) dpo0 (dpo (dp (dop oAdd opAdd (dp dc_int) (dp (dcall (pe_dc (h_take T) hr (dac (dv 1 (pv 1)) (dac dc_int dan))))))))) dan))))))) (dor1 (dnot (dtru (dp (dcall (pe_dc (h_stops T) hr (dac (dv 1 (pv 1)) (dac (dcall (pe_dc (h_not_name T) hr (dac (dv 1 (pv 1)) dan))) dan)))))))))) (dss1 (dret dc_bl)) dss0)
    (dss1 (dret (dcall (pe_dc (h_fresh T) hr (dac (dv 1 (pv 1)) (dac (dsl (dvP 3 (pv 3)) dpo0 (dpo (dp dc_int))) dan))))))))))))
end
end DL
namespace DL
open PySem PySem.Spec PyProof.Rows L2 NW
theorem txt {K : PySem.W.Frag} {h : Heap} {mg : Str → Option Value} (X : K.In h) (G : h.Ns mainGlobals mg) (c : He.SaysD fa fn K) (ok : (okL K).all id = true) : Txt K mg := by
  constructor
  · exact He.glo_ok X G (c.fact 0 (f := .glo "_law_mix") rfl)
  · exact c.def_ 0 (d := d_mix) rfl
  · exact He.glo_ok X G (c.fact 1 (f := .glo "_law_take") rfl)
  · exact c.def_ 1 (d := d_take) rfl
  · exact He.glo_ok X G (c.fact 2 (f := .glo "_law_store") rfl)
  · exact c.def_ 2 (d := d_store) rfl
  · exact He.glo_ok X G (c.fact 3 (f := .glo "_law_same") rfl)
  · exact c.def_ 3 (d := d_same) rfl
  · exact He.glo_ok X G (c.fact 4 (f := .glo "_law_kinds") rfl)
  · exact c.def_ 4 (d := d_kinds) rfl
  · exact He.glo_ok X G (c.fact 5 (f := .glo "_law_edge") rfl)
  · exact c.def_ 5 (d := d_edge) rfl
  · exact He.glo_ok X G (c.fact 6 (f := .glo "_law_number") rfl)
  · exact c.def_ 6 (d := d_number) rfl
  · exact He.glo_ok X G (c.fact 7 (f := .glo "_law_pick") rfl)
  · exact c.def_ 7 (d := d_pick) rfl
  · exact He.glo_ok X G (c.fact 8 (f := .glo "_law_shuffled") rfl)
  · exact c.def_ 8 (d := d_shuffled) rfl
  · exact He.glo_ok X G (c.fact 9 (f := .glo "_law_row_of") rfl)
  · exact c.def_ 9 (d := d_row_of) rfl
  · exact He.glo_ok X G (c.fact 10 (f := .glo "_law_put") rfl)
  · exact c.def_ 10 (d := d_put) rfl
  · exact He.glo_ok X G (c.fact 11 (f := .glo "_law_sign") rfl)
  · exact c.def_ 11 (d := d_sign) rfl
  · exact He.glo_ok X G (c.fact 12 (f := .glo "_law_name_of") rfl)
  · exact c.def_ 12 (d := d_name_of) rfl
  · exact He.glo_ok X G (c.fact 13 (f := .glo "_law_name") rfl)
  · exact c.def_ 13 (d := d_name) rfl
  · exact He.glo_ok X G (c.fact 14 (f := .glo "_law_unlike") rfl)
  · exact c.def_ 14 (d := d_unlike) rfl
  · exact He.glo_ok X G (c.fact 15 (f := .glo "_law_name_like_by") rfl)
  · exact c.def_ 15 (d := d_name_like_by) rfl
  · exact He.glo_ok X G (c.fact 16 (f := .glo "_law_names_by") rfl)
  · exact c.def_ 16 (d := d_names_by) rfl
  · exact He.glo_ok X G (c.fact 17 (f := .glo "_law_not_name") rfl)
  · exact c.def_ 17 (d := d_not_name) rfl
  · exact He.glo_ok X G (c.fact 18 (f := .glo "_law_is_name") rfl)
  · exact c.def_ 18 (d := d_is_name) rfl
  · exact He.glo_ok X G (c.fact 19 (f := .glo "is_name") rfl)
  · exact c.def_ 19 (d := d_Pis_name) rfl
  · exact He.glo_ok X G (c.fact 20 (f := .glo "valid_name") rfl)
  · exact c.def_ 20 (d := d_Pvalid_name) rfl
  · exact He.glo_ok X G (c.fact 21 (f := .glo "ordered") rfl)
  · exact c.def_ 21 (d := d_Pordered) rfl
  · exact He.glo_ok X G (c.fact 22 (f := .glo "fresh_name") rfl)
  · exact c.def_ 22 (d := d_Pfresh_name) rfl
  · exact He.glo_ok X G (c.fact 23 (f := .glo "_law_drawn_row") rfl)
  · exact c.def_ 23 (d := d_drawn_row) rfl
  · exact He.glo_ok X G (c.fact 24 (f := .glo "_law_is_sorted") rfl)
  · exact c.def_ 24 (d := d_is_sorted) rfl
  · exact He.glo_ok X G (c.fact 25 (f := .glo "_law_sorts") rfl)
  · exact c.def_ 25 (d := d_sorts) rfl
  · exact He.glo_ok X G (c.fact 26 (f := .glo "_law_refuses") rfl)
  · exact c.def_ 26 (d := d_refuses) rfl
  · exact He.glo_ok X G (c.fact 27 (f := .glo "_law_taken") rfl)
  · exact c.def_ 27 (d := d_taken) rfl
  · exact He.glo_ok X G (c.fact 28 (f := .glo "_law_fresh") rfl)
  · exact c.def_ 28 (d := d_fresh) rfl
  · exact He.glo_ok X G (c.fact 29 (f := .glo "_law_stops") rfl)
  · exact c.def_ 29 (d := d_stops) rfl
  · exact He.glo_ok X G (c.fact 30 (f := .glo "law") rfl)
  · exact c.def_ 30 (d := d_law) rfl
  · exact He.free_ok X G (c.fact 65 (f := .free "ValueError") rfl)
  · exact He.free_ok X G (c.fact 66 (f := .free "abs") rfl)
  · exact He.free_ok X G (c.fact 67 (f := .free "all") rfl)
  · exact He.free_ok X G (c.fact 68 (f := .free "bool") rfl)
  · exact He.free_ok X G (c.fact 69 (f := .free "dict") rfl)
  · exact He.free_ok X G (c.fact 70 (f := .free "int") rfl)
  · exact He.free_ok X G (c.fact 71 (f := .free "isinstance") rfl)
  · exact He.free_ok X G (c.fact 72 (f := .free "len") rfl)
  · exact He.free_ok X G (c.fact 73 (f := .free "list") rfl)
  · exact He.free_ok X G (c.fact 74 (f := .free "max") rfl)
  · exact He.free_ok X G (c.fact 75 (f := .free "min") rfl)
  · exact He.free_ok X G (c.fact 76 (f := .free "range") rfl)
  · exact He.free_ok X G (c.fact 77 (f := .free "set") rfl)
  · exact He.free_ok X G (c.fact 78 (f := .free "sorted") rfl)
  · exact He.free_ok X G (c.fact 79 (f := .free "str") rfl)
  · exact He.free_ok X G (c.fact 80 (f := .free "tuple") rfl)
  · exact He.str_ok X G (c.fact 81 (f := .str "DIGITS" "0123456789") rfl)
  · exact He.str_ok X G (c.fact 82 (f := .str "LETTERS" "abcdefghijklmnopqrstuvwxyz") rfl)
  · exact He.int_ok X G (c.fact 83 (f := .int "LONGEST_NAME" 8) rfl)
  · exact He.int_ok X G (c.fact 84 (f := .int "LONGEST_STEM" 5) rfl)
  · exact He.glo_ok X G (c.fact 31 (f := .glo "BadClaim") rfl)
  · exact He.glo_ok X G (c.fact 32 (f := .glo "BadCount") rfl)
  · exact He.glo_ok X G (c.fact 33 (f := .glo "BadName") rfl)
  · exact He.glo_ok X G (c.fact 34 (f := .glo "BadNumber") rfl)
  · exact He.glo_ok X G (c.fact 35 (f := .glo "BadOrder") rfl)
  · exact He.glo_ok X G (c.fact 36 (f := .glo "BadText") rfl)
  · exact He.glo_ok X G (c.fact 37 (f := .glo "BadWeight") rfl)
  · exact He.glo_ok X G (c.fact 38 (f := .glo "BadWish") rfl)
  · exact He.glo_ok X G (c.fact 39 (f := .glo "Broken") rfl)
  · exact He.glo_ok X G (c.fact 40 (f := .glo "Clash") rfl)
  · exact He.glo_ok X G (c.fact 41 (f := .glo "Idle") rfl)
  · exact He.glo_ok X G (c.fact 42 (f := .glo "Inside") rfl)
  · exact He.glo_ok X G (c.fact 43 (f := .glo "Loop") rfl)
  · exact He.glo_ok X G (c.fact 44 (f := .glo "Nailed") rfl)
  · exact He.glo_ok X G (c.fact 45 (f := .glo "NestError") rfl)
  · exact He.glo_ok X G (c.fact 46 (f := .glo "NoChange") rfl)
  · exact He.glo_ok X G (c.fact 47 (f := .glo "NoHolder") rfl)
  · exact He.glo_ok X G (c.fact 48 (f := .glo "NoStory") rfl)
  · exact He.glo_ok X G (c.fact 49 (f := .glo "NotComing") rfl)
  · exact He.glo_ok X G (c.fact 50 (f := .glo "NotEmpty") rfl)
  · exact He.glo_ok X G (c.fact 51 (f := .glo "NothingDone") rfl)
  · exact He.glo_ok X G (c.fact 52 (f := .glo "OrderRefused") rfl)
  · exact He.glo_ok X G (c.fact 53 (f := .glo "OtherDoors") rfl)
  · exact He.glo_ok X G (c.fact 54 (f := .glo "OtherYard") rfl)
  · exact He.glo_ok X G (c.fact 55 (f := .glo "OutOfSteps") rfl)
  · exact He.glo_ok X G (c.fact 56 (f := .glo "Refusal") rfl)
  · exact He.glo_ok X G (c.fact 57 (f := .glo "Same") rfl)
  · exact He.glo_ok X G (c.fact 58 (f := .glo "Sealed") rfl)
  · exact He.glo_ok X G (c.fact 59 (f := .glo "Short") rfl)
  · exact He.glo_ok X G (c.fact 60 (f := .glo "TooMany") rfl)
  · exact He.glo_ok X G (c.fact 61 (f := .glo "Twice") rfl)
  · exact He.glo_ok X G (c.fact 62 (f := .glo "Unbalanced") rfl)
  · exact He.glo_ok X G (c.fact 63 (f := .glo "Unknown") rfl)
  · exact He.glo_ok X G (c.fact 64 (f := .glo "Unlike") rfl)
  · have E1 := err1_ok (okAt ok 0) (okAt ok 1) (okAt ok 2) (c.def_ 31 (d := d_BadName) rfl)
    refine ⟨E1.o, fun f hf => ?_, E1.ex⟩
    simp only [List.mem_cons, List.not_mem_nil, or_false] at hf
    subst hf
    exact E1.n
  · exact ⟨fun c hc => errFB_ok (List.all_eq_true.mp (okAt ok 3) c hc)⟩
  · exact fun p hp => He.eqO_ok (List.all_eq_true.mp (okAt ok 4) p hp)
end DL
open PySem PySem.W PySem.Calls PyProof.Rows
theorem PySem.Challenge.cw_nestweigh_k02_ordered_and_fresh_holds : PySem.Challenge.rw_nestweigh_k02_ordered_and_fresh.Holds := by
  refine NW.early fun hws => ?_
  refine HandSHeadRun.head_any (r := OpenLaw.row PySem.Challenge.rw_nestweigh_k02_ordered_and_fresh) (q := view (OpenLaw.row PySem.Challenge.rw_nestweigh_k02_ordered_and_fresh).prog [71]) (H := NW.hk) (ob := NW.ob) (M := 20000) (loose := NW.names) (d := HandSHeadRun.topDef (OpenLaw.row PySem.Challenge.rw_nestweigh_k02_ordered_and_fresh).prog 71) (kwd := []) NW.ob_eq
    (by kernel_rfl) (fun s => by kernel_rfl)
    NW.run (by kernel_rfl) (by kernel_rfl) (by kernel_rfl) (by rfl) (by exact hws) (by decide +kernel) ⟨rfl, rfl, rfl, rfl, rfl, by decide +kernel⟩ ?hw ?hc
  case hw => w_witness2
  case hc =>
    refine L2.walk_ofE (l := PySem.Challenge.rw_nestweigh_k02_ordered_and_fresh) (n := 63) (k := 7) (x := "script") (CX := L2.CX0) rfl (by decide) (by kernel_rfl) ⟨rfl, by decide, by decide⟩ ?F (fun _ _ _ _ z => z)
    intro w mg fa h Y G hmg0
    obtain ⟨K, KX, c, ok⟩ := Y
    have T : DL.Txt K mg := DL.txt KX G c ok
    have hmg : mg ("law" : PySem.Str) = some (.ref fa) := by
      have e : (HandSHeadRun.topDef (OpenLaw.row PySem.Challenge.rw_nestweigh_k02_ordered_and_fresh).prog 71).name = ("law" : PySem.Str) := by kernel_rfl
      rw [← e]
      exact hmg0
    have e2 : fa = He.ga K "law" := NW.ref_inj (hmg.symm.trans T.g_law)
    rw [e2]
    obtain ⟨fd, hb, hF⟩ := DL.h_law (P := (PySem.Challenge.rw_nestweigh_k02_ordered_and_fresh).prog) (w := w) T
    exact ⟨K, fd, DL.sp_lawS K, KX, hb, fun H a ns hl _ hS => ⟨a, ns, rfl, hS, fun _ => rfl⟩, fun base _ _ => hF base⟩
