import PyProof.Rows.All
import Wide.All
import OpenK.AllK
import Wide.FinOn
import KE.KStateDown
import KE.KMathGC
import KE.KExcIs
import KE.GoesMore
import KE.GoesComp
import HandS.ForMost
import HandS.Exc
import HandS.TryOnly
import HandS.TryMany
import HandS.ExcCtx
import HandS.Hot
import HandS.HotCalls
import HandS.ExcInit
import HandS.ExcInitHot
import HandS.ExcIs
import HandS.ExcField
import HandS.WordsExc
import HandS.Defaults
import HandS.Wide
import HandS.IsInst
import HandS.Conv
import HandS.Codes
import HandS.Head0
import HandS.Head1
import HandS.Head2
import HandS.HeadEnd
import HandS.HeadHook1
import HandS.HeadHook2
import HandS.Head3
import HandS.Rev
import HandS.RevTup
import HandS.Flow
import HandS.ExcValue
import HandS.SetFor
import HandS.SortInts
import PyProof.Rows.SortShellAny
import HandS.Strs
import HandS.FStr
import HandS.MakeKwOnly
import HandS.Dict
import HandS.WordsDict
import HandS.Property
import HandS.IterVal
import KE.KOwnIter
import HandS.More
import HandS.HeadNt
import HandS.ListItems
import HandS.TupAny
import HandS.ExcOwn
import KE.KItemsList
import HandS.Hot
import HandS.HotCalls
import HandS.ClsMeth
import HandS.SortRule
import PySem.Challenge.RW_nestweigh_k05_counted_bags
set_option Elab.async false
set_option linter.all false
set_option maxRecDepth 100000
set_option maxHeartbeats 4000000
set_option exponentiation.threshold 1000
namespace NW
open PySem PySem.Spec PyProof.Rows L2
def errN1 : List Str := ["NestError", "Refusal", "BadName", "BadWeight", "BadNumber", "BadCount", "Twice", "Unknown", "NoHolder", "Loop", "Short", "BadText", "OtherYard", "Same", "Inside", "Unlike", "Nailed"]
def errN2 : List Str := ["Sealed", "Idle", "Broken", "NotComing", "Unbalanced", "TooMany", "BadWish", "Clash", "OtherDoors", "NoStory", "BadOrder", "OrderRefused", "OutOfSteps", "NotEmpty", "NoChange", "NothingDone", "BadClaim"]
def inL (l : List Str) : Str → Bool := fun s => decide (s ∈ l)
def clsFn (s : Stmt) : Stmt := match s with | .ClassDef (body := b) .. => b.getD 0 (.Pass ⟨0, 0, 0, 0⟩) | _ => .Pass ⟨0, 0, 0, 0⟩
def oexK (K : PySem.W.Frag) (C : Addr) : Bool := match K.lookup C with
  | some ⟨.type "type", _, .cls cd, sl⟩ => (match cd.mro, sl.toList with
    | .ref C' :: bm, [_, _, _, _, some (.builtin n), _] => C' == C && n == "ValueError.__new__" && !cd.hasDel && cd.hasDict && PySem.HandSPX.refsVE bm
    | _, _ => false)
  | _ => false
def oexB (K : PySem.W.Frag) (C : Addr) : Bool := oexK K C && (He.eqO (PySem.W.findIn K (.ref C) "__setattr__") (some (some (.builtin "object.__setattr__"))) && (decide (PySem.W.subIn K (.ref C) (.type "BaseException") = some true) && (decide (PySem.W.typeIn K (.ref C) = some (.type "type")) && PySem.W.keepIn K (.ref C))))
def kitFB (K : PySem.W.Frag) (C : Addr) (b : Str → Bool) : Bool := decide (PySem.W.kitOne K (.ref C) (.type "ValueError") = some (b "ValueError")) && (errN1 ++ errN2).all fun n => decide (PySem.W.kitOne K (.ref C) (.ref (He.ga K n)) = some (b n))
def excCB (K : PySem.W.Frag) (D : Addr) : Bool := He.eqO (PySem.W.findIn K (.ref D) "__getattribute__") (some (some (.builtin "BaseException.__getattribute__"))) && (He.eqO (PySem.W.findIn K (.ref D) "__getattr__") (some none) && (decide (PySem.W.subIn K (.ref D) (.type "BaseException") = some true) && (PySem.W.hasDictIn K D &&
  (He.eqO (PySem.W.findIn K (.ref D) "__class__") (some (some (.builtin "object.__class__"))) && (He.eqO (PySem.W.specialIn K (.builtin "object.__class__") "__get__") (some (some (.builtin "getset_descriptor.__get__"))) && (decide (PySem.W.takesIn K (.builtin "object.__class__") = some true) && decide (PySem.W.mroIn K D (.type "object") = some true)))))))
def errFB (K : PySem.W.Frag) (C : Addr) (b : Str → Bool) : Bool := kitFB K C b && (excCB K C && (xfB K C && decide (PySem.W.exmOne K (.ref C) (.ref (He.ga K "NestError")) = some true)))
def iniB (K : PySem.W.Frag) (C : Addr) : Bool := He.eqO (PySem.W.findIn K (.ref C) "__init__") (some (some (.ref (He.ma K C "__init__")))) && decide (PySem.W.typeIn K (.ref (He.ma K C "__init__")) = some (.type "function"))
end NW
namespace NW
open PySem PySem.Spec PyProof.Rows L2
def digK (K : PySem.W.Frag) : Bool := PySem.W.nsOkIn K cStatics && He.eqO (PySem.W.nsIn K cStatics "sys.int_max_str_digits") (some none)
def adS (g : Addr → Option Obj) (n : Nat) : List Addr := He.asD g n ++ [cStatics]
end NW
namespace NW
open PySem PySem.Spec PyProof.Rows L2
def hookC (n : Nat) (fa : List He.Fa) (fn : List He.DefD) (pn : List He5.DefA) (ok : PySem.W.Frag → List Bool) : PySem.W.Hook where
  α := He.AlD × Bool × List He.FnW
  obs := fun s => (He.obsD fa fn (He.frG s.heap.get? (adS s.heap.get? n)), (ok (He.frG s.heap.get? (adS s.heap.get? n))).all id, pn.map fun d => He5.fnA (He.frG s.heap.get? (adS s.heap.get? n)) (d.at_ (He.frG s.heap.get? (adS s.heap.get? n))))
  val := fun _ => (He.valD fn, true, pn.map He5.DefA.val)
  says := fun _ h => ∃ K : PySem.W.Frag, K.In h ∧ He.SaysD fa fn K ∧ (ok K).all id = true ∧ (pn.map fun d => He5.fnA K (d.at_ K)) = pn.map He5.DefA.val
  of := fun _ _ e => ⟨_, He.frG_in, congrArg (fun z : He.AlD × Bool × List He.FnW => z.1) e, congrArg (fun z : He.AlD × Bool × List He.FnW => z.2.1) e, congrArg (fun z : He.AlD × Bool × List He.FnW => z.2.2) e⟩
  keeps := fun _ _ _ ⟨K, hK, c⟩ k => ⟨K, PySem.W.Frag.In.keeps hK k, c⟩
def obsC (n : Nat) (fa : List He.Fa) (fn : List He.DefD) (pn : List He5.DefA) (ok : PySem.W.Frag → List Bool) (g : Addr → Option Obj) : He.AlD × Bool × List He.FnW := let K := He.frG g (adS g n)
  (He.obsD fa fn K, (ok K).all id, pn.map fun d => He5.fnA K (d.at_ K))
theorem obsC_eq {n : Nat} {fa : List He.Fa} {fn : List He.DefD} {pn : List He5.DefA} {ok : PySem.W.Frag → List Bool} {g : Addr → Option Obj} {s : Shared} (h : ∀ a, g a = s.heap.get? a) : obsC n fa fn pn ok g = (hookC n fa fn pn ok).obs s := by
  have e : g = s.heap.get? := funext h
  rw [e] <;> rfl
def clsB (K : PySem.W.Frag) (C : Addr) : Bool := PySem.W.plainGet K C Str.empty && (PySem.W.hasDictIn K C && (PySem.W.plainOver K C && He.eqO (PySem.W.findIn K (.ref C) "__setattr__") (some (some (.builtin "object.__setattr__")))))
def methB (K : PySem.W.Frag) (C : Addr) (m : Str) : Bool := He.eqO (PySem.W.findIn K (.ref C) m) (some (some (.ref (He.ma K C m)))) && (PySem.W.isFn K (.ref (He.ma K C m)) && PySem.W.keepIn K (.ref (He.ma K C m)))
def mkB (K : PySem.W.Frag) (C : Addr) : Bool := PySem.W.makesIn K C && (He.eqO (PySem.W.findIn K (.ref C) "__init__") (some (some (.ref (He.ma K C "__init__")))) && (PySem.W.isFn K (.ref (He.ma K C "__init__")) && PySem.W.keepIn K (.ref C)))
def propB (K : PySem.W.Frag) (C : Addr) (f : Str) : Bool := He.eqO (PySem.W.findIn K (.ref C) f) (some (some (.ref (He.ma K C f)))) && (He.eqO (PySem.W.specialIn K (.ref (He.ma K C f)) "__get__") (some (some (.builtin "property.__get__"))) && (decide (PySem.W.takesIn K (.ref (He.ma K C f)) = some true) && (match PySem.W.recIn K (He.ma K C f) "property" with
  | some (.ref _ :: _) => true
  | _ => false)))
def ktuB (K : PySem.W.Frag) (a : Addr) : Bool := match K.lookup a with
  | some o => (match o.cls, o.data with
    | .type n, .seq its _ => n == "tuple" && its.toList.isEmpty
    | _, _ => false)
  | none => false
def cinB (K : PySem.W.Frag) (C : Addr) : Bool := He.eqO (PySem.W.findIn K (.ref C) "__class__") (some (some (.builtin "object.__class__"))) && (He.eqO (PySem.W.specialIn K (.builtin "object.__class__") "__get__") (some (some (.builtin "getset_descriptor.__get__"))) && (decide (PySem.W.takesIn K (.builtin "object.__class__") = some true) && (decide (PySem.W.mroIn K C (.type "object") = some true) &&
  (decide (PySem.W.kitOne K (.ref C) (.ref C) = some true) && (decide (PySem.W.kitOne K (.type "NoneType") (.ref C) = some false) && (decide (PySem.W.kitOne K (.type "list") (.ref C) = some false) && decide (PySem.W.kitOne K (.type "tuple") (.ref C) = some false)))))))
def nfB (K : PySem.W.Frag) (C : Addr) : Bool := PySem.W.notFirst K C (.type "NoneType") && (PySem.W.notFirst K C (.type "list") && (PySem.W.notFirst K C (.type "tuple") && PySem.W.notFirst K C (.ref C)))
def mthS (s : Stmt) (i : Nat) : Stmt := match s with | .ClassDef (body := b) .. => b.getD i (.Pass ⟨0, 0, 0, 0⟩) | _ => .Pass ⟨0, 0, 0, 0⟩
end NW
namespace NW
open PySem PySem.Spec PyProof.Rows L2
def cmB (K : PySem.W.Frag) (C : Addr) (m : Str) : Bool := PySem.W.readsIn K C (.type "type") && (He5.wrapB K C "classmethod" "classmethod.__get__" m && PySem.W.fnIn K (He5.wf K C "classmethod" m))
end NW
namespace DL
open PySem PySem.Spec PyProof.Rows
def kindsOf : Str → List Str := fun c => if c ∈ (["Same", "Inside", "Unlike", "Nailed", "Sealed", "Idle"] : List Str) then ["ValueError", "NestError", "Refusal", c] else ["ValueError", "NestError", c]
def allErr : List Str := ["BadName", "BadWeight", "BadNumber", "BadCount", "Twice", "Short", "BadText", "Unbalanced", "Broken", "NotComing", "TooMany", "BadWish", "Clash", "OtherDoors", "NoStory", "BadOrder", "OrderRefused", "OutOfSteps", "NotEmpty", "NoChange", "NothingDone", "BadClaim", "OtherYard", "Unknown", "NoHolder", "Loop", "Same", "Inside", "Unlike", "Nailed", "Sealed", "Idle"]
def allFld : List (Str × Str) := [(("BadName" : Str), ("name" : Str)), (("Twice" : Str), ("name" : Str)), (("Unknown" : Str), ("name" : Str)), (("NoHolder" : Str), ("name" : Str)), (("Loop" : Str), ("name" : Str)), (("Same" : Str), ("name" : Str)), (("Nailed" : Str), ("name" : Str)), (("Sealed" : Str), ("name" : Str))] ++ [(("Idle" : Str), ("name" : Str)), (("Unbalanced" : Str), ("name" : Str)), (("Clash" : Str), ("name" : Str)), (("NotEmpty" : Str), ("name" : Str)), (("NoChange" : Str), ("name" : Str)), (("BadWeight" : Str), ("weight" : Str)), (("BadNumber" : Str), ("number" : Str)), (("Short" : Str), ("number" : Str))] ++ [(("BadWish" : Str), ("at" : Str)), (("BadClaim" : Str), ("claim" : Str)), (("NotComing" : Str), ("bar" : Str)), (("OrderRefused" : Str), ("line" : Str)), (("OrderRefused" : Str), ("reason" : Str)), (("OrderRefused" : Str), ("deeds" : Str)), (("OutOfSteps" : Str), ("line" : Str)), (("OutOfSteps" : Str), ("deeds" : Str))] ++ [(("Unlike" : Str), ("first" : Str)), (("Unlike" : Str), ("second" : Str)), (("Unlike" : Str), ("first_weight" : Str)), (("Unlike" : Str), ("second_weight" : Str)), (("Inside" : Str), ("inner" : Str)), (("Inside" : Str), ("outer" : Str)), (("TooMany" : Str), ("many" : Str)), (("TooMany" : Str), ("limit" : Str))] ++ [(("Broken" : Str), ("at" : Str)), (("Broken" : Str), ("reason" : Str)), (("BadCount" : Str), ("what" : Str)), (("BadCount" : Str), ("many" : Str)), (("BadText" : Str), ("line" : Str)), (("BadText" : Str), ("fault" : Str)), (("BadOrder" : Str), ("line" : Str)), (("BadOrder" : Str), ("fault" : Str))]
end DL
namespace NW
open PySem PySem.W PySem.Calls PyProof.Rows
theorem early (h : (PySem.W.OpenLaw.row PySem.Challenge.rw_nestweigh_k05_counted_bags).wellSaid = true → (PySem.W.OpenLaw.row PySem.Challenge.rw_nestweigh_k05_counted_bags).Holds) : PySem.Challenge.rw_nestweigh_k05_counted_bags.Holds := by
  w_on; o_law
  exact h (by assumption)
end NW
namespace NW
open PySem PySem.Spec PyProof.Rows L2
def top (i : Nat) : Stmt := PySem.Challenge.pw_nestweigh_k05_counted_bags.main.body.getD i (.Pass ⟨0, 0, 0, 0⟩)
abbrev q_mix : Stmt := top 42
abbrev q_take : Stmt := top 43
abbrev q_store : Stmt := top 41
abbrev q_same : Stmt := top 52
abbrev q_kinds : Stmt := top 53
abbrev q_edge : Stmt := top 44
abbrev q_number : Stmt := top 45
abbrev q_pick : Stmt := top 46
abbrev q_shuffled : Stmt := top 47
abbrev q_not_integer : Stmt := top 48
abbrev q_integer : Stmt := top 49
abbrev q_integers : Stmt := top 50
abbrev q_is_integer : Stmt := top 51
abbrev q_pairs : Stmt := top 54
abbrev q_dict : Stmt := top 55
abbrev q_Pis_number : Stmt := top 36
abbrev q_holds : Stmt := top 56
abbrev q_refuses : Stmt := top 57
abbrev q_law : Stmt := top 58
abbrev q_BadNumber : Stmt := clsFn (top 5)
abbrev q_PBag___init__ : Stmt := mthS (top 39) 0
abbrev q_PBag_numbers : Stmt := mthS (top 39) 1
abbrev q_PBag_total : Stmt := mthS (top 39) 2
abbrev q_PBag_times : Stmt := mthS (top 39) 3
abbrev q_PBag_table : Stmt := mthS (top 39) 4
abbrev q_PBag___len__ : Stmt := mthS (top 39) 7
abbrev q_PBag___contains__ : Stmt := mthS (top 39) 9
abbrev q_PBag___eq__ : Stmt := mthS (top 39) 10
abbrev q_PBag_counted : Stmt := mthS (top 39) 6
def d_mix : He.DefD := ⟨("_law_mix", none), "_law_mix", "_law_mix", defArgs q_mix, defBody q_mix, defScope q_mix, [], []⟩
def d_take : He.DefD := ⟨("_law_take", none), "_law_take", "_law_take", defArgs q_take, defBody q_take, defScope q_take, [], []⟩
def d_store : He.DefD := ⟨("_law_store", none), "_law_store", "_law_store", defArgs q_store, defBody q_store, defScope q_store, [], []⟩
def d_same : He.DefD := ⟨("_law_same", none), "_law_same", "_law_same", defArgs q_same, defBody q_same, defScope q_same, [], []⟩
def d_kinds : He.DefD := ⟨("_law_kinds", none), "_law_kinds", "_law_kinds", defArgs q_kinds, defBody q_kinds, defScope q_kinds, [], []⟩
def d_edge : He.DefD := ⟨("_law_edge", none), "_law_edge", "_law_edge", defArgs q_edge, defBody q_edge, defScope q_edge, [], []⟩
def d_number : He.DefD := ⟨("_law_number", none), "_law_number", "_law_number", defArgs q_number, defBody q_number, defScope q_number, [], []⟩
def d_pick : He.DefD := ⟨("_law_pick", none), "_law_pick", "_law_pick", defArgs q_pick, defBody q_pick, defScope q_pick, [], []⟩
def d_shuffled : He.DefD := ⟨("_law_shuffled", none), "_law_shuffled", "_law_shuffled", defArgs q_shuffled, defBody q_shuffled, defScope q_shuffled, [], []⟩
def d_not_integer : He.DefD := ⟨("_law_not_integer", none), "_law_not_integer", "_law_not_integer", defArgs q_not_integer, defBody q_not_integer, defScope q_not_integer, [], []⟩
def d_integer : He.DefD := ⟨("_law_integer", none), "_law_integer", "_law_integer", defArgs q_integer, defBody q_integer, defScope q_integer, [], []⟩
def d_integers : He.DefD := ⟨("_law_integers", none), "_law_integers", "_law_integers", defArgs q_integers, defBody q_integers, defScope q_integers, [], []⟩
def d_is_integer : He.DefD := ⟨("_law_is_integer", none), "_law_is_integer", "_law_is_integer", defArgs q_is_integer, defBody q_is_integer, defScope q_is_integer, [], []⟩
def d_pairs : He.DefD := ⟨("_law_pairs", none), "_law_pairs", "_law_pairs", defArgs q_pairs, defBody q_pairs, defScope q_pairs, [], []⟩
def d_dict : He.DefD := ⟨("_law_dict", none), "_law_dict", "_law_dict", defArgs q_dict, defBody q_dict, defScope q_dict, [], []⟩
def d_Pis_number : He.DefD := ⟨("is_number", none), "is_number", "is_number", defArgs q_Pis_number, defBody q_Pis_number, defScope q_Pis_number, [], []⟩
def d_holds : He.DefD := ⟨("_law_holds", none), "_law_holds", "_law_holds", defArgs q_holds, defBody q_holds, defScope q_holds, [], []⟩
def d_refuses : He.DefD := ⟨("_law_refuses", none), "_law_refuses", "_law_refuses", defArgs q_refuses, defBody q_refuses, defScope q_refuses, [], []⟩
def d_law : He.DefD := ⟨("law", none), "law", "law", defArgs q_law, defBody q_law, defScope q_law, [], []⟩
def d_BadNumber : He.DefD := ⟨("BadNumber", some "__init__"), "__init__", "BadNumber.__init__", defArgs q_BadNumber, defBody q_BadNumber, defScope q_BadNumber, [], []⟩
def d_PBag___init__ : He.DefD := ⟨("Bag", some "__init__"), "__init__", "Bag.__init__", defArgs q_PBag___init__, defBody q_PBag___init__, defScope q_PBag___init__, [.adr (He.dflAt ("Bag", some "__init__") 0)], []⟩
def p_PBag_numbers : He5.DefA := ⟨fun K => He5.wf K (He.ga K "Bag") "property" "numbers", "numbers", "Bag.numbers", defArgs q_PBag_numbers, defBody q_PBag_numbers, defScope q_PBag_numbers, [], []⟩
def p_PBag_total : He5.DefA := ⟨fun K => He5.wf K (He.ga K "Bag") "property" "total", "total", "Bag.total", defArgs q_PBag_total, defBody q_PBag_total, defScope q_PBag_total, [], []⟩
def d_PBag_times : He.DefD := ⟨("Bag", some "times"), "times", "Bag.times", defArgs q_PBag_times, defBody q_PBag_times, defScope q_PBag_times, [], []⟩
def d_PBag_table : He.DefD := ⟨("Bag", some "table"), "table", "Bag.table", defArgs q_PBag_table, defBody q_PBag_table, defScope q_PBag_table, [], []⟩
def d_PBag___len__ : He.DefD := ⟨("Bag", some "__len__"), "__len__", "Bag.__len__", defArgs q_PBag___len__, defBody q_PBag___len__, defScope q_PBag___len__, [], []⟩
def d_PBag___contains__ : He.DefD := ⟨("Bag", some "__contains__"), "__contains__", "Bag.__contains__", defArgs q_PBag___contains__, defBody q_PBag___contains__, defScope q_PBag___contains__, [], []⟩
def d_PBag___eq__ : He.DefD := ⟨("Bag", some "__eq__"), "__eq__", "Bag.__eq__", defArgs q_PBag___eq__, defBody q_PBag___eq__, defScope q_PBag___eq__, [], []⟩
def p_PBag_counted : He5.DefA := ⟨fun K => He5.wf K (He.ga K "Bag") "classmethod" "counted", "counted", "Bag.counted", defArgs q_PBag_counted, defBody q_PBag_counted, defScope q_PBag_counted, [], []⟩
def fn : List He.DefD := [d_mix, d_take, d_store, d_same, d_kinds, d_edge, d_number, d_pick, d_shuffled, d_not_integer, d_integer, d_integers, d_is_integer, d_pairs, d_dict, d_Pis_number] ++ [d_holds, d_refuses, d_law, d_BadNumber, d_PBag___init__, d_PBag_times, d_PBag_table, d_PBag___len__, d_PBag___contains__, d_PBag___eq__]
def pn : List He5.DefA := [p_PBag_numbers, p_PBag_total, p_PBag_counted]
def fa0 : List He.Fa := [.glo "_law_mix", .glo "_law_take", .glo "_law_store", .glo "_law_same", .glo "_law_kinds", .glo "_law_edge", .glo "_law_number", .glo "_law_pick", .glo "_law_shuffled", .glo "_law_not_integer", .glo "_law_integer", .glo "_law_integers", .glo "_law_is_integer", .glo "_law_pairs", .glo "_law_dict", .glo "is_number"]
def fa1 : List He.Fa := [.glo "_law_holds", .glo "_law_refuses", .glo "law", .glo "BadClaim", .glo "BadCount", .glo "BadName", .glo "BadNumber", .glo "BadOrder", .glo "BadText", .glo "BadWeight", .glo "BadWish", .glo "Bag", .glo "Broken", .glo "Clash", .glo "Idle", .glo "Inside"]
def fa2 : List He.Fa := [.glo "Loop", .glo "Nailed", .glo "NestError", .glo "NoChange", .glo "NoHolder", .glo "NoStory", .glo "NotComing", .glo "NotEmpty", .glo "NothingDone", .glo "OrderRefused", .glo "OtherDoors", .glo "OtherYard", .glo "OutOfSteps", .glo "Refusal", .glo "Same", .glo "Sealed"]
def fa3 : List He.Fa := [.glo "Short", .glo "TooMany", .glo "Twice", .glo "Unbalanced", .glo "Unknown", .glo "Unlike", .free "ValueError", .free "abs", .free "bool", .free "dict", .free "int", .free "isinstance", .free "len", .free "list", .free "max", .free "min"]
def fa4 : List He.Fa := [.free "range", .free "reversed", .free "set", .free "sorted", .free "str", .free "sum", .free "tuple", .int "MOST_TIMES" 100]
def fa : List He.Fa := fa0 ++ fa1 ++ fa2 ++ fa3 ++ fa4
def okL0 (K : PySem.W.Frag) : List Bool := [digK K,
  oexB K (He.ga K "BadNumber"),
  iniB K (He.ga K "BadNumber"),
  He.eqO (PySem.W.findIn K (.ref (He.ga K "BadNumber")) "number") (some none),
  ((["BadNumber"] : List PySem.Str)).all fun c => errFB K (He.ga K c) (inL (DL.kindsOf c)),
  (([("BadNumber", "number")] : List (PySem.Str × PySem.Str))).all fun p => He.eqO (PySem.W.findIn K (.ref (He.ga K p.1)) p.2) (some none),
  clsB K (He.ga K "Bag"),
  He.eqO (PySem.W.findIn K (.ref (He.ga K "Bag")) "_items") (some none),
  He.eqO (PySem.W.findIn K (.ref (He.ga K "Bag")) "_table") (some none),
  cinB K (He.ga K "Bag"),
  nfB K (He.ga K "Bag"),
  ktuB K (He.dflAt ("Bag", some "__init__") 0 K),
  mkB K (He.ga K "Bag"),
  propB K (He.ga K "Bag") "numbers"]
def okL1 (K : PySem.W.Frag) : List Bool := [p_PBag_numbers.ok K,
  propB K (He.ga K "Bag") "total",
  p_PBag_total.ok K,
  methB K (He.ga K "Bag") "times",
  methB K (He.ga K "Bag") "table",
  methB K (He.ga K "Bag") "__len__",
  methB K (He.ga K "Bag") "__contains__",
  methB K (He.ga K "Bag") "__eq__",
  cmB K (He.ga K "Bag") "counted",
  p_PBag_counted.ok K]
def okL (K : PySem.W.Frag) : List Bool := okL0 K ++ okL1 K
def names0 : List PySem.Str := ["NestError", "Refusal", "BadName", "BadWeight", "BadNumber", "BadCount", "Twice", "Unknown", "NoHolder", "Loop", "Short", "BadText", "OtherYard", "Same", "Inside", "Unlike"]
def names1 : List PySem.Str := ["Nailed", "Sealed", "Idle", "Broken", "NotComing", "Unbalanced", "TooMany", "BadWish", "Clash", "OtherDoors", "NoStory", "BadOrder", "OrderRefused", "OutOfSteps", "NotEmpty", "NoChange"]
def names2 : List PySem.Str := ["NothingDone", "BadClaim", "is_number", "MOST_TIMES", "Bag", "_law_store", "_law_mix", "_law_take", "_law_edge", "_law_number", "_law_pick", "_law_shuffled", "_law_not_integer", "_law_integer", "_law_integers", "_law_is_integer"]
def names3 : List PySem.Str := ["_law_same", "_law_kinds", "_law_pairs", "_law_dict", "_law_holds", "_law_refuses"]
def names : List PySem.Str := names0 ++ names1 ++ names2 ++ names3
abbrev R : PySem.W.OpenRow := PySem.W.OpenLaw.row PySem.Challenge.rw_nestweigh_k05_counted_bags
abbrev hk : PySem.W.Hook := hookC 5 fa fn pn okL
def ob (s : PySem.W.SharedT) : He.AlD × Bool × List He.FnW := obsC 5 fa fn pn okL (HandSHeadRun.getT s)
theorem ob_eq (s : PySem.W.SharedT) : ob s = hk.obs s.abs := obsC_eq (HandSHeadRun.getT_eq s)
theorem map3 {α β γ δ : Type} {x : Option α} {f : α → β} {g : α → γ} {k : α → δ} {b : β} {c : γ} {d : δ} (h1 : x.map (fun s => (f s, g s)) = some (b, c)) (h2 : x.map k = some d) : x.map (fun s => (f s, g s, k s)) = some (b, c, d) := by
  cases x with
  | none => cases h1
  | some s =>
    have e1 : (f s, g s) = (b, c) := Option.some.inj h1
    have e2 : k s = d := Option.some.inj h2
    obtain ⟨e3, e4⟩ := Prod.mk.inj e1
    show some (f s, g s, k s) = some (b, c, d)
    rw [e3, e4, e2]
abbrev vw : PySem.Program := PySem.W.view R.prog [58]
noncomputable abbrev xs (w : World) (os : OsState) := HandSHeadRun.endF (HandSHeadRun.stepQ (HandSHeadRun.denQ HandSHeadRun.tabQ) R.prog w) 20000 R.prog w os
theorem runA (w : World) (os : OsState) : (xs w os).map (fun s => (HandSHeadRun.looksF R.prog (PySem.W.boot_heap w.params) s.abs, HandSHeadRun.seenQ vw names (PySem.importedModules R.prog.main.body) (fun s => PySem.W.xlAt vw [] s && PySem.W.recOk R.toRowW.records s) s.abs)) = some (true, PySem.W.openGood vw names) := by kernel_rfl
theorem runB (w : World) (os : OsState) : (xs w os).map ob = some (hk.val w) := by kernel_rfl
theorem run (w : World) : HandSHeadRun.RunEq R vw hk ob 20000 names w := fun os => map3 (runA w os) (runB w os)
end NW
namespace NW
open PySem PySem.Spec PyProof.Rows L2
open C8 (tCut pss_cut)
theorem orOp {X : Cx} {f : Value → Value → Sem Value} {r q : R2} (a : OpR X f r) (b : OpR X f q) : OpR X f (fun x y H Q => r x y H Q ∨ q x y H Q) := by
  intro pins s σ H x y v u Q I rx ry h
  cases h with
  | inl h => exact a pins s σ H x y v u Q I rx ry h
  | inr h => exact b pins s σ H x y v u Q I rx ry h
theorem orCall {X : Cx} {f : Value} {r q : List V → Hp → VK → Prop} (a : CallR X f r) (b : CallR X f q) : CallR X f (fun xs H Q => r xs H Q ∨ q xs H Q) := by
  intro pins s σ H xs us Q I rx h
  cases h with
  | inl h => exact a pins s σ H xs us Q I rx h
  | inr h => exact b pins s σ H xs us Q I rx h
/-- a new object of content o -/
def NewR (o : HO) (H : Hp) (Q : VK) : Prop := ∀ q, H q = none → Q (.ref q) (upd H q o)
def rAddS : R2 := fun x y H Q => ∃ i j, x = .str i ∧ y = .str j ∧ i.length + j.length ≤ sizeLine ∧ Q (.str (i ++ j)) H
def aAdd : R2 := fun x y H Q => rI0 (fun i j => .int (i + j)) x y H Q ∨ (rAddS x y H Q ∨ rCat x y H Q)
theorem oAdd {X : Cx} : OpR X (binaryOp .Add) aAdd := orOp op_add (orOp op_add_str op_cat)
section
variable {H : Hp} {Q : VK} {i j : Int} {x y : Str} {p q : Addr} {xs ys : List V}
theorem add_ii (h : Q (.int (i + j)) H) : aAdd (.int i) (.int j) H Q := .inl ⟨i, j, rfl, rfl, h⟩
theorem add_ss (hl : x.length + y.length ≤ 1000000) (h : Q (.str (x ++ y)) H) : aAdd (.str x) (.str y) H Q := .inr (.inl ⟨x, y, rfl, rfl, Nat.le_trans hl (by decide), h⟩)
theorem add_ll (hp : H p = some (.lst xs)) (hq : H q = some (.lst ys)) (hl : xs.length + ys.length ≤ 1000000) (h : NewR (.lst (xs ++ ys)) H Q) : aAdd (.ref p) (.ref q) H Q := .inr (.inr ⟨p, q, xs, ys, rfl, rfl, hp, hq, Nat.le_trans hl (by decide), h⟩)
end
def aSub : R2 := rI0 fun i j => .int (i - j)
theorem oSub {X : Cx} : OpR X (binaryOp .Sub) aSub := op_sub
def aMul : R2 := rI IntMulOk fun i j => .int (i * j)
theorem oMul {X : Cx} : OpR X (binaryOp .Mult) aMul := by
  intro pins s σ H x y v u Q I rx ry h
  obtain ⟨i, j, ex, ey, hc, q⟩ := h
  subst ex ey
  obtain ⟨t1, e1⟩ := rx
  obtain ⟨t2, e2⟩ := ry
  subst e1 e2
  exact PyProof.Rows.mul_int ⟨.int (i * j), H, I.tok _, ⟨_, rfl⟩, q⟩ hc
def aDiv : R2 := rI CDivW fun i j => .int (i / j)
theorem oDiv {X : Cx} : OpR X (binaryOp .FloorDiv) aDiv := op_fdivW
def aMod : R2 := rI (fun _ j => 0 < j) fun i j => .int (i % j)
theorem oMod {X : Cx} : OpR X (binaryOp .Mod) aMod := op_mod
def aPow : R2 := rI CPow fun i j => .int (i ^ j.toNat)
theorem oPow {X : Cx} : OpR X (binaryOp .Pow) aPow := op_pow
section
variable {H : Hp} {Q : VK} {i j : Int}
theorem sub_ii (h : Q (.int (i - j)) H) : aSub (.int i) (.int j) H Q := ⟨i, j, rfl, rfl, h⟩
theorem mul_l (h1 : -(2 ^ 64) < i) (h2 : i < 2 ^ 64) (h : Q (.int (i * j)) H) : aMul (.int i) (.int j) H Q := ⟨i, j, rfl, rfl, (CMul.ok (.inl ⟨h1, h2⟩)), h⟩
theorem mul_r (h1 : -(2 ^ 64) < j) (h2 : j < 2 ^ 64) (h : Q (.int (i * j)) H) : aMul (.int i) (.int j) H Q := ⟨i, j, rfl, rfl, (CMul.ok (.inr ⟨h1, h2⟩)), h⟩
theorem div_ii (h1 : 0 < j) (h2 : j < 2 ^ 300) (h : Q (.int (i / j)) H) : aDiv (.int i) (.int j) H Q := ⟨i, j, rfl, rfl, wide_div h1 (b := 300) (by omega) (by decide) (by decide), h⟩
theorem mod_ii (h1 : 0 < j) (h : Q (.int (i % j)) H) : aMod (.int i) (.int j) H Q := ⟨i, j, rfl, rfl, h1, h⟩
theorem pow_ii {k : Int} (h0 : 0 ≤ j) (h1 : j ≤ 1000000) (h2 : i.natAbs < 2 ^ 64) (e : i ^ j.toNat = k) (h : Q (.int k) H) : aPow (.int i) (.int j) H Q := ⟨i, j, rfl, rfl, ⟨h0, h1, h2⟩, by
  show Q (.int (i ^ j.toNat)) H
  rw [e]; exact h⟩
end
def aLt : R2 := rI0 fun i j => .bl (decide (i < j))
def aLe : R2 := rI0 fun i j => .bl (decide (i ≤ j))
def aGt : R2 := rI0 fun i j => .bl (decide (j < i))
def aGe : R2 := rI0 fun i j => .bl (decide (j ≤ i))
theorem oLt {X : Cx} : OpR X (compareOp .Lt) aLt := op_lt
theorem oLe {X : Cx} : OpR X (compareOp .LtE) aLe := op_le
theorem oGt {X : Cx} : OpR X (compareOp .Gt) aGt := op_gt
theorem oGe {X : Cx} : OpR X (compareOp .GtE) aGe := op_ge
def aEq : R2 := rEq
def aNe : R2 := rNe
theorem oEq {X : Cx} : OpR X (compareOp .Eq) aEq := op_eq
theorem oNe {X : Cx} : OpR X (compareOp .NotEq) aNe := op_ne
section
variable {H : Hp} {Q : VK} {i j : Int} {x y : V}
theorem lt_ii (h : Q (.bl (decide (i < j))) H) : aLt (.int i) (.int j) H Q := ⟨i, j, rfl, rfl, h⟩
theorem le_ii (h : Q (.bl (decide (i ≤ j))) H) : aLe (.int i) (.int j) H Q := ⟨i, j, rfl, rfl, h⟩
theorem gt_ii (h : Q (.bl (decide (j < i))) H) : aGt (.int i) (.int j) H Q := ⟨i, j, rfl, rfl, h⟩
theorem ge_ii (h : Q (.bl (decide (j ≤ i))) H) : aGe (.int i) (.int j) H Q := ⟨i, j, rfl, rfl, h⟩
theorem eq_ii (h : Q (.bl (decide (i = j))) H) : aEq (.int i) (.int j) H Q := ⟨rfl, by
  have e : decide (V.int i = V.int j) = decide (i = j) := by rw [dec_int, Bool.beq_eq_decide_eq]
  rw [e]; exact h⟩
theorem ne_ii (h : Q (.bl (!decide (i = j))) H) : aNe (.int i) (.int j) H Q := ⟨rfl, by
  have e : decide (V.int i = V.int j) = decide (i = j) := by rw [dec_int, Bool.beq_eq_decide_eq]
  rw [e]; exact h⟩
theorem eq_sc (hs : scal x y = true) (h : Q (.bl (decide (x = y))) H) : aEq x y H Q := ⟨hs, h⟩
theorem ne_sc (hs : scal x y = true) (h : Q (.bl (!decide (x = y))) H) : aNe x y H Q := ⟨hs, h⟩
end
def gGetL (K : PySem.W.Frag) : V → V → Hp → VK → Prop := fun x y H Q => ∃ p xs i v, x = .ref p ∧ y = .int i ∧ 0 ≤ i ∧ SqL K H p xs ∧ xs[i.toNat]? = some v ∧ Q v H
theorem getL {X : Cx} : PGet X (gGetL X.K) := by
  intro pins s σ H o i ov iv Q I ro ri h
  obtain ⟨p, xs, k, v, eo, ei, h0, hq, hv, q⟩ := h
  subst eo ei
  obtain rfl : ov = Value.ref p := ro
  obtain ⟨t, et⟩ := ri
  subst et
  obtain ⟨its, r, pl, hz⟩ := I.list hq
  obtain ⟨u, hu, ru⟩ := r.get hv
  have hlt : k.toNat < its.length := by
    cases Nat.lt_or_ge k.toNat its.length with
    | inl h => exact h
    | inr h =>
      rw [List.getElem?_eq_none h] at hu
      cases hu
  have hl := r.length
  have hn := line63
  exact wpAny_getItem_list pl.isList h0 (by omega) (by simpa using hu) ⟨v, H, I, ru, q⟩
section
variable {K : PySem.W.Frag} {σ : L2.St} {H : Hp} {Q : VK} {D : Ends} {t u : TS} {te ta tb : TE} {c d : TT} {g : TG} {i : Nat} {v : V} {B : Bool → Hp → Prop}
theorem s_seq (h : t { D with nx := u D } σ H) : tSeq t u D σ H := h
theorem s_asg (h : te σ H fun x H1 => g x σ H1 D.nx) : tAsg te g D σ H := h
theorem s_if (h : c σ H fun b H1 => if b = true then t D σ H1 else u D σ H1) : tIfS c t u D σ H := h
theorem s_ret (h : te σ H D.rt) : tRet te D σ H := h
theorem s_drop (h : te σ H fun _ H1 => D.nx σ H1) : tDrop te D σ H := h
theorem v_c (h : Q v H) : tC v σ H Q := h
theorem v_op {r : R2} (h : ta σ H fun x H1 => tb σ H1 fun y H2 => r x y H2 Q) : tOp r ta tb σ H Q := h
theorem c_test (h : te σ H fun x H1 => ∃ k, x = .bl k ∧ B k H1) : tTest te σ H B := h
theorem c_bl {b : Bool} {B : Bool → Prop} (h : B b) : ∃ k, V.bl b = .bl k ∧ B k := ⟨b, rfl, h⟩
end
section
variable {X : Cx} {a b : Expr} {pos : Pos} {i j k : Int}
theorem pe_weak {e : Expr} {t t' : TE} (h : PE X e t) (w : ∀ σ H Q, t' σ H Q → t σ H Q) : PE X e t' := ⟨fun pins s σ H Q I q => h.run pins s σ H Q I (w σ H Q q)⟩
theorem pe_powc (ha : PE X a (tC (.int i))) (hb : PE X b (tC (.int j))) (k : Int) (h : decide (0 ≤ j ∧ j ≤ 1000000 ∧ i.natAbs < 2 ^ 64 ∧ i ^ j.toNat = k) = true) : PE X (.BinOp a .Pow b pos) (tC (.int k)) :=
  pe_weak (pe_op oPow ha hb) fun σ H Q q => by
    obtain ⟨h1, h2, h3, h4⟩ := of_decide_eq_true h
    exact pow_ii h1 h2 h3 h4 q
end
end NW
namespace NW
open PySem PySem.Spec PyProof.Rows L2
open C8 (tCut pss_cut)
theorem passN {X : Cx} : Passes (L2N.CX X.prog X.w) X E0 := fun _ _ _ _ _ _ _ h => by
  obtain ⟨_, _, _, _, _, _, _, _, _, _, _, _, z⟩ := h
  exact z.elim
/-- the module's name x stands for a def that keeps sp, by level k -/
structure HasAt (P : Program) (w : World) (K : PySem.W.Frag) (mg : Str → Option Value) (base : Heap) (x : Str) (k : Nat) (ps : List Str) (sp : Sp) (f : Addr) (fd : FuncData) : Prop where
  g : mg x = some (.ref f)
  kp : PySem.W.keepIn K (.ref f) = true
  b : Binds K fd ps []
  ok : FnOk P w K mg base (L2N.CX P w) k f fd ps sp
def Has (P : Program) (w : World) (K : PySem.W.Frag) (mg : Str → Option Value) (base : Heap) (x : Str) (k : Nat) (ps : List Str) (sp : Sp) : Prop := ∃ f fd, HasAt P w K mg base x k ps sp f fd
section
variable {X : Cx} {k j : Nat} {ps : List Str} {sp : Sp} {x : Str} {p pos : Pos} {e : Expr} {es : List Expr} {t : TA}
theorem pe_dc (h : Has X.prog X.w X.K X.mg X.base x k ps sp) (hr : Room j X.A) (ha : PA X (e :: es) t) (hk : k ≤ j := by decide) (hg : Gl X x := by rfl) (hdb : (x == ("__debug__" : Str)) = false := by decide)
    (he : starEach (e :: es) X.env = (false, eval e X.env) :: starEach es X.env := by rfl) (hpl : (backTo pos (starEach es X.env)).any (·.1) = false := by rfl) : PE X (.Call (.Name x p) (e :: es) [] pos) (tCall sp [] E0 t) := by
  obtain ⟨f, fd, F⟩ := h
  exact pe_call F.ok (hr.mono hk) hg F.g F.kp F.b .nil passN ha hdb he hpl
end
section
variable {P : Program} {w : World} {K : PySem.W.Frag} {mg : Str → Option Value} {base : Heap} {x : Str} {params : Arguments} {body : List Stmt} {scope : Scope} {f : Addr} {N ps : List Str} {k : Nat} {sp : Sp}
/-- a def that lets nothing out -/
theorem has_of {t : TS} (g : mg x = some (.ref f)) (F : ∃ fd, FunD K x x params body scope [] [] f fd) (S : FnScope N ps scope) (len : ∀ vs H Q E, sp vs H Q E → vs.length = ps.length)
    (bn : ∀ (kV doc pm : Value) (an : Option Addr) (cdv ct : Value) (us : List Value), us.length = ps.length → bindArgs (PySem.W.fnOf x x params body scope .none kV doc pm an cdv ct) ⟨us, []⟩ = pure (ps.zip us))
    (d : ∀ (cdv : Value) (A : Around) (outer : List Env) (s : Shared) (H : Hp) (E : XK), Room k (A.deeper (envOfC x scope s.heap.objs.size f cdv)) → PSs (cxOf (L2N.CX P w) P w K mg base N x scope f cdv A outer s H E).nox body t)
    (pure_ : ∀ vs H Q E, sp vs H Q E → t { nx := fun _ H' => Q .non H', rt := Q } (start N vs) H) : Has P w K mg base x (k + 1) ps sp := by
  obtain ⟨fd, F⟩ := F
  exact ⟨f, fd, g, F.kp, F.bindsN bn, F.ok S len fun cdv A outer s H vs Q E hr h => ⟨t, PSs.nox (d cdv A outer s H E hr), pure_ vs H Q E h⟩⟩
end
/-- a module's constant -/
theorem pe_gi {X : Cx} {x : Str} {i : Int} {pos : Pos} (h : ∃ t, X.mg x = some (.int i t)) (hg : Gl X x := by rfl) (hd : (x == ("__debug__" : Str)) = false := by decide) : PE X (.Name x pos) (tC (.int i)) := by
  obtain ⟨t, h⟩ := h
  exact pe_glob hg h ⟨t, rfl⟩ hd
end NW
namespace NW
open PySem PySem.Spec PyProof.Rows L2
open C8 (tCut pss_cut)
/-- the store: its cells, the next cell's place, .. -/
def Sto (H : Hp) (st : Addr) : Prop := ∃ (cl : Addr) (ns : List Int) (at_ left small seed turn : Int), H st = some (.lst [.ref cl, .int at_, .int left, .int small, .int seed, .int turn]) ∧ H cl = some (.lst (ns.map V.int)) ∧ 0 ≤ at_
/-- all but the store stays -/
structure Keep (st : Addr) (H H' : Hp) : Prop where
  o : ∀ b o, H b = some o → b ≠ st → H' b = some o
  h : ∀ v r, H st = some (.lst (v :: r)) → ∃ r', H' st = some (.lst (v :: r'))
theorem Keep.refl (st : Addr) (H : Hp) : Keep st H H := ⟨fun _ _ h _ => h, fun _ r h => ⟨r, h⟩⟩
theorem Keep.trans {st : Addr} {H H1 H2 : Hp} (a : Keep st H H1) (b : Keep st H1 H2) : Keep st H H2 := ⟨fun c o h n => b.o c o (a.o c o h n) n, fun v r h => by
  obtain ⟨r1, h1⟩ := a.h v r h
  exact b.h v r1 h1⟩
theorem Keep.upd {st : Addr} {H H1 : Hp} {v : V} {r r' : List V} (a : Keep st H H1) (hp : H1 st = some (.lst (v :: r))) : Keep st H (upd H1 st (.lst (v :: r'))) := ⟨fun c u h n => by
  rw [upd_ne n]; exact a.o c u h n, fun w s h => by
  obtain ⟨r1, h1⟩ := a.h w s h
  rw [hp] at h1
  injection h1 with h1
  injection h1 with h1
  injection h1 with h1 h2
  exact ⟨r', by rw [upd_same, h1]⟩⟩
theorem Keep.new {st p : Addr} {H H1 : Hp} {o : HO} (a : Keep st H H1) (hp : H1 p = none) : Keep st H (L2.upd H1 p o) := ⟨fun c u h n => by
  rw [upd_ne (ne_of_none (a.o c u h n) hp)]; exact a.o c u h n, fun w s h => by
  obtain ⟨r1, h1⟩ := a.h w s h
  exact ⟨r1, by rw [upd_ne (ne_of_none h1 hp)]; exact h1⟩⟩
theorem Keep.same {st : Addr} {H H1 : Hp} (s : Same H H1) : Keep st H H1 := ⟨fun c u h _ => s c u h, fun v r h => ⟨r, s _ _ h⟩⟩
/-- an object of the call's own changes -/
theorem Keep.own {st p : Addr} {H H1 : Hp} {o : HO} (a : Keep st H H1) (hp : H p = none) (hn : p ≠ st) : Keep st H (L2.upd H1 p o) := ⟨fun c u h n => by
  rw [upd_ne (ne_of_none h hp)]; exact a.o c u h n, fun w s h => by
  obtain ⟨r1, h1⟩ := a.h w s h
  exact ⟨r1, by rw [upd_ne (Ne.symm hn)]; exact h1⟩⟩
theorem Sto.own {H : Hp} {st cl p : Addr} {r : List V} {o : HO} (h : Sto H st) (hh : H st = some (.lst (.ref cl :: r))) (h1 : p ≠ st) (h2 : p ≠ cl) : Sto (L2.upd H p o) st := by
  obtain ⟨cl', ns, a, b, c, d, e, g1, g2, g3⟩ := h
  rw [g1] at hh
  injection hh with hh
  injection hh with hh
  injection hh with hh
  injection hh with hh
  subst hh
  exact ⟨cl', ns, a, b, c, d, e, by rw [upd_ne (Ne.symm h1)]; exact g1, by rw [upd_ne (Ne.symm h2)]; exact g2, g3⟩
def aInt : List V → Hp → VK → Prop := fun xs H Q => ((∃ i, xs = [.int i] ∧ Q (.int i) H) ∨ ∃ k, xs = [.bl k] ∧ Q (.int (if k then 1 else 0)) H) ∨ ∃ a n, xs = [.str a] ∧ PySem.intText? a = some n ∧ a.length ≤ 640 ∧ Q (.int n) H
theorem cInt {X : Cx} : CallR X (.type "int") aInt := orCall call_int1 call_int_str
def aAbs : List V → Hp → VK → Prop := fun xs H Q => ∃ i, xs = [.int i] ∧ Q (.int (if i < 0 then -i else i)) H
def aMax : List V → Hp → VK → Prop := fun xs H Q => ∃ i j, xs = [.int i, .int j] ∧ Q (.int (if j > i then j else i)) H
def aMin : List V → Hp → VK → Prop := fun xs H Q => ∃ i j, xs = [.int i, .int j] ∧ Q (.int (if j < i then j else i)) H
def aLen (K : PySem.W.Frag) : List V → Hp → VK → Prop := fun xs H Q => ∃ x n, xs = [x] ∧ LenV K x H n ∧ Q (.int (n : Nat)) H
theorem cLen {X : Cx} : CallR X (.builtin "len") (aLen X.K) := call_len
def aList (K : PySem.W.Frag) : List V → Hp → VK → Prop := fun xs H Q => ∃ p ys, xs = [.ref p] ∧ (SqL K H p ys ∨ SqT K H p ys) ∧ ∀ l, H l = none → Q (.ref l) (upd H l (.lst ys))
theorem cList {X : Cx} : CallR X (.type "list") (aList X.K) := call_list_of
def aIx (K : PySem.W.Frag) : R2 := rIx K
theorem oIx {X : Cx} : IxR X (aIx X.K) := ix_seq
def aSet : TSet := rSetL
theorem oSet {X : Cx} : PSet X aSet := set_list
def iAdd : TIp := rI0 fun i j => .int (i + j)
theorem ioAdd {X : Cx} : PIp X .Add iAdd := fun pins s σ H x y v u Q I rx ry h => iop_add pins s σ H x y v u Q I rx ry h
section
variable {K : PySem.W.Frag} {H : Hp} {Q : VK} {i j : Int} {p : Addr} {xs : List V} {v : V} {σ : L2.St} {ta tb : TE} {t : TA} {B : Bool → Hp → Prop}
theorem int_i (h : Q (.int i) H) : aInt [.int i] H Q := .inl (.inl ⟨i, rfl, h⟩)
theorem abs_i (h : Q (.int (i.natAbs : Int)) H) : aAbs [.int i] H Q := ⟨i, rfl, by
  have e : (if i < 0 then -i else i) = (i.natAbs : Int) := by
    by_cases c : i < 0
    · rw [if_pos c]; omega
    · rw [if_neg c]; omega
  rw [e]; exact h⟩
theorem max_i (h : Q (.int (max i j)) H) : aMax [.int i, .int j] H Q := ⟨i, j, rfl, by
  have e : (if j > i then j else i) = max i j := by
    by_cases c : j > i
    · rw [if_pos c]; omega
    · rw [if_neg c]; omega
  rw [e]; exact h⟩
theorem min_i (h : Q (.int (min i j)) H) : aMin [.int i, .int j] H Q := ⟨i, j, rfl, by
  have e : (if j < i then j else i) = min i j := by
    by_cases c : j < i
    · rw [if_pos c]; omega
    · rw [if_neg c]; omega
  rw [e]; exact h⟩
theorem len_m (hp : H p = some (.lst xs)) (h : Q (.int (xs.length : Nat)) H) : aLen K [.ref p] H Q := ⟨_, _, rfl, .inl ⟨xs, SqL.of hp, rfl⟩, h⟩
theorem len_t (hp : SqT K H p xs) (h : Q (.int (xs.length : Nat)) H) : aLen K [.ref p] H Q := ⟨_, _, rfl, .inr ⟨xs, hp, rfl⟩, h⟩
theorem list_l (hp : SqL K H p xs) (h : NewR (.lst xs) H Q) : aList K [.ref p] H Q := ⟨p, xs, rfl, .inl hp, h⟩
theorem ix_m (hp : H p = some (.lst xs)) (e : atI xs i = some v) (h : Q v H) : aIx K (.ref p) (.int i) H Q := .inl ⟨p, xs, i, v, rfl, rfl, SqL.of hp, e, h⟩
theorem ix_l (hp : SqL K H p xs) (e : atI xs i = some v) (h : Q v H) : aIx K (.ref p) (.int i) H Q := .inl ⟨p, xs, i, v, rfl, rfl, hp, e, h⟩
theorem ix_t (hp : SqT K H p xs) (e : atI xs i = some v) (h : Q v H) : aIx K (.ref p) (.int i) H Q := .inr (.inl ⟨p, xs, i, v, rfl, rfl, hp, e, h⟩)
theorem get_m (hp : H p = some (.lst xs)) (h0 : 0 ≤ i) (e : xs[i.toNat]? = some v) (h : Q v H) : gGetL K (.ref p) (.int i) H Q := ⟨p, xs, i, v, rfl, rfl, h0, SqL.of hp, e, h⟩
theorem set_m {R : Hp → Prop} {n : Nat} (hp : H p = some (.lst xs)) (e : ixN xs.length i = some n) (h : R (upd H p (.lst (xs.set n v)))) : aSet (.ref p) (.int i) v H R := ⟨p, xs, i, n, rfl, rfl, hp, e, h⟩
theorem iadd_ii (h : Q (.int (i + j)) H) : iAdd (.int i) (.int j) H Q := ⟨i, j, rfl, rfl, h⟩
theorem v_augS {tget : V → V → Hp → VK → Prop} {ti : TIp} {tset : TSet} {D : Ends} {te : TE} (h : ta σ H fun o H1 => tb σ H1 fun a H2 => tget o a H2 fun x H3 => te σ H3 fun y H4 => ti x y H4 fun z H5 => tset o a z H5 fun H6 => D.nx σ H6) : tAugS ta tb te tget ti tset D σ H := h
theorem v_sub {tset : TSet} {R : L2.St → Hp → Prop} (h : ta σ H fun o H1 => tb σ H1 fun a H2 => tset o a v H2 fun H3 => R σ H3) : gSub ta tb tset v σ H R := h
theorem v_cons {R : List V → Hp → Prop} (h : ta σ H fun x H1 => t σ H1 fun ys H2 => R (x :: ys) H2) : tCons ta t σ H R := h
theorem v_nil {R : List V → Hp → Prop} (h : R [] H) : tNil σ H R := h
theorem v_cb {r : List V → Hp → VK → Prop} (h : t σ H fun vs H1 => r vs H1 Q) : tCB r t σ H Q := h
theorem v_call {sp : Sp} {E : XK} (h : t σ H fun vs H1 => sp vs H1 Q E) : tCall sp [] E t σ H Q := by
  show t σ H fun vs H1 => sp (vs ++ []) H1 Q E
  have e : (fun (vs : List V) (H1 : Hp) => sp (vs ++ []) H1 Q E) = fun vs H1 => sp vs H1 Q E := by
    funext vs H1
    rw [List.append_nil]
  rw [e]
  exact h
theorem c_and {c d : TT} (h : c σ H fun b H1 => if b = true then d σ H1 B else B false H1) : tAnd c d σ H B := h
theorem c_or {c d : TT} (h : c σ H fun b H1 => if b = true then B true H1 else d σ H1 B) : tOr c d σ H B := h
theorem c_not {c : TT} (h : c σ H fun b H1 => B (!b) H1) : tNot c σ H B := h
theorem if_d {c : Prop} {dc : Decidable c} {A A' : Prop} (h1 : c → A) (h2 : ¬ c → A') : if @decide c dc = true then A else A' := by
  by_cases q : c
  · rw [if_pos (decide_eq_true q)]; exact h1 q
  · rw [if_neg (fun z => q (of_decide_eq_true z))]; exact h2 q
theorem if_t {A A' : Prop} (h : A) : if true = true then A else A' := h
theorem if_f {A A' : Prop} (h : A') : if false = true then A else A' := h
theorem v_var0 (h : Q v H) : tVar 0 (some v :: σ) H Q := ⟨v, rfl, h⟩
theorem s_name0 {o : Option V} {R : L2.St → Hp → Prop} (h : R (some v :: σ) H) : gName 0 v (o :: σ) H R := h
theorem v_aug0 {ti : TIp} {D : Ends} (h : ta (some v :: σ) H fun y H1 => ti v y H1 fun z H2 => D.nx (some z :: σ) H2) : tAug 0 ta ti D (some v :: σ) H := ⟨v, rfl, h⟩
theorem v_var1 {a0 : Option V} (h : Q v H) : tVar 1 (a0 :: some v :: σ) H Q := ⟨v, rfl, h⟩
theorem s_name1 {a0 : Option V} {o : Option V} {R : L2.St → Hp → Prop} (h : R (a0 :: some v :: σ) H) : gName 1 v (a0 :: o :: σ) H R := h
theorem v_aug1 {a0 : Option V} {ti : TIp} {D : Ends} (h : ta (a0 :: some v :: σ) H fun y H1 => ti v y H1 fun z H2 => D.nx (a0 :: some z :: σ) H2) : tAug 1 ta ti D (a0 :: some v :: σ) H := ⟨v, rfl, h⟩
theorem v_var2 {a0 a1 : Option V} (h : Q v H) : tVar 2 (a0 :: a1 :: some v :: σ) H Q := ⟨v, rfl, h⟩
theorem s_name2 {a0 a1 : Option V} {o : Option V} {R : L2.St → Hp → Prop} (h : R (a0 :: a1 :: some v :: σ) H) : gName 2 v (a0 :: a1 :: o :: σ) H R := h
theorem v_aug2 {a0 a1 : Option V} {ti : TIp} {D : Ends} (h : ta (a0 :: a1 :: some v :: σ) H fun y H1 => ti v y H1 fun z H2 => D.nx (a0 :: a1 :: some z :: σ) H2) : tAug 2 ta ti D (a0 :: a1 :: some v :: σ) H := ⟨v, rfl, h⟩
theorem v_var3 {a0 a1 a2 : Option V} (h : Q v H) : tVar 3 (a0 :: a1 :: a2 :: some v :: σ) H Q := ⟨v, rfl, h⟩
theorem s_name3 {a0 a1 a2 : Option V} {o : Option V} {R : L2.St → Hp → Prop} (h : R (a0 :: a1 :: a2 :: some v :: σ) H) : gName 3 v (a0 :: a1 :: a2 :: o :: σ) H R := h
theorem v_aug3 {a0 a1 a2 : Option V} {ti : TIp} {D : Ends} (h : ta (a0 :: a1 :: a2 :: some v :: σ) H fun y H1 => ti v y H1 fun z H2 => D.nx (a0 :: a1 :: a2 :: some z :: σ) H2) : tAug 3 ta ti D (a0 :: a1 :: a2 :: some v :: σ) H := ⟨v, rfl, h⟩
theorem v_var4 {a0 a1 a2 a3 : Option V} (h : Q v H) : tVar 4 (a0 :: a1 :: a2 :: a3 :: some v :: σ) H Q := ⟨v, rfl, h⟩
theorem s_name4 {a0 a1 a2 a3 : Option V} {o : Option V} {R : L2.St → Hp → Prop} (h : R (a0 :: a1 :: a2 :: a3 :: some v :: σ) H) : gName 4 v (a0 :: a1 :: a2 :: a3 :: o :: σ) H R := h
theorem v_aug4 {a0 a1 a2 a3 : Option V} {ti : TIp} {D : Ends} (h : ta (a0 :: a1 :: a2 :: a3 :: some v :: σ) H fun y H1 => ti v y H1 fun z H2 => D.nx (a0 :: a1 :: a2 :: a3 :: some z :: σ) H2) : tAug 4 ta ti D (a0 :: a1 :: a2 :: a3 :: some v :: σ) H := ⟨v, rfl, h⟩
theorem v_var5 {a0 a1 a2 a3 a4 : Option V} (h : Q v H) : tVar 5 (a0 :: a1 :: a2 :: a3 :: a4 :: some v :: σ) H Q := ⟨v, rfl, h⟩
theorem s_name5 {a0 a1 a2 a3 a4 : Option V} {o : Option V} {R : L2.St → Hp → Prop} (h : R (a0 :: a1 :: a2 :: a3 :: a4 :: some v :: σ) H) : gName 5 v (a0 :: a1 :: a2 :: a3 :: a4 :: o :: σ) H R := h
theorem v_aug5 {a0 a1 a2 a3 a4 : Option V} {ti : TIp} {D : Ends} (h : ta (a0 :: a1 :: a2 :: a3 :: a4 :: some v :: σ) H fun y H1 => ti v y H1 fun z H2 => D.nx (a0 :: a1 :: a2 :: a3 :: a4 :: some z :: σ) H2) : tAug 5 ta ti D (a0 :: a1 :: a2 :: a3 :: a4 :: some v :: σ) H := ⟨v, rfl, h⟩
theorem v_var6 {a0 a1 a2 a3 a4 a5 : Option V} (h : Q v H) : tVar 6 (a0 :: a1 :: a2 :: a3 :: a4 :: a5 :: some v :: σ) H Q := ⟨v, rfl, h⟩
theorem s_name6 {a0 a1 a2 a3 a4 a5 : Option V} {o : Option V} {R : L2.St → Hp → Prop} (h : R (a0 :: a1 :: a2 :: a3 :: a4 :: a5 :: some v :: σ) H) : gName 6 v (a0 :: a1 :: a2 :: a3 :: a4 :: a5 :: o :: σ) H R := h
theorem v_aug6 {a0 a1 a2 a3 a4 a5 : Option V} {ti : TIp} {D : Ends} (h : ta (a0 :: a1 :: a2 :: a3 :: a4 :: a5 :: some v :: σ) H fun y H1 => ti v y H1 fun z H2 => D.nx (a0 :: a1 :: a2 :: a3 :: a4 :: a5 :: some z :: σ) H2) : tAug 6 ta ti D (a0 :: a1 :: a2 :: a3 :: a4 :: a5 :: some v :: σ) H := ⟨v, rfl, h⟩
theorem v_var7 {a0 a1 a2 a3 a4 a5 a6 : Option V} (h : Q v H) : tVar 7 (a0 :: a1 :: a2 :: a3 :: a4 :: a5 :: a6 :: some v :: σ) H Q := ⟨v, rfl, h⟩
theorem s_name7 {a0 a1 a2 a3 a4 a5 a6 : Option V} {o : Option V} {R : L2.St → Hp → Prop} (h : R (a0 :: a1 :: a2 :: a3 :: a4 :: a5 :: a6 :: some v :: σ) H) : gName 7 v (a0 :: a1 :: a2 :: a3 :: a4 :: a5 :: a6 :: o :: σ) H R := h
theorem v_aug7 {a0 a1 a2 a3 a4 a5 a6 : Option V} {ti : TIp} {D : Ends} (h : ta (a0 :: a1 :: a2 :: a3 :: a4 :: a5 :: a6 :: some v :: σ) H fun y H1 => ti v y H1 fun z H2 => D.nx (a0 :: a1 :: a2 :: a3 :: a4 :: a5 :: a6 :: some z :: σ) H2) : tAug 7 ta ti D (a0 :: a1 :: a2 :: a3 :: a4 :: a5 :: a6 :: some v :: σ) H := ⟨v, rfl, h⟩
theorem v_var8 {a0 a1 a2 a3 a4 a5 a6 a7 : Option V} (h : Q v H) : tVar 8 (a0 :: a1 :: a2 :: a3 :: a4 :: a5 :: a6 :: a7 :: some v :: σ) H Q := ⟨v, rfl, h⟩
theorem s_name8 {a0 a1 a2 a3 a4 a5 a6 a7 : Option V} {o : Option V} {R : L2.St → Hp → Prop} (h : R (a0 :: a1 :: a2 :: a3 :: a4 :: a5 :: a6 :: a7 :: some v :: σ) H) : gName 8 v (a0 :: a1 :: a2 :: a3 :: a4 :: a5 :: a6 :: a7 :: o :: σ) H R := h
theorem v_aug8 {a0 a1 a2 a3 a4 a5 a6 a7 : Option V} {ti : TIp} {D : Ends} (h : ta (a0 :: a1 :: a2 :: a3 :: a4 :: a5 :: a6 :: a7 :: some v :: σ) H fun y H1 => ti v y H1 fun z H2 => D.nx (a0 :: a1 :: a2 :: a3 :: a4 :: a5 :: a6 :: a7 :: some z :: σ) H2) : tAug 8 ta ti D (a0 :: a1 :: a2 :: a3 :: a4 :: a5 :: a6 :: a7 :: some v :: σ) H := ⟨v, rfl, h⟩
theorem v_var9 {a0 a1 a2 a3 a4 a5 a6 a7 a8 : Option V} (h : Q v H) : tVar 9 (a0 :: a1 :: a2 :: a3 :: a4 :: a5 :: a6 :: a7 :: a8 :: some v :: σ) H Q := ⟨v, rfl, h⟩
theorem s_name9 {a0 a1 a2 a3 a4 a5 a6 a7 a8 : Option V} {o : Option V} {R : L2.St → Hp → Prop} (h : R (a0 :: a1 :: a2 :: a3 :: a4 :: a5 :: a6 :: a7 :: a8 :: some v :: σ) H) : gName 9 v (a0 :: a1 :: a2 :: a3 :: a4 :: a5 :: a6 :: a7 :: a8 :: o :: σ) H R := h
theorem v_aug9 {a0 a1 a2 a3 a4 a5 a6 a7 a8 : Option V} {ti : TIp} {D : Ends} (h : ta (a0 :: a1 :: a2 :: a3 :: a4 :: a5 :: a6 :: a7 :: a8 :: some v :: σ) H fun y H1 => ti v y H1 fun z H2 => D.nx (a0 :: a1 :: a2 :: a3 :: a4 :: a5 :: a6 :: a7 :: a8 :: some z :: σ) H2) : tAug 9 ta ti D (a0 :: a1 :: a2 :: a3 :: a4 :: a5 :: a6 :: a7 :: a8 :: some v :: σ) H := ⟨v, rfl, h⟩
theorem v_var10 {a0 a1 a2 a3 a4 a5 a6 a7 a8 a9 : Option V} (h : Q v H) : tVar 10 (a0 :: a1 :: a2 :: a3 :: a4 :: a5 :: a6 :: a7 :: a8 :: a9 :: some v :: σ) H Q := ⟨v, rfl, h⟩
theorem s_name10 {a0 a1 a2 a3 a4 a5 a6 a7 a8 a9 : Option V} {o : Option V} {R : L2.St → Hp → Prop} (h : R (a0 :: a1 :: a2 :: a3 :: a4 :: a5 :: a6 :: a7 :: a8 :: a9 :: some v :: σ) H) : gName 10 v (a0 :: a1 :: a2 :: a3 :: a4 :: a5 :: a6 :: a7 :: a8 :: a9 :: o :: σ) H R := h
theorem v_aug10 {a0 a1 a2 a3 a4 a5 a6 a7 a8 a9 : Option V} {ti : TIp} {D : Ends} (h : ta (a0 :: a1 :: a2 :: a3 :: a4 :: a5 :: a6 :: a7 :: a8 :: a9 :: some v :: σ) H fun y H1 => ti v y H1 fun z H2 => D.nx (a0 :: a1 :: a2 :: a3 :: a4 :: a5 :: a6 :: a7 :: a8 :: a9 :: some z :: σ) H2) : tAug 10 ta ti D (a0 :: a1 :: a2 :: a3 :: a4 :: a5 :: a6 :: a7 :: a8 :: a9 :: some v :: σ) H := ⟨v, rfl, h⟩
theorem v_var11 {a0 a1 a2 a3 a4 a5 a6 a7 a8 a9 a10 : Option V} (h : Q v H) : tVar 11 (a0 :: a1 :: a2 :: a3 :: a4 :: a5 :: a6 :: a7 :: a8 :: a9 :: a10 :: some v :: σ) H Q := ⟨v, rfl, h⟩
theorem s_name11 {a0 a1 a2 a3 a4 a5 a6 a7 a8 a9 a10 : Option V} {o : Option V} {R : L2.St → Hp → Prop} (h : R (a0 :: a1 :: a2 :: a3 :: a4 :: a5 :: a6 :: a7 :: a8 :: a9 :: a10 :: some v :: σ) H) : gName 11 v (a0 :: a1 :: a2 :: a3 :: a4 :: a5 :: a6 :: a7 :: a8 :: a9 :: a10 :: o :: σ) H R := h
theorem v_aug11 {a0 a1 a2 a3 a4 a5 a6 a7 a8 a9 a10 : Option V} {ti : TIp} {D : Ends} (h : ta (a0 :: a1 :: a2 :: a3 :: a4 :: a5 :: a6 :: a7 :: a8 :: a9 :: a10 :: some v :: σ) H fun y H1 => ti v y H1 fun z H2 => D.nx (a0 :: a1 :: a2 :: a3 :: a4 :: a5 :: a6 :: a7 :: a8 :: a9 :: a10 :: some z :: σ) H2) : tAug 11 ta ti D (a0 :: a1 :: a2 :: a3 :: a4 :: a5 :: a6 :: a7 :: a8 :: a9 :: a10 :: some v :: σ) H := ⟨v, rfl, h⟩
theorem v_var12 {a0 a1 a2 a3 a4 a5 a6 a7 a8 a9 a10 a11 : Option V} (h : Q v H) : tVar 12 (a0 :: a1 :: a2 :: a3 :: a4 :: a5 :: a6 :: a7 :: a8 :: a9 :: a10 :: a11 :: some v :: σ) H Q := ⟨v, rfl, h⟩
theorem s_name12 {a0 a1 a2 a3 a4 a5 a6 a7 a8 a9 a10 a11 : Option V} {o : Option V} {R : L2.St → Hp → Prop} (h : R (a0 :: a1 :: a2 :: a3 :: a4 :: a5 :: a6 :: a7 :: a8 :: a9 :: a10 :: a11 :: some v :: σ) H) : gName 12 v (a0 :: a1 :: a2 :: a3 :: a4 :: a5 :: a6 :: a7 :: a8 :: a9 :: a10 :: a11 :: o :: σ) H R := h
theorem v_aug12 {a0 a1 a2 a3 a4 a5 a6 a7 a8 a9 a10 a11 : Option V} {ti : TIp} {D : Ends} (h : ta (a0 :: a1 :: a2 :: a3 :: a4 :: a5 :: a6 :: a7 :: a8 :: a9 :: a10 :: a11 :: some v :: σ) H fun y H1 => ti v y H1 fun z H2 => D.nx (a0 :: a1 :: a2 :: a3 :: a4 :: a5 :: a6 :: a7 :: a8 :: a9 :: a10 :: a11 :: some z :: σ) H2) : tAug 12 ta ti D (a0 :: a1 :: a2 :: a3 :: a4 :: a5 :: a6 :: a7 :: a8 :: a9 :: a10 :: a11 :: some v :: σ) H := ⟨v, rfl, h⟩
theorem v_var13 {a0 a1 a2 a3 a4 a5 a6 a7 a8 a9 a10 a11 a12 : Option V} (h : Q v H) : tVar 13 (a0 :: a1 :: a2 :: a3 :: a4 :: a5 :: a6 :: a7 :: a8 :: a9 :: a10 :: a11 :: a12 :: some v :: σ) H Q := ⟨v, rfl, h⟩
theorem s_name13 {a0 a1 a2 a3 a4 a5 a6 a7 a8 a9 a10 a11 a12 : Option V} {o : Option V} {R : L2.St → Hp → Prop} (h : R (a0 :: a1 :: a2 :: a3 :: a4 :: a5 :: a6 :: a7 :: a8 :: a9 :: a10 :: a11 :: a12 :: some v :: σ) H) : gName 13 v (a0 :: a1 :: a2 :: a3 :: a4 :: a5 :: a6 :: a7 :: a8 :: a9 :: a10 :: a11 :: a12 :: o :: σ) H R := h
theorem v_aug13 {a0 a1 a2 a3 a4 a5 a6 a7 a8 a9 a10 a11 a12 : Option V} {ti : TIp} {D : Ends} (h : ta (a0 :: a1 :: a2 :: a3 :: a4 :: a5 :: a6 :: a7 :: a8 :: a9 :: a10 :: a11 :: a12 :: some v :: σ) H fun y H1 => ti v y H1 fun z H2 => D.nx (a0 :: a1 :: a2 :: a3 :: a4 :: a5 :: a6 :: a7 :: a8 :: a9 :: a10 :: a11 :: a12 :: some z :: σ) H2) : tAug 13 ta ti D (a0 :: a1 :: a2 :: a3 :: a4 :: a5 :: a6 :: a7 :: a8 :: a9 :: a10 :: a11 :: a12 :: some v :: σ) H := ⟨v, rfl, h⟩
theorem v_var14 {a0 a1 a2 a3 a4 a5 a6 a7 a8 a9 a10 a11 a12 a13 : Option V} (h : Q v H) : tVar 14 (a0 :: a1 :: a2 :: a3 :: a4 :: a5 :: a6 :: a7 :: a8 :: a9 :: a10 :: a11 :: a12 :: a13 :: some v :: σ) H Q := ⟨v, rfl, h⟩
theorem s_name14 {a0 a1 a2 a3 a4 a5 a6 a7 a8 a9 a10 a11 a12 a13 : Option V} {o : Option V} {R : L2.St → Hp → Prop} (h : R (a0 :: a1 :: a2 :: a3 :: a4 :: a5 :: a6 :: a7 :: a8 :: a9 :: a10 :: a11 :: a12 :: a13 :: some v :: σ) H) : gName 14 v (a0 :: a1 :: a2 :: a3 :: a4 :: a5 :: a6 :: a7 :: a8 :: a9 :: a10 :: a11 :: a12 :: a13 :: o :: σ) H R := h
theorem v_aug14 {a0 a1 a2 a3 a4 a5 a6 a7 a8 a9 a10 a11 a12 a13 : Option V} {ti : TIp} {D : Ends} (h : ta (a0 :: a1 :: a2 :: a3 :: a4 :: a5 :: a6 :: a7 :: a8 :: a9 :: a10 :: a11 :: a12 :: a13 :: some v :: σ) H fun y H1 => ti v y H1 fun z H2 => D.nx (a0 :: a1 :: a2 :: a3 :: a4 :: a5 :: a6 :: a7 :: a8 :: a9 :: a10 :: a11 :: a12 :: a13 :: some z :: σ) H2) : tAug 14 ta ti D (a0 :: a1 :: a2 :: a3 :: a4 :: a5 :: a6 :: a7 :: a8 :: a9 :: a10 :: a11 :: a12 :: a13 :: some v :: σ) H := ⟨v, rfl, h⟩
theorem v_var15 {a0 a1 a2 a3 a4 a5 a6 a7 a8 a9 a10 a11 a12 a13 a14 : Option V} (h : Q v H) : tVar 15 (a0 :: a1 :: a2 :: a3 :: a4 :: a5 :: a6 :: a7 :: a8 :: a9 :: a10 :: a11 :: a12 :: a13 :: a14 :: some v :: σ) H Q := ⟨v, rfl, h⟩
theorem s_name15 {a0 a1 a2 a3 a4 a5 a6 a7 a8 a9 a10 a11 a12 a13 a14 : Option V} {o : Option V} {R : L2.St → Hp → Prop} (h : R (a0 :: a1 :: a2 :: a3 :: a4 :: a5 :: a6 :: a7 :: a8 :: a9 :: a10 :: a11 :: a12 :: a13 :: a14 :: some v :: σ) H) : gName 15 v (a0 :: a1 :: a2 :: a3 :: a4 :: a5 :: a6 :: a7 :: a8 :: a9 :: a10 :: a11 :: a12 :: a13 :: a14 :: o :: σ) H R := h
theorem v_aug15 {a0 a1 a2 a3 a4 a5 a6 a7 a8 a9 a10 a11 a12 a13 a14 : Option V} {ti : TIp} {D : Ends} (h : ta (a0 :: a1 :: a2 :: a3 :: a4 :: a5 :: a6 :: a7 :: a8 :: a9 :: a10 :: a11 :: a12 :: a13 :: a14 :: some v :: σ) H fun y H1 => ti v y H1 fun z H2 => D.nx (a0 :: a1 :: a2 :: a3 :: a4 :: a5 :: a6 :: a7 :: a8 :: a9 :: a10 :: a11 :: a12 :: a13 :: a14 :: some z :: σ) H2) : tAug 15 ta ti D (a0 :: a1 :: a2 :: a3 :: a4 :: a5 :: a6 :: a7 :: a8 :: a9 :: a10 :: a11 :: a12 :: a13 :: a14 :: some v :: σ) H := ⟨v, rfl, h⟩
theorem mod_r (h1 : 0 < j) (h : ∀ r, 0 ≤ r → r < j → r = i % j → Q (.int r) H) : aMod (.int i) (.int j) H Q := mod_ii h1 (h _ (Int.emod_nonneg _ (by omega)) (Int.emod_lt_of_pos _ h1) rfl)
theorem div_r (h1 : 0 < j) (h2 : j < 2 ^ 300) (h : ∀ r, r = i / j → Q (.int r) H) : aDiv (.int i) (.int j) H Q := div_ii h1 h2 (h _ rfl)
theorem ixN_lit {n k : Nat} (h0 : (0 : Int) ≤ (k : Int)) (h : (k : Int) < n) : ixN n (k : Int) = some k := by
  unfold ixN
  rw [if_pos h0, if_pos h]
  rfl
theorem ix_m0 {r : List V} (hp : H p = some (.lst (v :: r))) (h : Q v H) : aIx K (.ref p) (.int 0) H Q := ix_m hp (atI_nat (j := 0) rfl) h
theorem get_m0 {r : List V} (hp : H p = some (.lst (v :: r))) (h : Q v H) : gGetL K (.ref p) (.int 0) H Q := get_m hp (by decide) rfl h
theorem ix_m1 {a0 : V} {r : List V} (hp : H p = some (.lst (a0 :: v :: r))) (h : Q v H) : aIx K (.ref p) (.int 1) H Q := ix_m hp (atI_nat (j := 1) rfl) h
theorem get_m1 {a0 : V} {r : List V} (hp : H p = some (.lst (a0 :: v :: r))) (h : Q v H) : gGetL K (.ref p) (.int 1) H Q := get_m hp (by decide) rfl h
theorem set_m1 {a0 : V} {o : V} {r : List V} {R : Hp → Prop} (hp : H p = some (.lst (a0 :: o :: r))) (h : R (upd H p (.lst (a0 :: v :: r)))) : aSet (.ref p) (.int 1) v H R := set_m hp (n := 1) (ixN_lit (by decide) (by simp only [List.length_cons]; omega)) h
theorem ix_m2 {a0 a1 : V} {r : List V} (hp : H p = some (.lst (a0 :: a1 :: v :: r))) (h : Q v H) : aIx K (.ref p) (.int 2) H Q := ix_m hp (atI_nat (j := 2) rfl) h
theorem get_m2 {a0 a1 : V} {r : List V} (hp : H p = some (.lst (a0 :: a1 :: v :: r))) (h : Q v H) : gGetL K (.ref p) (.int 2) H Q := get_m hp (by decide) rfl h
theorem set_m2 {a0 a1 : V} {o : V} {r : List V} {R : Hp → Prop} (hp : H p = some (.lst (a0 :: a1 :: o :: r))) (h : R (upd H p (.lst (a0 :: a1 :: v :: r)))) : aSet (.ref p) (.int 2) v H R := set_m hp (n := 2) (ixN_lit (by decide) (by simp only [List.length_cons]; omega)) h
theorem ix_m3 {a0 a1 a2 : V} {r : List V} (hp : H p = some (.lst (a0 :: a1 :: a2 :: v :: r))) (h : Q v H) : aIx K (.ref p) (.int 3) H Q := ix_m hp (atI_nat (j := 3) rfl) h
theorem get_m3 {a0 a1 a2 : V} {r : List V} (hp : H p = some (.lst (a0 :: a1 :: a2 :: v :: r))) (h : Q v H) : gGetL K (.ref p) (.int 3) H Q := get_m hp (by decide) rfl h
theorem set_m3 {a0 a1 a2 : V} {o : V} {r : List V} {R : Hp → Prop} (hp : H p = some (.lst (a0 :: a1 :: a2 :: o :: r))) (h : R (upd H p (.lst (a0 :: a1 :: a2 :: v :: r)))) : aSet (.ref p) (.int 3) v H R := set_m hp (n := 3) (ixN_lit (by decide) (by simp only [List.length_cons]; omega)) h
theorem ix_m4 {a0 a1 a2 a3 : V} {r : List V} (hp : H p = some (.lst (a0 :: a1 :: a2 :: a3 :: v :: r))) (h : Q v H) : aIx K (.ref p) (.int 4) H Q := ix_m hp (atI_nat (j := 4) rfl) h
theorem get_m4 {a0 a1 a2 a3 : V} {r : List V} (hp : H p = some (.lst (a0 :: a1 :: a2 :: a3 :: v :: r))) (h : Q v H) : gGetL K (.ref p) (.int 4) H Q := get_m hp (by decide) rfl h
theorem set_m4 {a0 a1 a2 a3 : V} {o : V} {r : List V} {R : Hp → Prop} (hp : H p = some (.lst (a0 :: a1 :: a2 :: a3 :: o :: r))) (h : R (upd H p (.lst (a0 :: a1 :: a2 :: a3 :: v :: r)))) : aSet (.ref p) (.int 4) v H R := set_m hp (n := 4) (ixN_lit (by decide) (by simp only [List.length_cons]; omega)) h
theorem ix_m5 {a0 a1 a2 a3 a4 : V} {r : List V} (hp : H p = some (.lst (a0 :: a1 :: a2 :: a3 :: a4 :: v :: r))) (h : Q v H) : aIx K (.ref p) (.int 5) H Q := ix_m hp (atI_nat (j := 5) rfl) h
theorem get_m5 {a0 a1 a2 a3 a4 : V} {r : List V} (hp : H p = some (.lst (a0 :: a1 :: a2 :: a3 :: a4 :: v :: r))) (h : Q v H) : gGetL K (.ref p) (.int 5) H Q := get_m hp (by decide) rfl h
theorem set_m5 {a0 a1 a2 a3 a4 : V} {o : V} {r : List V} {R : Hp → Prop} (hp : H p = some (.lst (a0 :: a1 :: a2 :: a3 :: a4 :: o :: r))) (h : R (upd H p (.lst (a0 :: a1 :: a2 :: a3 :: a4 :: v :: r)))) : aSet (.ref p) (.int 5) v H R := set_m hp (n := 5) (ixN_lit (by decide) (by simp only [List.length_cons]; omega)) h
theorem st_set1 {st : Addr} {H0 : Hp} {c0 c1 c2 c3 c4 c5 v : V} {R : Hp → Prop} (hp : H st = some (.lst [c0, c1, c2, c3, c4, c5])) (k : Keep st H0 H) (h : ∀ H1, H1 st = some (.lst [c0, v, c2, c3, c4, c5]) → Keep st H0 H1 → R H1) : aSet (.ref st) (.int 1) v H R := set_m1 hp (h _ upd_same (k.upd hp))
theorem st_set2 {st : Addr} {H0 : Hp} {c0 c1 c2 c3 c4 c5 v : V} {R : Hp → Prop} (hp : H st = some (.lst [c0, c1, c2, c3, c4, c5])) (k : Keep st H0 H) (h : ∀ H1, H1 st = some (.lst [c0, c1, v, c3, c4, c5]) → Keep st H0 H1 → R H1) : aSet (.ref st) (.int 2) v H R := set_m2 hp (h _ upd_same (k.upd hp))
theorem st_set3 {st : Addr} {H0 : Hp} {c0 c1 c2 c3 c4 c5 v : V} {R : Hp → Prop} (hp : H st = some (.lst [c0, c1, c2, c3, c4, c5])) (k : Keep st H0 H) (h : ∀ H1, H1 st = some (.lst [c0, c1, c2, v, c4, c5]) → Keep st H0 H1 → R H1) : aSet (.ref st) (.int 3) v H R := set_m3 hp (h _ upd_same (k.upd hp))
theorem st_set4 {st : Addr} {H0 : Hp} {c0 c1 c2 c3 c4 c5 v : V} {R : Hp → Prop} (hp : H st = some (.lst [c0, c1, c2, c3, c4, c5])) (k : Keep st H0 H) (h : ∀ H1, H1 st = some (.lst [c0, c1, c2, c3, v, c5]) → Keep st H0 H1 → R H1) : aSet (.ref st) (.int 4) v H R := set_m4 hp (h _ upd_same (k.upd hp))
theorem st_set5 {st : Addr} {H0 : Hp} {c0 c1 c2 c3 c4 c5 v : V} {R : Hp → Prop} (hp : H st = some (.lst [c0, c1, c2, c3, c4, c5])) (k : Keep st H0 H) (h : ∀ H1, H1 st = some (.lst [c0, c1, c2, c3, c4, v]) → Keep st H0 H1 → R H1) : aSet (.ref st) (.int 5) v H R := set_m5 hp (h _ upd_same (k.upd hp))
theorem s_next {D : Ends} (h : D.nx σ H) : tNext D σ H := h
theorem s_break {D : Ends} (h : D.bk σ H) : tBreak D σ H := h
theorem s_cont {D : Ends} (h : D.ct σ H) : tCont D σ H := h
theorem s_cut {D : Ends} {t1 t2 : TS} (Mid : L2.St → Hp → Prop) (h1 : t1 { D with nx := Mid } σ H) (h2 : ∀ σ' H', Mid σ' H' → t2 D σ' H') : tCut t1 t2 D σ H := ⟨Mid, h1, h2⟩
end
theorem atI_ints {ns : List Int} {k : Int} (h0 : 0 ≤ k) (h : k < ((ns.map V.int).length : Nat)) : ∃ c : Int, atI (ns.map V.int) k = some (.int c) := by
  rw [List.length_map] at h
  have hk : k.toNat < ns.length := by omega
  have ek : k = ((k.toNat : Nat) : Int) := by omega
  refine ⟨ns[k.toNat], ?_⟩
  have q : atI (ns.map V.int) ((k.toNat : Nat) : Int) = some (.int ns[k.toNat]) := atI_nat (by rw [List.getElem?_map, List.getElem?_eq_getElem hk] <;> rfl)
  rw [← ek] at q
  exact q
/-- what a for owes where its iterator J stands -/
def LoopI (J : It) (g : TG) (tb : TS) (D : Ends) (σ : L2.St) (H : Hp) : Prop := ∃ W : Nat → Nat → L2.St → Hp → Prop, (∃ m, W 0 m σ H) ∧ ∀ i m σ H, W i m σ H →
  (J.stop i H ∧ D.nx σ H) ∨ (J.go i H ∧ ∃ N : L2.St → Hp → Prop, (∀ σ' H', N σ' H' → ∃ m', m' < m ∧ W (i + 1) m' σ' H') ∧ ∀ x H', J.yld i H x H' → g x σ H' fun σ2 H2 => tb { D with nx := N, ct := N, bk := D.nx } σ2 H2)
section
variable {K : PySem.W.Frag} {H : Hp} {σ : L2.St} {D : Ends} {g : TG} {tb : TS} {ta : TA} {te : TE}
theorem s_for1 (h : ta σ H fun vs H1 => ∃ j : Int, vs = [.int j] ∧ -(2 ^ 62) ≤ j ∧ j < 2 ^ 62 ∧ LoopI (Itr 0 j.toNat) g tb D σ H1) : tFor (iRng1 ta) g tb D σ H := h
theorem rng1 {j : Int} {R : Int → Prop} (h1 : -(2 ^ 62) ≤ j) (h2 : j < 2 ^ 62) (h : R j) : ∃ j' : Int, [V.int j] = [.int j'] ∧ -(2 ^ 62) ≤ j' ∧ j' < 2 ^ 62 ∧ R j' := ⟨j, rfl, h1, h2, h⟩
theorem loop_rng {n : Nat} (Pv : Nat → L2.St → Hp → Prop) (h0 : Pv 0 σ H) (hs : ∀ i σ H, i < n → Pv i σ H → g (.int (i : Int)) σ H fun σ2 H2 => tb { D with nx := Pv (i + 1), ct := Pv (i + 1), bk := D.nx } σ2 H2)
    (hd : ∀ σ H, Pv n σ H → D.nx σ H) : LoopI (Itr 0 n) g tb D σ H := for_range Pv h0 (fun i σ H hi hp => by rw [Int.zero_add]; exact hs i σ H hi hp) hd
theorem s_forL (h : te σ H fun x H1 => ∃ a, x = .ref a ∧ (∃ xs, SqL K H1 a xs) ∧ LoopI (Itl K a) g tb D σ H1) : tFor (iList K te) g tb D σ H := h
end
end NW
namespace NW
open PySem PySem.Spec PyProof.Rows L2
open C8 (tCut pss_cut)
local macro_rules | `(tactic| walk_at "nw") => `(tactic| first
  | with_reducible refine s_seq ?_
  | with_reducible refine s_asg ?_
  | with_reducible refine s_if ?_
  | with_reducible refine s_ret ?_
  | with_reducible refine s_drop ?_
  | with_reducible refine v_var0 ?_
  | with_reducible refine s_name0 ?_
  | with_reducible refine v_aug0 ?_
  | with_reducible refine v_var1 ?_
  | with_reducible refine s_name1 ?_
  | with_reducible refine v_aug1 ?_
  | with_reducible refine v_var2 ?_
  | with_reducible refine s_name2 ?_
  | with_reducible refine v_aug2 ?_
  | with_reducible refine v_var3 ?_
  | with_reducible refine s_name3 ?_
  | with_reducible refine v_aug3 ?_
  | with_reducible refine v_var4 ?_
  | with_reducible refine s_name4 ?_
  | with_reducible refine v_aug4 ?_
  | with_reducible refine v_var5 ?_
  | with_reducible refine s_name5 ?_
  | with_reducible refine v_aug5 ?_
  | with_reducible refine v_var6 ?_
  | with_reducible refine s_name6 ?_
  | with_reducible refine v_aug6 ?_
  | with_reducible refine v_var7 ?_
  | with_reducible refine s_name7 ?_
  | with_reducible refine v_aug7 ?_
  | with_reducible refine v_var8 ?_
  | with_reducible refine s_name8 ?_
  | with_reducible refine v_aug8 ?_
  | with_reducible refine v_var9 ?_
  | with_reducible refine s_name9 ?_
  | with_reducible refine v_aug9 ?_
  | with_reducible refine v_var10 ?_
  | with_reducible refine s_name10 ?_
  | with_reducible refine v_aug10 ?_
  | with_reducible refine v_var11 ?_
  | with_reducible refine s_name11 ?_
  | with_reducible refine v_aug11 ?_
  | with_reducible refine v_var12 ?_
  | with_reducible refine s_name12 ?_
  | with_reducible refine v_aug12 ?_
  | with_reducible refine v_var13 ?_
  | with_reducible refine s_name13 ?_
  | with_reducible refine v_aug13 ?_
  | with_reducible refine v_var14 ?_
  | with_reducible refine s_name14 ?_
  | with_reducible refine v_aug14 ?_
  | with_reducible refine v_var15 ?_
  | with_reducible refine s_name15 ?_
  | with_reducible refine v_aug15 ?_
  | with_reducible refine v_c ?_
  | with_reducible refine v_op ?_
  | with_reducible refine v_cons ?_
  | with_reducible refine v_nil ?_
  | with_reducible refine v_cb ?_
  | with_reducible refine v_call ?_
  | with_reducible refine c_test ?_
  | with_reducible refine c_bl ?_
  | with_reducible refine c_and ?_
  | with_reducible refine c_or ?_
  | with_reducible refine c_not ?_
  | with_reducible refine v_augS ?_
  | with_reducible refine v_sub ?_
  | with_reducible refine add_ii ?_
  | with_reducible refine sub_ii ?_
  | with_reducible refine iadd_ii ?_
  | with_reducible refine lt_ii ?_
  | with_reducible refine le_ii ?_
  | with_reducible refine gt_ii ?_
  | with_reducible refine ge_ii ?_
  | with_reducible refine eq_ii ?_
  | with_reducible refine ne_ii ?_
  | with_reducible refine int_i ?_
  | with_reducible refine abs_i ?_
  | with_reducible refine max_i ?_
  | with_reducible refine min_i ?_
  | with_reducible refine mul_r (by omega) (by omega) ?_
  | with_reducible refine mul_l (by omega) (by omega) ?_
  | with_reducible refine ix_m0 (by assumption) ?_
  | with_reducible refine get_m0 (by assumption) ?_
  | with_reducible refine ix_m1 (by assumption) ?_
  | with_reducible refine get_m1 (by assumption) ?_
  | with_reducible refine ix_m2 (by assumption) ?_
  | with_reducible refine get_m2 (by assumption) ?_
  | with_reducible refine ix_m3 (by assumption) ?_
  | with_reducible refine get_m3 (by assumption) ?_
  | with_reducible refine ix_m4 (by assumption) ?_
  | with_reducible refine get_m4 (by assumption) ?_
  | with_reducible refine ix_m5 (by assumption) ?_
  | with_reducible refine get_m5 (by assumption) ?_
  | (with_reducible refine st_set1 (by assumption) (by assumption) ?_; intro H1 hs1 kp1)
  | (with_reducible refine st_set2 (by assumption) (by assumption) ?_; intro H1 hs1 kp1)
  | (with_reducible refine st_set3 (by assumption) (by assumption) ?_; intro H1 hs1 kp1)
  | (with_reducible refine st_set4 (by assumption) (by assumption) ?_; intro H1 hs1 kp1)
  | (with_reducible refine st_set5 (by assumption) (by assumption) ?_; intro H1 hs1 kp1)
  | with_reducible refine len_m (by assumption) ?_
  | with_reducible refine s_for1 ?_
  | with_reducible refine s_forL ?_
  | with_reducible refine rng1 (by omega) (by omega) ?_
  | with_reducible refine s_next ?_
  | with_reducible refine s_break ?_
  | with_reducible refine s_cont ?_
  | with_reducible refine if_t ?_
  | with_reducible refine if_f ?_)
def sp_mix : Sp := fun vs H Q _ => ∃ a b : Int, vs = [.int a, .int b] ∧ ∀ r : Int, 0 ≤ r → r < 9967 → Q (.int r) H
def t_mix (K : PySem.W.Frag) : TS :=
  (tSeq (tAsg (tOp aMod (tOp aAdd (tOp aAdd (tOp aMul (tCB aInt (tCons (tVar 0) tNil)) (tC (.int 29))) (tOp aMul (tCB aInt (tCons (tVar 1) tNil)) (tC (.int 4001)))) (tC (.int 17))) (tC (.int 10007))) (gName 2))
    (tSeq (tAsg (tOp aMod (tOp aAdd (tOp aAdd (tOp aAdd (tOp aMul (tVar 2) (tVar 2)) (tVar 2)) (tCB aInt (tCons (tVar 0) tNil))) (tCB aInt (tCons (tVar 1) tNil))) (tC (.int 9973))) (gName 3))
    (tRet (tOp aMod (tOp aAdd (tOp aAdd (tOp aMul (tVar 3) (tVar 3)) (tOp aMul (tC (.int 3)) (tVar 3))) (tVar 2)) (tC (.int 9967))))))
theorem p_mix (K : PySem.W.Frag) (vs : List V) (H : Hp) (Q : VK) (E : XK) (h : sp_mix vs H Q E) : t_mix K { nx := fun _ H' => Q .non H', rt := Q } (start ["seed", "turn", "one", "two"] vs) H := by
  obtain ⟨a, b, e, q⟩ := h
  subst e
  show t_mix K _ [some (.int a), some (.int b), none, none] H
  unfold t_mix
  repeat walk_at "nw"
  refine mod_r (by omega) fun one h0 h1 _ => ?_
  repeat walk_at "nw"
  refine mod_r (by omega) fun two h2 h3 _ => ?_
  repeat walk_at "nw"
  refine mod_r (by omega) fun r h4 h5 _ => ?_
  repeat walk_at "nw"
  exact q r h4 h5
def sp_take : Sp := fun vs H Q _ => ∃ (st : Addr) (many : Int), vs = [.ref st, .int many] ∧ Sto H st ∧ many < 2 ^ 300 ∧ ∀ (r : Int) (H' : Hp), Sto H' st → Keep st H H' → 0 ≤ r → (r < many ∨ r = 0) → Q (.int r) H'
def t_take (K : PySem.W.Frag) : TS :=
  (tSeq (tIfS (tTest (tOp aLt (tVar 1) (tC (.int 2)))) (tRet (tC (.int 0))) tNext)
    (tCut (tIfS (tAnd (tTest (tOp aEq (tOp (aIx K) (tVar 0) (tC (.int 2))) (tC (.int 0)))) (tAnd (tTest (tOp aEq (tOp (aIx K) (tVar 0) (tC (.int 3))) (tC (.int 0)))) (tTest (tOp aLt (tOp (aIx K) (tVar 0) (tC (.int 1))) (tCB (aLen K) (tCons (tOp (aIx K) (tVar 0) (tC (.int 0))) tNil)))))) (tSeq (tAsg (tCB aInt (tCons (tOp (aIx K) (tOp (aIx K) (tVar 0) (tC (.int 0))) (tOp (aIx K) (tVar 0) (tC (.int 1)))) tNil)) (gName 2))
    (tSeq (tAugS (tVar 0) (tC (.int 1)) (tC (.int 1)) (gGetL K) iAdd aSet)
    (tSeq (tAsg (tOp aMod (tCB aInt (tCons (tOp aAdd (tOp aMul (tOp (aIx K) (tVar 0) (tC (.int 4))) (tC (.int 31))) (tVar 2)) tNil)) (tC (.int 100000007))) (gSub (tVar 0) (tC (.int 4)) aSet))
    (tIfS (tTest (tOp aGe (tCB aAbs (tCons (tVar 2) tNil)) (tC (.int 1000000000000000000)))) (tAsg (tCB aAbs (tCons (tVar 2) tNil)) (gSub (tVar 0) (tC (.int 2)) aSet)) (tAsg (tC (.int 2)) (gSub (tVar 0) (tC (.int 3)) aSet)))))) tNext)
    (tSeq (tAugS (tVar 0) (tC (.int 5)) (tC (.int 1)) (gGetL K) iAdd aSet)
    (tSeq (tIfS (tTest (tOp aGt (tOp (aIx K) (tVar 0) (tC (.int 2))) (tC (.int 0)))) (tSeq (tAsg (tCB aInt (tCons (tOp (aIx K) (tVar 0) (tC (.int 2))) tNil)) (gName 3))
    (tSeq (tAsg (tOp aDiv (tVar 3) (tVar 1)) (gSub (tVar 0) (tC (.int 2)) aSet))
    (tRet (tOp aMod (tVar 3) (tVar 1))))) tNext)
    (tSeq (tAsg (tCB aMax (tCons (tC (.int 0)) (tCons (tOp aSub (tOp (aIx K) (tVar 0) (tC (.int 3))) (tC (.int 1))) tNil))) (gSub (tVar 0) (tC (.int 3)) aSet))
    (tSeq (tAsg (tC (.int 0)) (gName 4))
    (tSeq (tAsg (tC (.int 1)) (gName 5))
    (tSeq (tFor (iRng1 (tCons (tC (.int 60)) tNil)) (gName 6) (tSeq (tIfS (tTest (tOp aGe (tVar 5) (tVar 1))) tBreak tNext)
    (tSeq (tAsg (tOp aAdd (tOp aMul (tVar 4) (tC (.int 9967))) (tCall sp_mix [] E0 (tCons (tOp (aIx K) (tVar 0) (tC (.int 4))) (tCons (tOp aAdd (tOp (aIx K) (tVar 0) (tC (.int 5))) (tOp aMul (tC (.int 977)) (tVar 6))) tNil)))) (gName 4))
    (tAsg (tOp aMul (tVar 5) (tC (.int 9967))) (gName 5)))))
    (tRet (tOp aMod (tCB aInt (tCons (tVar 4) tNil)) (tVar 1)))))))))))
theorem p_take (K : PySem.W.Frag) (vs : List V) (H : Hp) (Q : VK) (E : XK) (h : sp_take vs H Q E) : t_take K { nx := fun _ H' => Q .non H', rt := Q } (start ["store", "many", "cell", "digits", "number", "room", "k"] vs) H := by
  obtain ⟨st, many, e, ⟨cl, ns, at_, left, small, seed, turn, hs, hc, h0⟩, hm, q⟩ := h
  subst e
  show t_take K _ [some (.ref st), some (.int many), none, none, none, none, none] H
  have hne : cl ≠ st := fun z => by
    rw [z, hs] at hc
    cases ns with
    | nil => cases hc
    | cons a r => cases hc
  have kp := Keep.refl st H
  unfold t_take
  repeat walk_at "nw"
  refine if_d (fun c => ?_) (fun c => ?_)
  · repeat walk_at "nw"
    exact q 0 H ⟨cl, ns, at_, left, small, seed, turn, hs, hc, h0⟩ (Keep.refl _ _) (by omega) (.inr rfl)
  have kc : ∀ {H2 : Hp}, Keep st H H2 → H2 cl = some (.lst (ns.map V.int)) := fun k => k.o cl _ hc hne
  refine s_cut (fun σ' H' => ∃ (o : Option V) (at_ left small seed turn : Int), σ' = [some (.ref st), some (.int many), o, none, none, none, none] ∧
    H' st = some (.lst [.ref cl, .int at_, .int left, .int small, .int seed, .int turn]) ∧ 0 ≤ at_ ∧ Keep st H H') ?_ ?_
  · -- the store's cells: the next one is begun, or nothing is done
    have stay : ∃ (o : Option V) (at_ left small seed turn : Int), [some (V.ref st), some (V.int many), none, none, none, none, none] = [some (.ref st), some (.int many), o, none, none, none, none] ∧
      H st = some (.lst [.ref cl, .int at_, .int left, .int small, .int seed, .int turn]) ∧ 0 ≤ at_ ∧ Keep st H H := ⟨none, at_, left, small, seed, turn, rfl, hs, h0, kp⟩
    repeat walk_at "nw"
    refine if_d (fun _ => ?_) (fun _ => ?_)
    rotate_left
    · repeat walk_at "nw"
      exact stay
    repeat walk_at "nw"
    refine if_d (fun _ => ?_) (fun _ => ?_)
    rotate_left
    · repeat walk_at "nw"
      exact stay
    repeat walk_at "nw"
    refine if_d (fun c3 => ?_) (fun _ => ?_)
    rotate_left
    · repeat walk_at "nw"
      exact stay
    obtain ⟨cell, hcell⟩ := atI_ints h0 c3
    repeat walk_at "nw"
    refine ix_m hc hcell ?_
    repeat walk_at "nw"
    refine mod_r (by omega) fun seed' _ _ _ => ?_
    repeat walk_at "nw"
    refine if_d (fun _ => ?_) (fun _ => ?_)
    · repeat walk_at "nw"
      exact ⟨_, _, _, _, _, _, rfl, by assumption, by omega, by assumption⟩
    · repeat walk_at "nw"
      exact ⟨_, _, _, _, _, _, rfl, by assumption, by omega, by assumption⟩
  · clear hs kp
    rintro σ' H' ⟨o, at_, left, small, seed, turn, rfl, hs, h0, kp⟩
    repeat walk_at "nw"
    refine if_d (fun c2 => ?_) (fun _ => ?_)
    · repeat walk_at "nw"
      refine div_r (by omega) hm fun d _ => ?_
      repeat walk_at "nw"
      refine mod_r (by omega) fun r h4 h5 _ => ?_
      exact q r _ ⟨cl, ns, _, _, _, _, _, by assumption, kc (by assumption), h0⟩ (by assumption) h4 (.inl h5)
    · repeat walk_at "nw"
      rename_i H1 hs1 kp1
      have fin : ∀ number : Int, aMod (.int number) (.int many) H1 Q := fun number => mod_r (by omega) fun r h4 h5 _ => q r _ ⟨cl, ns, _, _, _, _, _, hs1, kc kp1, h0⟩ kp1 h4 (.inl h5)
      refine loop_rng (fun _ σ' H' => ∃ (number room : Int) (kk : Option V), σ' = [some (.ref st), some (.int many), o, none, some (.int number), some (.int room), kk] ∧ H' = H1) ⟨0, 1, none, rfl, rfl⟩ ?_ ?_
      · rintro i σ' H' _ ⟨number, room, kk, rfl, rfl⟩
        repeat walk_at "nw"
        refine if_d (fun _ => ?_) (fun _ => ?_)
        · repeat walk_at "nw"
          exact fin _
        · repeat walk_at "nw"
          refine ⟨_, _, rfl, fun r _ _ => ?_⟩
          repeat walk_at "nw"
          exact ⟨_, _, _, rfl, rfl⟩
      · rintro σ' H' ⟨number, room, kk, rfl, rfl⟩
        repeat walk_at "nw"
        exact fin _
theorem l_mix : ∀ vs H Q E, sp_mix vs H Q E → vs.length = 2 := fun _ _ _ _ ⟨_, _, e, _⟩ => by rw [e]; rfl
theorem l_take : ∀ vs H Q E, sp_take vs H Q E → vs.length = 2 := fun _ _ _ _ ⟨_, _, e, _⟩ => by rw [e]; rfl
end NW
namespace NW
open PySem PySem.Spec PyProof.Rows L2
open C8 (tCut pss_cut)
def aIsi (K : PySem.W.Frag) : List V → Hp → VK → Prop := fun xs H Q => rIsi K xs H Q ∨ rIsiT K xs H Q
theorem cIsi {X : Cx} : CallR X (.builtin "isinstance") (aIsi X.K) := orCall call_isi call_isiT
section
variable {K : PySem.W.Frag} {H : Hp} {Q : VK} {x : V} {T a : String} {b : Bool}
theorem isi_of (ht : TyX K H x (.type a)) (hb : kitB a T = some b) (h : Q (.bl b) H) : aIsi K [x, .ty T] H Q := .inl ⟨x, _, _, _, b, rfl, .ty T, ht, kit_ty hb, h⟩
theorem isi_two {p : Addr} {T U : String} {b c : Bool} (ht : TyX K H x (.type a)) (hp : H p = some (.tup [.ty T, .ty U])) (hb : kitB a T = some b) (hc : kitB a U = some c) (h : Q (.bl (b || c)) H) : aIsi K [x, .ref p] H Q :=
  .inr ⟨x, p, _, _, _, b || c, rfl, hp, .cons (.ty T) (.cons (.ty U) .nil), ht, kitAny_cons (kit_ty hb) (fun e => by rw [e]; exact kitAny_cons (kit_ty hc) (fun e2 => by rw [e2]; rfl) (fun e2 => by rw [e2]; rfl)) (fun e => by rw [e]; rfl), h⟩
end
section
variable {K : PySem.W.Frag} {H H0 : Hp} {Q : VK} {i : Int} {k : Bool} {s : Str} {p t : Addr} {xs : List V} {kvs : List (Key × V)}
theorem isi_non_bool (h : Q (.bl false) H) : aIsi K [.non, .ty "bool"] H Q := isi_of (.base .non) (by decide +kernel) h
theorem isi_non_int (h : Q (.bl false) H) : aIsi K [.non, .ty "int"] H Q := isi_of (.base .non) (by decide +kernel) h
theorem isi_non_str (h : Q (.bl false) H) : aIsi K [.non, .ty "str"] H Q := isi_of (.base .non) (by decide +kernel) h
theorem isi_non_list (h : Q (.bl false) H) : aIsi K [.non, .ty "list"] H Q := isi_of (.base .non) (by decide +kernel) h
theorem isi_non_tuple (h : Q (.bl false) H) : aIsi K [.non, .ty "tuple"] H Q := isi_of (.base .non) (by decide +kernel) h
theorem isi_non_dict (h : Q (.bl false) H) : aIsi K [.non, .ty "dict"] H Q := isi_of (.base .non) (by decide +kernel) h
theorem isi_non_seq (ht : H t = some (.tup [.ty "list", .ty "tuple"])) (h : Q (.bl false) H) : aIsi K [.non, .ref t] H Q := isi_two (b := false) (c := false) (.base .non) ht (by decide +kernel) (by decide +kernel) h
theorem isi_bl_bool (h : Q (.bl true) H) : aIsi K [(.bl k), .ty "bool"] H Q := isi_of (.base (.bl _)) (by decide +kernel) h
theorem isi_bl_int (h : Q (.bl true) H) : aIsi K [(.bl k), .ty "int"] H Q := isi_of (.base (.bl _)) (by decide +kernel) h
theorem isi_bl_str (h : Q (.bl false) H) : aIsi K [(.bl k), .ty "str"] H Q := isi_of (.base (.bl _)) (by decide +kernel) h
theorem isi_bl_list (h : Q (.bl false) H) : aIsi K [(.bl k), .ty "list"] H Q := isi_of (.base (.bl _)) (by decide +kernel) h
theorem isi_bl_tuple (h : Q (.bl false) H) : aIsi K [(.bl k), .ty "tuple"] H Q := isi_of (.base (.bl _)) (by decide +kernel) h
theorem isi_bl_dict (h : Q (.bl false) H) : aIsi K [(.bl k), .ty "dict"] H Q := isi_of (.base (.bl _)) (by decide +kernel) h
theorem isi_bl_seq (ht : H t = some (.tup [.ty "list", .ty "tuple"])) (h : Q (.bl false) H) : aIsi K [(.bl k), .ref t] H Q := isi_two (b := false) (c := false) (.base (.bl _)) ht (by decide +kernel) (by decide +kernel) h
theorem isi_int_bool (h : Q (.bl false) H) : aIsi K [(.int i), .ty "bool"] H Q := isi_of (.base (.int _)) (by decide +kernel) h
theorem isi_int_int (h : Q (.bl true) H) : aIsi K [(.int i), .ty "int"] H Q := isi_of (.base (.int _)) (by decide +kernel) h
theorem isi_int_str (h : Q (.bl false) H) : aIsi K [(.int i), .ty "str"] H Q := isi_of (.base (.int _)) (by decide +kernel) h
theorem isi_int_list (h : Q (.bl false) H) : aIsi K [(.int i), .ty "list"] H Q := isi_of (.base (.int _)) (by decide +kernel) h
theorem isi_int_tuple (h : Q (.bl false) H) : aIsi K [(.int i), .ty "tuple"] H Q := isi_of (.base (.int _)) (by decide +kernel) h
theorem isi_int_dict (h : Q (.bl false) H) : aIsi K [(.int i), .ty "dict"] H Q := isi_of (.base (.int _)) (by decide +kernel) h
theorem isi_int_seq (ht : H t = some (.tup [.ty "list", .ty "tuple"])) (h : Q (.bl false) H) : aIsi K [(.int i), .ref t] H Q := isi_two (b := false) (c := false) (.base (.int _)) ht (by decide +kernel) (by decide +kernel) h
theorem isi_str_bool (h : Q (.bl false) H) : aIsi K [(.str s), .ty "bool"] H Q := isi_of (.base (.str _)) (by decide +kernel) h
theorem isi_str_int (h : Q (.bl false) H) : aIsi K [(.str s), .ty "int"] H Q := isi_of (.base (.str _)) (by decide +kernel) h
theorem isi_str_str (h : Q (.bl true) H) : aIsi K [(.str s), .ty "str"] H Q := isi_of (.base (.str _)) (by decide +kernel) h
theorem isi_str_list (h : Q (.bl false) H) : aIsi K [(.str s), .ty "list"] H Q := isi_of (.base (.str _)) (by decide +kernel) h
theorem isi_str_tuple (h : Q (.bl false) H) : aIsi K [(.str s), .ty "tuple"] H Q := isi_of (.base (.str _)) (by decide +kernel) h
theorem isi_str_dict (h : Q (.bl false) H) : aIsi K [(.str s), .ty "dict"] H Q := isi_of (.base (.str _)) (by decide +kernel) h
theorem isi_str_seq (ht : H t = some (.tup [.ty "list", .ty "tuple"])) (h : Q (.bl false) H) : aIsi K [(.str s), .ref t] H Q := isi_two (b := false) (c := false) (.base (.str _)) ht (by decide +kernel) (by decide +kernel) h
theorem isi_lst_bool (hs : Same H0 H) (hp : H0 p = some (.lst xs)) (h : Q (.bl false) H) : aIsi K [(.ref p), .ty "bool"] H Q := isi_of (.base (.lst (hs _ _ hp))) (by decide +kernel) h
theorem isi_lst_int (hs : Same H0 H) (hp : H0 p = some (.lst xs)) (h : Q (.bl false) H) : aIsi K [(.ref p), .ty "int"] H Q := isi_of (.base (.lst (hs _ _ hp))) (by decide +kernel) h
theorem isi_lst_str (hs : Same H0 H) (hp : H0 p = some (.lst xs)) (h : Q (.bl false) H) : aIsi K [(.ref p), .ty "str"] H Q := isi_of (.base (.lst (hs _ _ hp))) (by decide +kernel) h
theorem isi_lst_list (hs : Same H0 H) (hp : H0 p = some (.lst xs)) (h : Q (.bl true) H) : aIsi K [(.ref p), .ty "list"] H Q := isi_of (.base (.lst (hs _ _ hp))) (by decide +kernel) h
theorem isi_lst_tuple (hs : Same H0 H) (hp : H0 p = some (.lst xs)) (h : Q (.bl false) H) : aIsi K [(.ref p), .ty "tuple"] H Q := isi_of (.base (.lst (hs _ _ hp))) (by decide +kernel) h
theorem isi_lst_dict (hs : Same H0 H) (hp : H0 p = some (.lst xs)) (h : Q (.bl false) H) : aIsi K [(.ref p), .ty "dict"] H Q := isi_of (.base (.lst (hs _ _ hp))) (by decide +kernel) h
theorem isi_lst_seq (hs : Same H0 H) (hp : H0 p = some (.lst xs)) (ht : H t = some (.tup [.ty "list", .ty "tuple"])) (h : Q (.bl true) H) : aIsi K [(.ref p), .ref t] H Q := isi_two (b := true) (c := false) (.base (.lst (hs _ _ hp))) ht (by decide +kernel) (by decide +kernel) h
theorem isi_tup_bool (hs : Same H0 H) (hp : H0 p = some (.tup xs)) (h : Q (.bl false) H) : aIsi K [(.ref p), .ty "bool"] H Q := isi_of (.base (.tup (hs _ _ hp))) (by decide +kernel) h
theorem isi_tup_int (hs : Same H0 H) (hp : H0 p = some (.tup xs)) (h : Q (.bl false) H) : aIsi K [(.ref p), .ty "int"] H Q := isi_of (.base (.tup (hs _ _ hp))) (by decide +kernel) h
theorem isi_tup_str (hs : Same H0 H) (hp : H0 p = some (.tup xs)) (h : Q (.bl false) H) : aIsi K [(.ref p), .ty "str"] H Q := isi_of (.base (.tup (hs _ _ hp))) (by decide +kernel) h
theorem isi_tup_list (hs : Same H0 H) (hp : H0 p = some (.tup xs)) (h : Q (.bl false) H) : aIsi K [(.ref p), .ty "list"] H Q := isi_of (.base (.tup (hs _ _ hp))) (by decide +kernel) h
theorem isi_tup_tuple (hs : Same H0 H) (hp : H0 p = some (.tup xs)) (h : Q (.bl true) H) : aIsi K [(.ref p), .ty "tuple"] H Q := isi_of (.base (.tup (hs _ _ hp))) (by decide +kernel) h
theorem isi_tup_dict (hs : Same H0 H) (hp : H0 p = some (.tup xs)) (h : Q (.bl false) H) : aIsi K [(.ref p), .ty "dict"] H Q := isi_of (.base (.tup (hs _ _ hp))) (by decide +kernel) h
theorem isi_tup_seq (hs : Same H0 H) (hp : H0 p = some (.tup xs)) (ht : H t = some (.tup [.ty "list", .ty "tuple"])) (h : Q (.bl true) H) : aIsi K [(.ref p), .ref t] H Q := isi_two (b := false) (c := true) (.base (.tup (hs _ _ hp))) ht (by decide +kernel) (by decide +kernel) h
theorem isi_dK_bool (hs : Same H0 H) (hp : H0 p = some (.dK kvs)) (h : Q (.bl false) H) : aIsi K [(.ref p), .ty "bool"] H Q := isi_of (.base (.dK (hs _ _ hp))) (by decide +kernel) h
theorem isi_dK_int (hs : Same H0 H) (hp : H0 p = some (.dK kvs)) (h : Q (.bl false) H) : aIsi K [(.ref p), .ty "int"] H Q := isi_of (.base (.dK (hs _ _ hp))) (by decide +kernel) h
theorem isi_dK_str (hs : Same H0 H) (hp : H0 p = some (.dK kvs)) (h : Q (.bl false) H) : aIsi K [(.ref p), .ty "str"] H Q := isi_of (.base (.dK (hs _ _ hp))) (by decide +kernel) h
theorem isi_dK_list (hs : Same H0 H) (hp : H0 p = some (.dK kvs)) (h : Q (.bl false) H) : aIsi K [(.ref p), .ty "list"] H Q := isi_of (.base (.dK (hs _ _ hp))) (by decide +kernel) h
theorem isi_dK_tuple (hs : Same H0 H) (hp : H0 p = some (.dK kvs)) (h : Q (.bl false) H) : aIsi K [(.ref p), .ty "tuple"] H Q := isi_of (.base (.dK (hs _ _ hp))) (by decide +kernel) h
theorem isi_dK_dict (hs : Same H0 H) (hp : H0 p = some (.dK kvs)) (h : Q (.bl true) H) : aIsi K [(.ref p), .ty "dict"] H Q := isi_of (.base (.dK (hs _ _ hp))) (by decide +kernel) h
theorem isi_dK_seq (hs : Same H0 H) (hp : H0 p = some (.dK kvs)) (ht : H t = some (.tup [.ty "list", .ty "tuple"])) (h : Q (.bl false) H) : aIsi K [(.ref p), .ref t] H Q := isi_two (b := false) (c := false) (.base (.dK (hs _ _ hp))) ht (by decide +kernel) (by decide +kernel) h
/-- a new tuple -/
theorem tup_new {σ : L2.St} {ta : TA} (h : ta σ H fun ys H1 => ys.length ≤ sizeLine ∧ NewR (.tup ys) H1 Q) : tTup ta σ H Q := h
theorem lst_new {σ : L2.St} {ta : TA} (h : ta σ H fun ys H1 => ys.length ≤ sizeLine ∧ NewR (.lst ys) H1 Q) : tLst ta σ H Q := h
theorem lit_len {ys : List V} {A : Prop} (hl : ys.length ≤ 1000000) (h : A) : ys.length ≤ sizeLine ∧ A := ⟨Nat.le_trans hl (by decide), h⟩
theorem new_same {o : HO} (hs : Same H0 H) (h : ∀ q H1, H q = none → H1 q = some o → Same H H1 → Same H0 H1 → Q (.ref q) H1) : NewR o H Q :=
  fun q hq => h q _ hq upd_same (fun b o e => by rw [upd_ne (ne_of_none e hq)]; exact e) (fun b o e => by rw [upd_ne (ne_of_none (hs b o e) hq)]; exact hs b o e)
theorem ev_isN {σ : L2.St} {te : TE} (h : te σ H fun x H1 => Q (.bl (decide (x = .non))) H1) : tIsN te σ H Q := h
theorem ev_tB {σ : L2.St} {te : TE} {B : Bool → Hp → Prop} (h : te σ H fun x H1 => ∃ c, x = .bl c ∧ B c H1) : tB te σ H B := h
theorem ev_and {σ : L2.St} {ta tb : TE} (h : ta σ H fun x H1 => ∃ c, x = .bl c ∧ if c = true then tb σ H1 Q else Q (.bl false) H1) : tAndV ta tb σ H Q := h
theorem ev_or {σ : L2.St} {ta tb : TE} (h : ta σ H fun x H1 => ∃ c, x = .bl c ∧ if c = true then Q (.bl true) H1 else tb σ H1 Q) : tOrV ta tb σ H Q := h
theorem ev_not {σ : L2.St} {ta : TE} (h : ta σ H fun x H1 => ∃ c, x = .bl c ∧ Q (.bl (!c)) H1) : tNotV ta σ H Q := h
def tTru (K : PySem.W.Frag) (ta : TE) : TT := fun σ H Q => ta σ H fun x H' => ∃ k, TruV K x H' k ∧ Q k H'
theorem c_tru {σ : L2.St} {te : TE} {B : Bool → Hp → Prop} (h : te σ H fun x H' => ∃ k, TruV K x H' k ∧ B k H') : tTru K te σ H B := h
theorem tru_bl {b : Bool} {B : Bool → Prop} (h : B b) : ∃ k, TruV K (.bl b) H k ∧ B k := ⟨b, rfl, h⟩
theorem if_dT {c : Prop} {dc : Decidable c} {A A' : Prop} (hc : c) (h : A) : if @decide c dc = true then A else A' := by rw [if_pos (decide_eq_true hc)]; exact h
theorem if_dF {c : Prop} {dc : Decidable c} {A A' : Prop} (hc : ¬ c) (h : A') : if @decide c dc = true then A else A' := by rw [if_neg (fun z => hc (of_decide_eq_true z))]; exact h
theorem eq_bb {b c : Bool} (h : Q (.bl (decide (b = c))) H) : aEq (.bl b) (.bl c) H Q := eq_sc rfl (by rw [dec_bl, Bool.beq_eq_decide_eq]; exact h)
theorem eq_ss {b c : Str} (h : Q (.bl (decide (b = c))) H) : aEq (.str b) (.str c) H Q := eq_sc rfl (by
  have e : decide (V.str b = V.str c) = decide (b = c) := decide_eq_decide.mpr ⟨fun z => V.str.inj z, fun z => by rw [z]⟩
  rw [e]; exact h)
theorem if_nt {A A' : Prop} (h : A') : if (!true) = true then A else A' := h
theorem if_nf {A A' : Prop} (h : A) : if (!false) = true then A else A' := h
theorem if_nd {c : Prop} {dc : Decidable c} {A A' : Prop} (h1 : c → A') (h2 : ¬ c → A) : if (!@decide c dc) = true then A else A' := by
  by_cases q : c
  · rw [decide_eq_true q]; exact h1 q
  · rw [decide_eq_false q]; exact h2 q
theorem len_ms (hs : Same H0 H) (hp : H0 p = some (.lst xs)) (h : Q (.int (xs.length : Nat)) H) : aLen K [.ref p] H Q := len_m (hs _ _ hp) h
theorem len_ts (hs : Same H0 H) (hp : H0 p = some (.tup xs)) (h : Q (.int (xs.length : Nat)) H) : aLen K [.ref p] H Q := len_t (SqT.of (hs _ _ hp)) h
end
inductive DT where
  | non
  | bl (b : Bool)
  | int (i : Int)
  | str (s : Str)
  | lst (xs : List DT)
  | tup (xs : List DT)
mutual
inductive Is (H : Hp) : V → DT → Prop where
  | non : Is H .non .non
  | bl (b : Bool) : Is H (.bl b) (.bl b)
  | int (i : Int) : Is H (.int i) (.int i)
  | str (s : Str) : Is H (.str s) (.str s)
  | lst {a : Addr} {vs : List V} {xs : List DT} : H a = some (.lst vs) → Iss H vs xs → vs.length ≤ 1000000 → Is H (.ref a) (.lst xs)
  | tup {a : Addr} {vs : List V} {xs : List DT} : H a = some (.tup vs) → Iss H vs xs → vs.length ≤ 1000000 → Is H (.ref a) (.tup xs)
inductive Iss (H : Hp) : List V → List DT → Prop where
  | nil : Iss H [] []
  | cons {v : V} {vs : List V} {x : DT} {xs : List DT} : Is H v x → Iss H vs xs → Iss H (v :: vs) (x :: xs)
end
mutual
def DT.dep : DT → Nat
  | .lst xs => depL xs + 1
  | .tup xs => depL xs + 1
  | _ => 0
def depL : List DT → Nat
  | [] => 0
  | x :: xs => max x.dep (depL xs)
end
theorem Iss.len {H : Hp} : ∀ {vs : List V} {xs : List DT}, Iss H vs xs → vs.length = xs.length
  | _, _, .nil => rfl
  | _, _, .cons _ t => congrArg (· + 1) (Iss.len t)
theorem Iss.at {H : Hp} : ∀ {vs : List V} {xs : List DT} {i : Nat}, Iss H vs xs → i < vs.length → ∃ v x, vs[i]? = some v ∧ xs[i]? = some x ∧ Is H v x
  | _, _, _, .nil, h => absurd h (Nat.not_lt_zero _)
  | _, _, 0, .cons a _, _ => ⟨_, _, rfl, rfl, a⟩
  | _, _, i + 1, .cons _ t, h => by
    obtain ⟨v, x, h1, h2, h3⟩ := Iss.at (i := i) t (Nat.lt_of_succ_lt_succ h)
    exact ⟨v, x, h1, h2, h3⟩
theorem depL_at : ∀ {xs : List DT} {i : Nat} {x : DT}, xs[i]? = some x → x.dep ≤ depL xs
  | [], _, _, h => by simp at h
  | y :: ys, 0, x, h => by
    have e : y = x := Option.some.inj h
    subst e
    exact Nat.le_max_left _ _
  | y :: ys, i + 1, x, h => Nat.le_trans (depL_at (xs := ys) (i := i) h) (Nat.le_max_right _ _)
mutual
theorem Is.mono {H H' : Hp} (s : Same H H') : ∀ {v : V} {d : DT}, Is H v d → Is H' v d
  | _, _, .non => .non
  | _, _, .bl b => .bl b
  | _, _, .int i => .int i
  | _, _, .str x => .str x
  | _, _, .lst h t l => .lst (s _ _ h) (Iss.mono s t) l
  | _, _, .tup h t l => .tup (s _ _ h) (Iss.mono s t) l
theorem Iss.mono {H H' : Hp} (s : Same H H') : ∀ {vs : List V} {ds : List DT}, Iss H vs ds → Iss H' vs ds
  | _, _, .nil => .nil
  | _, _, .cons a t => .cons (Is.mono s a) (Iss.mono s t)
end
/-- one and other, of depth less than n: True exactly if they are the same through and through -/
def sp_same : Nat → Sp
  | 0 => fun _ _ _ _ => False
  | n + 1 => fun vs H Q _ => ∃ (x y : V) (d e : DT), vs = [x, y] ∧ Is H x d ∧ Is H y e ∧ d.dep ≤ n ∧ ∀ (b : Bool) (H' : Hp), Same H H' → (b = true ↔ d = e) → Q (.bl b) H'
theorem l_same : ∀ n vs H Q E, sp_same n vs H Q E → vs.length = 2
  | 0, _, _, _, _, h => h.elim
  | n + 1, _, _, _, _, ⟨_, _, _, _, e, _⟩ => by rw [e]; rfl
def t_same (K : PySem.W.Frag) (n : Nat) : TS :=
  (tSeq (tIfS (tOr (tB (tIsN (tVar 0))) (tB (tIsN (tVar 1)))) (tRet (tAndV (tIsN (tVar 0)) (tIsN (tVar 1)))) tNext)
    (tSeq (tIfS (tOr (tTru K (tCB (aIsi K) (tCons (tVar 0) (tCons (tC (.ty "bool")) tNil)))) (tTru K (tCB (aIsi K) (tCons (tVar 1) (tCons (tC (.ty "bool")) tNil))))) (tRet (tAndV (tCB (aIsi K) (tCons (tVar 0) (tCons (tC (.ty "bool")) tNil))) (tAndV (tCB (aIsi K) (tCons (tVar 1) (tCons (tC (.ty "bool")) tNil))) (tOp aEq (tVar 0) (tVar 1))))) tNext)
    (tSeq (tIfS (tTru K (tCB (aIsi K) (tCons (tVar 0) (tCons (tC (.ty "int")) tNil)))) (tRet (tAndV (tCB (aIsi K) (tCons (tVar 1) (tCons (tC (.ty "int")) tNil))) (tOp aEq (tVar 0) (tVar 1)))) tNext)
    (tSeq (tIfS (tTru K (tCB (aIsi K) (tCons (tVar 0) (tCons (tC (.ty "str")) tNil)))) (tRet (tAndV (tCB (aIsi K) (tCons (tVar 1) (tCons (tC (.ty "str")) tNil))) (tOp aEq (tVar 0) (tVar 1)))) tNext)
    (tSeq (tIfS (tTru K (tCB (aIsi K) (tCons (tVar 0) (tCons (tC (.ty "dict")) tNil)))) tNever tNext)
    (tSeq (tIfS (tAnd (tTru K (tCB (aIsi K) (tCons (tVar 0) (tCons (tC (.ty "list")) tNil)))) (tNot (tTru K (tCB (aIsi K) (tCons (tVar 1) (tCons (tC (.ty "list")) tNil)))))) (tRet (tC (.bl false))) tNext)
    (tSeq (tIfS (tAnd (tTru K (tCB (aIsi K) (tCons (tVar 0) (tCons (tC (.ty "tuple")) tNil)))) (tNot (tTru K (tCB (aIsi K) (tCons (tVar 1) (tCons (tC (.ty "tuple")) tNil)))))) (tRet (tC (.bl false))) tNext)
    (tSeq (tIfS (tOr (tNot (tTru K (tCB (aIsi K) (tCons (tVar 0) (tCons (tTup (tCons (tC (.ty "list")) (tCons (tC (.ty "tuple")) tNil))) tNil))))) (tTest (tOp aNe (tCB (aLen K) (tCons (tVar 0) tNil)) (tCB (aLen K) (tCons (tVar 1) tNil))))) (tRet (tC (.bl false))) tNext)
    (tSeq (tFor (iRng1 (tCons (tCB (aLen K) (tCons (tVar 0) tNil)) tNil)) (gName 2) (tIfS (tNot (tTru K (tCall (sp_same n) [] E0 (tCons (tOp (aIx K) (tVar 0) (tVar 2)) (tCons (tOp (aIx K) (tVar 1) (tVar 2)) tNil))))) (tRet (tC (.bl false))) tNext))
    (tRet (tC (.bl true))))))))))))
local macro_rules | `(tactic| walk_at "nw") => `(tactic| first
  | with_reducible refine s_seq ?_
  | with_reducible refine s_asg ?_
  | with_reducible refine s_if ?_
  | with_reducible refine s_ret ?_
  | with_reducible refine s_drop ?_
  | with_reducible refine v_var0 ?_
  | with_reducible refine s_name0 ?_
  | with_reducible refine v_aug0 ?_
  | with_reducible refine v_var1 ?_
  | with_reducible refine s_name1 ?_
  | with_reducible refine v_aug1 ?_
  | with_reducible refine v_var2 ?_
  | with_reducible refine s_name2 ?_
  | with_reducible refine v_aug2 ?_
  | with_reducible refine v_var3 ?_
  | with_reducible refine s_name3 ?_
  | with_reducible refine v_aug3 ?_
  | with_reducible refine v_var4 ?_
  | with_reducible refine s_name4 ?_
  | with_reducible refine v_aug4 ?_
  | with_reducible refine v_var5 ?_
  | with_reducible refine s_name5 ?_
  | with_reducible refine v_aug5 ?_
  | with_reducible refine v_var6 ?_
  | with_reducible refine s_name6 ?_
  | with_reducible refine v_aug6 ?_
  | with_reducible refine v_var7 ?_
  | with_reducible refine s_name7 ?_
  | with_reducible refine v_aug7 ?_
  | with_reducible refine v_var8 ?_
  | with_reducible refine s_name8 ?_
  | with_reducible refine v_aug8 ?_
  | with_reducible refine v_var9 ?_
  | with_reducible refine s_name9 ?_
  | with_reducible refine v_aug9 ?_
  | with_reducible refine v_var10 ?_
  | with_reducible refine s_name10 ?_
  | with_reducible refine v_aug10 ?_
  | with_reducible refine v_var11 ?_
  | with_reducible refine s_name11 ?_
  | with_reducible refine v_aug11 ?_
  | with_reducible refine v_var12 ?_
  | with_reducible refine s_name12 ?_
  | with_reducible refine v_aug12 ?_
  | with_reducible refine v_var13 ?_
  | with_reducible refine s_name13 ?_
  | with_reducible refine v_aug13 ?_
  | with_reducible refine v_var14 ?_
  | with_reducible refine s_name14 ?_
  | with_reducible refine v_aug14 ?_
  | with_reducible refine v_var15 ?_
  | with_reducible refine s_name15 ?_
  | with_reducible refine v_aug15 ?_
  | with_reducible refine v_c ?_
  | with_reducible refine v_op ?_
  | with_reducible refine v_cons ?_
  | with_reducible refine v_nil ?_
  | with_reducible refine v_cb ?_
  | with_reducible refine v_call ?_
  | with_reducible refine c_test ?_
  | with_reducible refine c_bl ?_
  | with_reducible refine c_and ?_
  | with_reducible refine c_or ?_
  | with_reducible refine c_not ?_
  | with_reducible refine v_augS ?_
  | with_reducible refine v_sub ?_
  | with_reducible refine add_ii ?_
  | with_reducible refine sub_ii ?_
  | with_reducible refine iadd_ii ?_
  | with_reducible refine lt_ii ?_
  | with_reducible refine le_ii ?_
  | with_reducible refine gt_ii ?_
  | with_reducible refine ge_ii ?_
  | with_reducible refine eq_ii ?_
  | with_reducible refine ne_ii ?_
  | with_reducible refine int_i ?_
  | with_reducible refine abs_i ?_
  | with_reducible refine max_i ?_
  | with_reducible refine min_i ?_
  | with_reducible refine mul_r (by omega) (by omega) ?_
  | with_reducible refine mul_l (by omega) (by omega) ?_
  | with_reducible refine ix_m0 (by assumption) ?_
  | with_reducible refine get_m0 (by assumption) ?_
  | with_reducible refine ix_m1 (by assumption) ?_
  | with_reducible refine get_m1 (by assumption) ?_
  | with_reducible refine ix_m2 (by assumption) ?_
  | with_reducible refine get_m2 (by assumption) ?_
  | with_reducible refine ix_m3 (by assumption) ?_
  | with_reducible refine get_m3 (by assumption) ?_
  | with_reducible refine ix_m4 (by assumption) ?_
  | with_reducible refine get_m4 (by assumption) ?_
  | with_reducible refine ix_m5 (by assumption) ?_
  | with_reducible refine get_m5 (by assumption) ?_
  | (with_reducible refine st_set1 (by assumption) (by assumption) ?_; intro H1 hs1 kp1)
  | (with_reducible refine st_set2 (by assumption) (by assumption) ?_; intro H1 hs1 kp1)
  | (with_reducible refine st_set3 (by assumption) (by assumption) ?_; intro H1 hs1 kp1)
  | (with_reducible refine st_set4 (by assumption) (by assumption) ?_; intro H1 hs1 kp1)
  | (with_reducible refine st_set5 (by assumption) (by assumption) ?_; intro H1 hs1 kp1)
  | with_reducible refine len_m (by assumption) ?_
  | with_reducible refine s_for1 ?_
  | with_reducible refine s_forL ?_
  | with_reducible refine rng1 (by omega) (by omega) ?_
  | with_reducible refine s_next ?_
  | with_reducible refine s_break ?_
  | with_reducible refine s_cont ?_
  | with_reducible refine isi_non_bool ?_
  | with_reducible refine isi_non_int ?_
  | with_reducible refine isi_non_str ?_
  | with_reducible refine isi_non_list ?_
  | with_reducible refine isi_non_tuple ?_
  | with_reducible refine isi_non_dict ?_
  | with_reducible refine isi_non_seq (by assumption) ?_
  | with_reducible refine isi_bl_bool ?_
  | with_reducible refine isi_bl_int ?_
  | with_reducible refine isi_bl_str ?_
  | with_reducible refine isi_bl_list ?_
  | with_reducible refine isi_bl_tuple ?_
  | with_reducible refine isi_bl_dict ?_
  | with_reducible refine isi_bl_seq (by assumption) ?_
  | with_reducible refine isi_int_bool ?_
  | with_reducible refine isi_int_int ?_
  | with_reducible refine isi_int_str ?_
  | with_reducible refine isi_int_list ?_
  | with_reducible refine isi_int_tuple ?_
  | with_reducible refine isi_int_dict ?_
  | with_reducible refine isi_int_seq (by assumption) ?_
  | with_reducible refine isi_str_bool ?_
  | with_reducible refine isi_str_int ?_
  | with_reducible refine isi_str_str ?_
  | with_reducible refine isi_str_list ?_
  | with_reducible refine isi_str_tuple ?_
  | with_reducible refine isi_str_dict ?_
  | with_reducible refine isi_str_seq (by assumption) ?_
  | with_reducible refine isi_lst_bool (by assumption) (by assumption) ?_
  | with_reducible refine isi_lst_int (by assumption) (by assumption) ?_
  | with_reducible refine isi_lst_str (by assumption) (by assumption) ?_
  | with_reducible refine isi_lst_list (by assumption) (by assumption) ?_
  | with_reducible refine isi_lst_tuple (by assumption) (by assumption) ?_
  | with_reducible refine isi_lst_dict (by assumption) (by assumption) ?_
  | with_reducible refine isi_lst_seq (by assumption) (by assumption) (by assumption) ?_
  | with_reducible refine isi_tup_bool (by assumption) (by assumption) ?_
  | with_reducible refine isi_tup_int (by assumption) (by assumption) ?_
  | with_reducible refine isi_tup_str (by assumption) (by assumption) ?_
  | with_reducible refine isi_tup_list (by assumption) (by assumption) ?_
  | with_reducible refine isi_tup_tuple (by assumption) (by assumption) ?_
  | with_reducible refine isi_tup_dict (by assumption) (by assumption) ?_
  | with_reducible refine isi_tup_seq (by assumption) (by assumption) (by assumption) ?_
  | with_reducible refine isi_dK_bool (by assumption) (by assumption) ?_
  | with_reducible refine isi_dK_int (by assumption) (by assumption) ?_
  | with_reducible refine isi_dK_str (by assumption) (by assumption) ?_
  | with_reducible refine isi_dK_list (by assumption) (by assumption) ?_
  | with_reducible refine isi_dK_tuple (by assumption) (by assumption) ?_
  | with_reducible refine isi_dK_dict (by assumption) (by assumption) ?_
  | with_reducible refine isi_dK_seq (by assumption) (by assumption) (by assumption) ?_
  | with_reducible refine eq_bb ?_
  | with_reducible refine eq_ss ?_
  | with_reducible refine ev_isN ?_
  | with_reducible refine ev_tB ?_
  | with_reducible refine ev_and ?_
  | with_reducible refine ev_or ?_
  | with_reducible refine ev_not ?_
  | with_reducible refine c_tru ?_
  | with_reducible refine tru_bl ?_
  | with_reducible refine if_nt ?_
  | with_reducible refine if_nf ?_
  | with_reducible refine tup_new ?_
  | with_reducible refine lst_new ?_
  | with_reducible refine len_ms (by assumption) (by assumption) ?_
  | with_reducible refine len_ts (by assumption) (by assumption) ?_
  | ((with_reducible refine lit_len ?_ ?_); (focus (first | decide | (simp; done) | (simp; omega))))
  | (with_reducible refine new_same (by assumption) ?_; intro q1 H1 hq1 he1 sm1 hs1)
  | with_reducible refine if_dT rfl ?_
  | ((with_reducible refine if_dF ?_ ?_); focus (intro z; cases z; done))
  | with_reducible refine if_t ?_
  | with_reducible refine if_f ?_)
set_option maxHeartbeats 8000000 in
theorem p_same (K : PySem.W.Frag) (n : Nat) (vs : List V) (H : Hp) (Q : VK) (E : XK) (h : sp_same (n + 1) vs H Q E) : t_same K n { nx := fun _ H' => Q .non H', rt := Q } (start ["one", "other", "k"] vs) H := by
  obtain ⟨x, y, d, e, ev, hx, hy, hd, q⟩ := h
  subst ev
  show t_same K n _ [some x, some y, none] H
  have hs := Same.refl H
  unfold t_same
  cases hx with
  | @lst a vs xs h1 h2 hl =>
    cases hy with
    | @lst a' vs' xs' g1 g2 gl =>
      obtain ⟨m, rfl⟩ : ∃ m, n = m + 1 := by
        simp only [DT.dep] at hd
        exact ⟨n - 1, by omega⟩
      simp only [DT.dep] at hd
      have el := Iss.len h2
      have el' := Iss.len g2
      repeat walk_at "nw"
      refine if_nd (fun c => ?_) (fun c => ?_)
      · repeat walk_at "nw"
        refine loop_rng (fun i σ' H' => ∃ kk : Option V, σ' = [some (.ref a), some (.ref a'), kk] ∧ Same H H' ∧ ∀ j, j < i → xs[j]? = xs'[j]?) ⟨none, rfl, by assumption, fun j z => absurd z (Nat.not_lt_zero _)⟩ ?_ ?_
        · rintro i σ' H' hi ⟨kk, rfl, hs', hj⟩
          have hi' : i < vs.length := by omega
          obtain ⟨v, x, hv, hx, isx⟩ := Iss.at h2 hi'
          obtain ⟨v', x', hv', hx', isx'⟩ := Iss.at g2 (show i < vs'.length by omega)
          have dx := depL_at hx
          repeat walk_at "nw"
          refine ix_l (SqL.of (hs' _ _ h1)) (atI_nat hv) ?_
          repeat walk_at "nw"
          refine ix_l (SqL.of (hs' _ _ g1)) (atI_nat hv') ?_
          repeat walk_at "nw"
          refine ⟨v, v', x, x', rfl, isx.mono hs', isx'.mono hs', by omega, fun b H2 hs2 e => ?_⟩
          repeat walk_at "nw"
          cases b with
          | false =>
            repeat walk_at "nw"
            refine q false H2 (hs'.trans hs2) ⟨fun z => absurd z Bool.false_ne_true, fun z => ?_⟩
            injection z with z
            rw [z, hx'] at hx
            exact e.mpr (Option.some.inj hx).symm
          | true =>
            repeat walk_at "nw"
            refine ⟨_, rfl, hs'.trans hs2, fun j hlt => ?_⟩
            by_cases ej : j = i
            · rw [ej, hx, hx', e.mp rfl]
            · exact hj j (by omega)
        · rintro σ' H' ⟨kk, rfl, hs', hj⟩
          repeat walk_at "nw"
          refine q true H' hs' ⟨fun _ => ?_, fun _ => rfl⟩
          have z : xs = xs' := List.ext_getElem? fun j => by
            by_cases hlt : j < vs.length
            · exact hj j (by omega)
            · rw [List.getElem?_eq_none (by omega), List.getElem?_eq_none (by omega)]
          rw [z]
      · repeat walk_at "nw"
        refine q false _ (by assumption) ⟨fun z => absurd z Bool.false_ne_true, fun z => ?_⟩
        injection z with z
        rw [z] at el
        exact absurd (by rw [el, el']) c
    | _ =>
      repeat walk_at "nw"
      refine q _ _ ?_ ?_ <;> first | assumption | simp
  | @tup a vs xs h1 h2 hl =>
    cases hy with
    | @tup a' vs' xs' g1 g2 gl =>
      obtain ⟨m, rfl⟩ : ∃ m, n = m + 1 := by
        simp only [DT.dep] at hd
        exact ⟨n - 1, by omega⟩
      simp only [DT.dep] at hd
      have el := Iss.len h2
      have el' := Iss.len g2
      repeat walk_at "nw"
      refine if_nd (fun c => ?_) (fun c => ?_)
      · repeat walk_at "nw"
        refine loop_rng (fun i σ' H' => ∃ kk : Option V, σ' = [some (.ref a), some (.ref a'), kk] ∧ Same H H' ∧ ∀ j, j < i → xs[j]? = xs'[j]?) ⟨none, rfl, by assumption, fun j z => absurd z (Nat.not_lt_zero _)⟩ ?_ ?_
        · rintro i σ' H' hi ⟨kk, rfl, hs', hj⟩
          have hi' : i < vs.length := by omega
          obtain ⟨v, x, hv, hx, isx⟩ := Iss.at h2 hi'
          obtain ⟨v', x', hv', hx', isx'⟩ := Iss.at g2 (show i < vs'.length by omega)
          have dx := depL_at hx
          repeat walk_at "nw"
          refine ix_t (SqT.of (hs' _ _ h1)) (atI_nat hv) ?_
          repeat walk_at "nw"
          refine ix_t (SqT.of (hs' _ _ g1)) (atI_nat hv') ?_
          repeat walk_at "nw"
          refine ⟨v, v', x, x', rfl, isx.mono hs', isx'.mono hs', by omega, fun b H2 hs2 e => ?_⟩
          repeat walk_at "nw"
          cases b with
          | false =>
            repeat walk_at "nw"
            refine q false H2 (hs'.trans hs2) ⟨fun z => absurd z Bool.false_ne_true, fun z => ?_⟩
            injection z with z
            rw [z, hx'] at hx
            exact e.mpr (Option.some.inj hx).symm
          | true =>
            repeat walk_at "nw"
            refine ⟨_, rfl, hs'.trans hs2, fun j hlt => ?_⟩
            by_cases ej : j = i
            · rw [ej, hx, hx', e.mp rfl]
            · exact hj j (by omega)
        · rintro σ' H' ⟨kk, rfl, hs', hj⟩
          repeat walk_at "nw"
          refine q true H' hs' ⟨fun _ => ?_, fun _ => rfl⟩
          have z : xs = xs' := List.ext_getElem? fun j => by
            by_cases hlt : j < vs.length
            · exact hj j (by omega)
            · rw [List.getElem?_eq_none (by omega), List.getElem?_eq_none (by omega)]
          rw [z]
      · repeat walk_at "nw"
        refine q false _ (by assumption) ⟨fun z => absurd z Bool.false_ne_true, fun z => ?_⟩
        injection z with z
        rw [z] at el
        exact absurd (by rw [el, el']) c
    | _ =>
      repeat walk_at "nw"
      refine q _ _ ?_ ?_ <;> first | assumption | simp
  | _ =>
    cases hy with
    | _ =>
      repeat walk_at "nw"
      refine q _ _ ?_ ?_ <;> first | assumption | simp
end NW
namespace NW
open PySem PySem.Spec PyProof.Rows L2
open C8 (tCut pss_cut)
theorem c_take {H H0 : Hp} {Q : VK} {E : XK} {st : Addr} {many : Int} (hs : Sto H st) (kp : Keep st H0 H) (hm : many < 2 ^ 300) (h : ∀ (r : Int) (H' : Hp), Sto H' st → Keep st H0 H' → 0 ≤ r → (r < many ∨ r = 0) → Q (.int r) H') : sp_take [.ref st, .int many] H Q E :=
  ⟨st, many, rfl, hs, hm, fun r H' s k h0 h1 => h r H' s (kp.trans k) h0 h1⟩
theorem Sto.mono {H H' : Hp} {st : Addr} (s : Same H H') (h : Sto H st) : Sto H' st := by
  obtain ⟨cl, ns, a, b, c, d, e, h1, h2, h3⟩ := h
  exact ⟨cl, ns, a, b, c, d, e, s _ _ h1, s _ _ h2, h3⟩
theorem Sto.ne {H : Hp} {st q : Addr} (h : Sto H st) (hq : H q = none) : q ≠ st := by
  obtain ⟨cl, ns, a, b, c, d, e, h1, h2, h3⟩ := h
  exact Ne.symm (ne_of_none h1 hq)
theorem same_new {H : Hp} {q : Addr} {o : HO} (hq : H q = none) : Same H (upd H q o) := fun b o e => by
  rw [upd_ne (ne_of_none e hq)]
  exact e
theorem new_st {H H0 : Hp} {Q : VK} {o : HO} {st : Addr} (hS : Sto H st) (hs : Keep st H0 H) (h : ∀ q H1, H q = none → H1 q = some o → q ≠ st → Keep st H0 H1 → Sto H1 st → Same H H1 → Q (.ref q) H1) : NewR o H Q :=
  fun q hq => h q _ hq upd_same (hS.ne hq) (hs.new hq) (hS.mono (same_new hq)) (same_new hq)
theorem ev_chain {σ : L2.St} {H : Hp} {Q : VK} {r r' : R2} {ta tb tc : TE} (h : ta σ H fun x H1 => tb σ H1 fun y H2 => r x y H2 fun z H3 => ∃ k, z = .bl k ∧ if k = true then tc σ H3 fun z' H4 => r' y z' H4 Q else Q (.bl false) H3) : tChain r r' ta tb tc σ H Q := h
/-- a number from low to high; low if high is less -/
def sp_number : Sp := fun vs H Q _ => ∃ (st : Addr) (lo hi : Int), vs = [.ref st, .int lo, .int hi] ∧ Sto H st ∧ hi - lo + 1 < 2 ^ 300 ∧ ∀ (r : Int) (H' : Hp), Sto H' st → Keep st H H' → lo ≤ r → (r ≤ hi ∨ r = lo) → Q (.int r) H'
theorem l_number : ∀ vs H Q E, sp_number vs H Q E → vs.length = 3 := fun _ _ _ _ h => by
  obtain ⟨_, _, _, e, _⟩ := h
  rw [e]; rfl
local macro_rules | `(tactic| walk_at "nw") => `(tactic| first
  | with_reducible refine s_seq ?_
  | with_reducible refine s_asg ?_
  | with_reducible refine s_if ?_
  | with_reducible refine s_ret ?_
  | with_reducible refine s_drop ?_
  | with_reducible refine v_var0 ?_
  | with_reducible refine s_name0 ?_
  | with_reducible refine v_aug0 ?_
  | with_reducible refine v_var1 ?_
  | with_reducible refine s_name1 ?_
  | with_reducible refine v_aug1 ?_
  | with_reducible refine v_var2 ?_
  | with_reducible refine s_name2 ?_
  | with_reducible refine v_aug2 ?_
  | with_reducible refine v_var3 ?_
  | with_reducible refine s_name3 ?_
  | with_reducible refine v_aug3 ?_
  | with_reducible refine v_var4 ?_
  | with_reducible refine s_name4 ?_
  | with_reducible refine v_aug4 ?_
  | with_reducible refine v_var5 ?_
  | with_reducible refine s_name5 ?_
  | with_reducible refine v_aug5 ?_
  | with_reducible refine v_var6 ?_
  | with_reducible refine s_name6 ?_
  | with_reducible refine v_aug6 ?_
  | with_reducible refine v_var7 ?_
  | with_reducible refine s_name7 ?_
  | with_reducible refine v_aug7 ?_
  | with_reducible refine v_var8 ?_
  | with_reducible refine s_name8 ?_
  | with_reducible refine v_aug8 ?_
  | with_reducible refine v_var9 ?_
  | with_reducible refine s_name9 ?_
  | with_reducible refine v_aug9 ?_
  | with_reducible refine v_var10 ?_
  | with_reducible refine s_name10 ?_
  | with_reducible refine v_aug10 ?_
  | with_reducible refine v_var11 ?_
  | with_reducible refine s_name11 ?_
  | with_reducible refine v_aug11 ?_
  | with_reducible refine v_var12 ?_
  | with_reducible refine s_name12 ?_
  | with_reducible refine v_aug12 ?_
  | with_reducible refine v_var13 ?_
  | with_reducible refine s_name13 ?_
  | with_reducible refine v_aug13 ?_
  | with_reducible refine v_var14 ?_
  | with_reducible refine s_name14 ?_
  | with_reducible refine v_aug14 ?_
  | with_reducible refine v_var15 ?_
  | with_reducible refine s_name15 ?_
  | with_reducible refine v_aug15 ?_
  | with_reducible refine v_c ?_
  | with_reducible refine v_op ?_
  | with_reducible refine v_cons ?_
  | with_reducible refine v_nil ?_
  | with_reducible refine v_cb ?_
  | with_reducible refine v_call ?_
  | with_reducible refine c_test ?_
  | with_reducible refine c_bl ?_
  | with_reducible refine c_and ?_
  | with_reducible refine c_or ?_
  | with_reducible refine c_not ?_
  | with_reducible refine v_augS ?_
  | with_reducible refine v_sub ?_
  | with_reducible refine add_ii ?_
  | with_reducible refine sub_ii ?_
  | with_reducible refine iadd_ii ?_
  | with_reducible refine lt_ii ?_
  | with_reducible refine le_ii ?_
  | with_reducible refine gt_ii ?_
  | with_reducible refine ge_ii ?_
  | with_reducible refine eq_ii ?_
  | with_reducible refine ne_ii ?_
  | with_reducible refine int_i ?_
  | with_reducible refine abs_i ?_
  | with_reducible refine max_i ?_
  | with_reducible refine min_i ?_
  | with_reducible refine mul_r (by omega) (by omega) ?_
  | with_reducible refine mul_l (by omega) (by omega) ?_
  | with_reducible refine ix_m0 (by assumption) ?_
  | with_reducible refine get_m0 (by assumption) ?_
  | with_reducible refine ix_m1 (by assumption) ?_
  | with_reducible refine get_m1 (by assumption) ?_
  | with_reducible refine ix_m2 (by assumption) ?_
  | with_reducible refine get_m2 (by assumption) ?_
  | with_reducible refine ix_m3 (by assumption) ?_
  | with_reducible refine get_m3 (by assumption) ?_
  | with_reducible refine ix_m4 (by assumption) ?_
  | with_reducible refine get_m4 (by assumption) ?_
  | with_reducible refine ix_m5 (by assumption) ?_
  | with_reducible refine get_m5 (by assumption) ?_
  | (with_reducible refine st_set1 (by assumption) (by assumption) ?_; intro H1 hs1 kp1)
  | (with_reducible refine st_set2 (by assumption) (by assumption) ?_; intro H1 hs1 kp1)
  | (with_reducible refine st_set3 (by assumption) (by assumption) ?_; intro H1 hs1 kp1)
  | (with_reducible refine st_set4 (by assumption) (by assumption) ?_; intro H1 hs1 kp1)
  | (with_reducible refine st_set5 (by assumption) (by assumption) ?_; intro H1 hs1 kp1)
  | with_reducible refine len_m (by assumption) ?_
  | with_reducible refine s_for1 ?_
  | with_reducible refine s_forL ?_
  | with_reducible refine rng1 (by omega) (by omega) ?_
  | with_reducible refine s_next ?_
  | with_reducible refine s_break ?_
  | with_reducible refine s_cont ?_
  | with_reducible refine isi_non_bool ?_
  | with_reducible refine isi_non_int ?_
  | with_reducible refine isi_non_str ?_
  | with_reducible refine isi_non_list ?_
  | with_reducible refine isi_non_tuple ?_
  | with_reducible refine isi_non_dict ?_
  | with_reducible refine isi_non_seq (by assumption) ?_
  | with_reducible refine isi_bl_bool ?_
  | with_reducible refine isi_bl_int ?_
  | with_reducible refine isi_bl_str ?_
  | with_reducible refine isi_bl_list ?_
  | with_reducible refine isi_bl_tuple ?_
  | with_reducible refine isi_bl_dict ?_
  | with_reducible refine isi_bl_seq (by assumption) ?_
  | with_reducible refine isi_int_bool ?_
  | with_reducible refine isi_int_int ?_
  | with_reducible refine isi_int_str ?_
  | with_reducible refine isi_int_list ?_
  | with_reducible refine isi_int_tuple ?_
  | with_reducible refine isi_int_dict ?_
  | with_reducible refine isi_int_seq (by assumption) ?_
  | with_reducible refine isi_str_bool ?_
  | with_reducible refine isi_str_int ?_
  | with_reducible refine isi_str_str ?_
  | with_reducible refine isi_str_list ?_
  | with_reducible refine isi_str_tuple ?_
  | with_reducible refine isi_str_dict ?_
  | with_reducible refine isi_str_seq (by assumption) ?_
  | with_reducible refine isi_lst_bool (by assumption) (by assumption) ?_
  | with_reducible refine isi_lst_int (by assumption) (by assumption) ?_
  | with_reducible refine isi_lst_str (by assumption) (by assumption) ?_
  | with_reducible refine isi_lst_list (by assumption) (by assumption) ?_
  | with_reducible refine isi_lst_tuple (by assumption) (by assumption) ?_
  | with_reducible refine isi_lst_dict (by assumption) (by assumption) ?_
  | with_reducible refine isi_lst_seq (by assumption) (by assumption) (by assumption) ?_
  | with_reducible refine isi_tup_bool (by assumption) (by assumption) ?_
  | with_reducible refine isi_tup_int (by assumption) (by assumption) ?_
  | with_reducible refine isi_tup_str (by assumption) (by assumption) ?_
  | with_reducible refine isi_tup_list (by assumption) (by assumption) ?_
  | with_reducible refine isi_tup_tuple (by assumption) (by assumption) ?_
  | with_reducible refine isi_tup_dict (by assumption) (by assumption) ?_
  | with_reducible refine isi_tup_seq (by assumption) (by assumption) (by assumption) ?_
  | with_reducible refine isi_dK_bool (by assumption) (by assumption) ?_
  | with_reducible refine isi_dK_int (by assumption) (by assumption) ?_
  | with_reducible refine isi_dK_str (by assumption) (by assumption) ?_
  | with_reducible refine isi_dK_list (by assumption) (by assumption) ?_
  | with_reducible refine isi_dK_tuple (by assumption) (by assumption) ?_
  | with_reducible refine isi_dK_dict (by assumption) (by assumption) ?_
  | with_reducible refine isi_dK_seq (by assumption) (by assumption) (by assumption) ?_
  | with_reducible refine eq_bb ?_
  | with_reducible refine eq_ss ?_
  | with_reducible refine ev_isN ?_
  | with_reducible refine ev_tB ?_
  | with_reducible refine ev_and ?_
  | with_reducible refine ev_or ?_
  | with_reducible refine ev_not ?_
  | with_reducible refine c_tru ?_
  | with_reducible refine tru_bl ?_
  | with_reducible refine if_nt ?_
  | with_reducible refine if_nf ?_
  | with_reducible refine tup_new ?_
  | with_reducible refine lst_new ?_
  | with_reducible refine len_ms (by assumption) (by assumption) ?_
  | with_reducible refine len_ts (by assumption) (by assumption) ?_
  | ((with_reducible refine lit_len ?_ ?_); (focus (first | decide | (simp; done) | (simp; omega))))
  | (with_reducible refine new_same (by assumption) ?_; intro q1 H1 hq1 he1 sm1 hs1)
  | with_reducible refine if_dT rfl ?_
  | ((with_reducible refine if_dF ?_ ?_); focus (intro z; cases z; done))
  | with_reducible refine if_t ?_
  | with_reducible refine if_f ?_
  | ((with_reducible refine c_take (by assumption) (by assumption) ?_ ?_); (focus omega); intro r1 H1 hS1 kp1 h01 h11))
local macro_rules | `(tactic| walk_at "go") => `(tactic| repeat' (first | walk_at "nw" | ((with_reducible refine if_d ?_ ?_) <;> intro c1) | ((with_reducible refine if_nd ?_ ?_) <;> intro c1)))
theorem c_number {H H0 : Hp} {Q : VK} {E : XK} {st : Addr} {lo hi : Int} (hs : Sto H st) (kp : Keep st H0 H) (hm : hi - lo + 1 < 2 ^ 300) (h : ∀ (r : Int) (H' : Hp), Sto H' st → Keep st H0 H' → lo ≤ r → (r ≤ hi ∨ r = lo) → Q (.int r) H') : sp_number [.ref st, .int lo, .int hi] H Q E :=
  ⟨st, lo, hi, rfl, hs, hm, fun r H' s k h0 h1 => h r H' s (kp.trans k) h0 h1⟩
/-- an item of a row -/
def sp_pick : Sp := fun vs H Q _ => ∃ (st row : Addr), vs = [.ref st, .ref row] ∧ Sto H st ∧ ∃ (xs : List V), H row = some (.lst xs) ∧ row ≠ st ∧ 0 < xs.length ∧ xs.length ≤ 1000000 ∧ ∀ (v : V) (H' : Hp), Sto H' st → Keep st H H' → v ∈ xs → Q v H'
theorem l_pick : ∀ vs H Q E, sp_pick vs H Q E → vs.length = 2 := fun _ _ _ _ h => by
  obtain ⟨_, _, e, _⟩ := h
  rw [e]; rfl
theorem c_pick {H H0 : Hp} {Q : VK} {E : XK} {st row : Addr} {xs : List V} (hs : Sto H st) (kp : Keep st H0 H) (hr : H row = some (.lst xs)) (hne : row ≠ st) (hn : 0 < xs.length ∧ xs.length ≤ 1000000) (h : ∀ (v : V) (H' : Hp), Sto H' st → Keep st H0 H' → Keep st H H' → v ∈ xs → Q v H') : sp_pick [.ref st, .ref row] H Q E :=
  ⟨st, row, rfl, hs, xs, hr, hne, hn.1, hn.2, fun v H' s k hv => h v H' s (kp.trans k) k hv⟩
/-- no integer from low to high -/
def NI (lo hi : Int) (v : V) : Prop := (∃ i, v = .int i ∧ (i < lo ∨ hi < i)) ∨ (∃ b, v = .bl b) ∨ v = .non ∨ ∃ s, v = .str s
def sp_not_integer : Sp := fun vs H Q _ => ∃ (st : Addr) (lo hi : Int), vs = [.ref st, .int lo, .int hi] ∧ Sto H st ∧ ∀ (v : V) (H' : Hp), Sto H' st → Keep st H H' → NI lo hi v → Q v H'
theorem l_not_integer : ∀ vs H Q E, sp_not_integer vs H Q E → vs.length = 3 := fun _ _ _ _ h => by
  obtain ⟨_, _, _, e, _⟩ := h
  rw [e]; rfl
local macro_rules | `(tactic| walk_at "nw") => `(tactic| first
  | with_reducible refine s_seq ?_
  | with_reducible refine s_asg ?_
  | with_reducible refine s_if ?_
  | with_reducible refine s_ret ?_
  | with_reducible refine s_drop ?_
  | with_reducible refine v_var0 ?_
  | with_reducible refine s_name0 ?_
  | with_reducible refine v_aug0 ?_
  | with_reducible refine v_var1 ?_
  | with_reducible refine s_name1 ?_
  | with_reducible refine v_aug1 ?_
  | with_reducible refine v_var2 ?_
  | with_reducible refine s_name2 ?_
  | with_reducible refine v_aug2 ?_
  | with_reducible refine v_var3 ?_
  | with_reducible refine s_name3 ?_
  | with_reducible refine v_aug3 ?_
  | with_reducible refine v_var4 ?_
  | with_reducible refine s_name4 ?_
  | with_reducible refine v_aug4 ?_
  | with_reducible refine v_var5 ?_
  | with_reducible refine s_name5 ?_
  | with_reducible refine v_aug5 ?_
  | with_reducible refine v_var6 ?_
  | with_reducible refine s_name6 ?_
  | with_reducible refine v_aug6 ?_
  | with_reducible refine v_var7 ?_
  | with_reducible refine s_name7 ?_
  | with_reducible refine v_aug7 ?_
  | with_reducible refine v_var8 ?_
  | with_reducible refine s_name8 ?_
  | with_reducible refine v_aug8 ?_
  | with_reducible refine v_var9 ?_
  | with_reducible refine s_name9 ?_
  | with_reducible refine v_aug9 ?_
  | with_reducible refine v_var10 ?_
  | with_reducible refine s_name10 ?_
  | with_reducible refine v_aug10 ?_
  | with_reducible refine v_var11 ?_
  | with_reducible refine s_name11 ?_
  | with_reducible refine v_aug11 ?_
  | with_reducible refine v_var12 ?_
  | with_reducible refine s_name12 ?_
  | with_reducible refine v_aug12 ?_
  | with_reducible refine v_var13 ?_
  | with_reducible refine s_name13 ?_
  | with_reducible refine v_aug13 ?_
  | with_reducible refine v_var14 ?_
  | with_reducible refine s_name14 ?_
  | with_reducible refine v_aug14 ?_
  | with_reducible refine v_var15 ?_
  | with_reducible refine s_name15 ?_
  | with_reducible refine v_aug15 ?_
  | with_reducible refine v_c ?_
  | with_reducible refine v_op ?_
  | with_reducible refine v_cons ?_
  | with_reducible refine v_nil ?_
  | with_reducible refine v_cb ?_
  | with_reducible refine v_call ?_
  | with_reducible refine c_test ?_
  | with_reducible refine c_bl ?_
  | with_reducible refine c_and ?_
  | with_reducible refine c_or ?_
  | with_reducible refine c_not ?_
  | with_reducible refine v_augS ?_
  | with_reducible refine v_sub ?_
  | with_reducible refine add_ii ?_
  | with_reducible refine sub_ii ?_
  | with_reducible refine iadd_ii ?_
  | with_reducible refine lt_ii ?_
  | with_reducible refine le_ii ?_
  | with_reducible refine gt_ii ?_
  | with_reducible refine ge_ii ?_
  | with_reducible refine eq_ii ?_
  | with_reducible refine ne_ii ?_
  | with_reducible refine int_i ?_
  | with_reducible refine abs_i ?_
  | with_reducible refine max_i ?_
  | with_reducible refine min_i ?_
  | with_reducible refine mul_r (by omega) (by omega) ?_
  | with_reducible refine mul_l (by omega) (by omega) ?_
  | with_reducible refine ix_m0 (by assumption) ?_
  | with_reducible refine get_m0 (by assumption) ?_
  | with_reducible refine ix_m1 (by assumption) ?_
  | with_reducible refine get_m1 (by assumption) ?_
  | with_reducible refine ix_m2 (by assumption) ?_
  | with_reducible refine get_m2 (by assumption) ?_
  | with_reducible refine ix_m3 (by assumption) ?_
  | with_reducible refine get_m3 (by assumption) ?_
  | with_reducible refine ix_m4 (by assumption) ?_
  | with_reducible refine get_m4 (by assumption) ?_
  | with_reducible refine ix_m5 (by assumption) ?_
  | with_reducible refine get_m5 (by assumption) ?_
  | (with_reducible refine st_set1 (by assumption) (by assumption) ?_; intro H1 hs1 kp1)
  | (with_reducible refine st_set2 (by assumption) (by assumption) ?_; intro H1 hs1 kp1)
  | (with_reducible refine st_set3 (by assumption) (by assumption) ?_; intro H1 hs1 kp1)
  | (with_reducible refine st_set4 (by assumption) (by assumption) ?_; intro H1 hs1 kp1)
  | (with_reducible refine st_set5 (by assumption) (by assumption) ?_; intro H1 hs1 kp1)
  | with_reducible refine len_m (by assumption) ?_
  | with_reducible refine s_for1 ?_
  | with_reducible refine s_forL ?_
  | with_reducible refine rng1 (by omega) (by omega) ?_
  | with_reducible refine s_next ?_
  | with_reducible refine s_break ?_
  | with_reducible refine s_cont ?_
  | with_reducible refine isi_non_bool ?_
  | with_reducible refine isi_non_int ?_
  | with_reducible refine isi_non_str ?_
  | with_reducible refine isi_non_list ?_
  | with_reducible refine isi_non_tuple ?_
  | with_reducible refine isi_non_dict ?_
  | with_reducible refine isi_non_seq (by assumption) ?_
  | with_reducible refine isi_bl_bool ?_
  | with_reducible refine isi_bl_int ?_
  | with_reducible refine isi_bl_str ?_
  | with_reducible refine isi_bl_list ?_
  | with_reducible refine isi_bl_tuple ?_
  | with_reducible refine isi_bl_dict ?_
  | with_reducible refine isi_bl_seq (by assumption) ?_
  | with_reducible refine isi_int_bool ?_
  | with_reducible refine isi_int_int ?_
  | with_reducible refine isi_int_str ?_
  | with_reducible refine isi_int_list ?_
  | with_reducible refine isi_int_tuple ?_
  | with_reducible refine isi_int_dict ?_
  | with_reducible refine isi_int_seq (by assumption) ?_
  | with_reducible refine isi_str_bool ?_
  | with_reducible refine isi_str_int ?_
  | with_reducible refine isi_str_str ?_
  | with_reducible refine isi_str_list ?_
  | with_reducible refine isi_str_tuple ?_
  | with_reducible refine isi_str_dict ?_
  | with_reducible refine isi_str_seq (by assumption) ?_
  | with_reducible refine isi_lst_bool (by assumption) (by assumption) ?_
  | with_reducible refine isi_lst_int (by assumption) (by assumption) ?_
  | with_reducible refine isi_lst_str (by assumption) (by assumption) ?_
  | with_reducible refine isi_lst_list (by assumption) (by assumption) ?_
  | with_reducible refine isi_lst_tuple (by assumption) (by assumption) ?_
  | with_reducible refine isi_lst_dict (by assumption) (by assumption) ?_
  | with_reducible refine isi_lst_seq (by assumption) (by assumption) (by assumption) ?_
  | with_reducible refine isi_tup_bool (by assumption) (by assumption) ?_
  | with_reducible refine isi_tup_int (by assumption) (by assumption) ?_
  | with_reducible refine isi_tup_str (by assumption) (by assumption) ?_
  | with_reducible refine isi_tup_list (by assumption) (by assumption) ?_
  | with_reducible refine isi_tup_tuple (by assumption) (by assumption) ?_
  | with_reducible refine isi_tup_dict (by assumption) (by assumption) ?_
  | with_reducible refine isi_tup_seq (by assumption) (by assumption) (by assumption) ?_
  | with_reducible refine isi_dK_bool (by assumption) (by assumption) ?_
  | with_reducible refine isi_dK_int (by assumption) (by assumption) ?_
  | with_reducible refine isi_dK_str (by assumption) (by assumption) ?_
  | with_reducible refine isi_dK_list (by assumption) (by assumption) ?_
  | with_reducible refine isi_dK_tuple (by assumption) (by assumption) ?_
  | with_reducible refine isi_dK_dict (by assumption) (by assumption) ?_
  | with_reducible refine isi_dK_seq (by assumption) (by assumption) (by assumption) ?_
  | with_reducible refine eq_bb ?_
  | with_reducible refine eq_ss ?_
  | with_reducible refine ev_isN ?_
  | with_reducible refine ev_tB ?_
  | with_reducible refine ev_and ?_
  | with_reducible refine ev_or ?_
  | with_reducible refine ev_not ?_
  | with_reducible refine c_tru ?_
  | with_reducible refine tru_bl ?_
  | with_reducible refine if_nt ?_
  | with_reducible refine if_nf ?_
  | with_reducible refine tup_new ?_
  | with_reducible refine lst_new ?_
  | with_reducible refine len_ms (by assumption) (by assumption) ?_
  | with_reducible refine len_ts (by assumption) (by assumption) ?_
  | ((with_reducible refine lit_len ?_ ?_); (focus (first | decide | (simp; done) | (simp; omega))))
  | (with_reducible refine new_st (by assumption) (by assumption) ?_; intro q1 H1 hq1 he1 hn1 kp1 hS1 sm1)
  | (with_reducible refine new_same (by assumption) ?_; intro q1 H1 hq1 he1 sm1 hs1)
  | with_reducible refine if_dT rfl ?_
  | ((with_reducible refine if_dF ?_ ?_); focus (intro z; cases z; done))
  | with_reducible refine if_t ?_
  | with_reducible refine if_f ?_
  | ((with_reducible refine c_take (by assumption) (by assumption) ?_ ?_); (focus omega); intro r1 H1 hS1 kp1 h01 h11)
  | with_reducible refine ev_chain ?_
  | ((with_reducible refine c_number (by assumption) (by assumption) ?_ ?_); (focus omega); intro r1 H1 hS1 kp1 h01 h11)
  | ((with_reducible refine c_pick (by assumption) (by assumption) (by assumption) (by assumption) ?_ ?_); (focus (simp; done)); intro r1 H1 hS1 kp1 kk1 h01))
local macro_rules | `(tactic| walk_at "go") => `(tactic| repeat' (first | walk_at "nw" | ((with_reducible refine if_d ?_ ?_) <;> intro c1) | ((with_reducible refine if_nd ?_ ?_) <;> intro c1)))
end NW
namespace NW
open PySem PySem.Spec PyProof.Rows L2
open C8 (tCut pss_cut)
section
variable {X : Cx} {CX : CXT} {x : Str} {C fI : Addr} {k : Nat} {fd : FuncData} {ps : List Str} {sp : Sp} {e : Expr} {es : List Expr} {ta : TA} {p pos : Pos}
theorem pmkN (T : OexC X.K C) (iC : PySem.W.findIn X.K (.ref C) "__init__" = some (some (.ref fI))) (tI : PySem.W.typeIn X.K (.ref fI) = some (.type "function")) (F1 : FnOk X.prog X.w X.K X.mg X.base CX k fI fd ps sp)
    (hr : Room (k + 1) X.A) (hb : Binds X.K fd ps []) (hx : Passes CX X (fun _ _ _ => False)) (hg : Gl X x) (hm : X.mg x = some (.ref C)) (ha : PA X (e :: es) ta) (hdb : (x == ("__debug__" : Str)) = false := by decide)
    (he : starEach (e :: es) X.env = (false, eval e X.env) :: starEach es X.env := by rfl) (hpl : (backTo pos (starEach es X.env)).any (·.1) = false := by rfl) : L2N.PMk X (.Call (.Name x p) (e :: es) [] pos) (tMkO C sp [] ta) := by
  intro pn s0 ρ H0 W I0 h0
  obtain ⟨nm, q, N, bs, bm, sn, sub, ab, col, dd, k0, k1, k2, k3, k5, lC, rb⟩ := T.cls
  refine wpAny_Call_Name_kw (ld_glob I0 hg hm ?_ hdb)
  refine PySem.W.callWith_K (h₀ := X.base) I0.ok.mod.kin T.kC (thn (ha.run pos pn s0 ρ H0 _ I0 h0) fun us s1 hh => ?_) he hpl
  obtain ⟨vs, H1, I1, r1, hz, q1⟩ := hh
  refine ⟨I1.kIn, ?_⟩
  show wpAny _ _ (call (.ref C) us) _ _ _
  obtain ⟨hp, gs, dr, tk, os⟩ := s1
  let a : Addr := hp.objs.size + 1
  have le : hp.objs.size ≤ a := Nat.le_succ _
  have na : H1 a = none := I1.hok.fresh le
  have q2 := q1 a na
  rw [List.append_nil] at q2
  let h2 : Heap := (hp.push (PySem.W.kdv_tup us)).push (PySem.HandSPX.excO C hp.objs.size)
  have up : ∀ b o, hp.get? b = some o → h2.get? b = some o := fun b o z =>
    Heap.get?_push_of_some _ (Heap.get?_push_of_some _ z)
  have ga : h2.get? a = some (PySem.HandSPX.excO C hp.objs.size) := by
    show ((hp.push (PySem.W.kdv_tup us)).push (PySem.HandSPX.excO C hp.objs.size)).get? (hp.objs.size + 1) = _
    heap_get
  have I2 : Inv X pn ρ (upd H1 a (exo a C none)) ⟨h2, gs, dr, tk, os⟩ := I1.laid (t' := tk) up le (exo_ok ga)
  have r2 : Vals (V.ref a :: vs) (Value.ref a :: us) := .cons rfl r1
  have l2 : (Value.ref a :: us).length = ps.length := by
    have z := r2.length
    rw [F1.len _ _ _ _ q2] at z
    exact z.symm
  have lu : us.length ≤ sizeLine := by
    rw [← Paired.length r1, sizeLine_eq]; omega
  have b2 := hb ⟨h2, gs, dr, tk, os⟩ (Value.ref a :: us) I2.kIn (by rw [List.append_nil]; exact l2)
  rw [List.append_nil] at b2
  have run := F1.run _ X.stack _ _ ⟨Value.ref a :: us, []⟩ (Value.ref a :: us) _ _ (fun _ _ _ => False) (hr.make C us []) (I2.env0.make C us []) b2 r2 q2
  refine wpAny_call (PySem.HandSPX.call_own F.excBase_ValueError (fun Y => PySem.HandSPX.refsVE_contains Y bm rb) (I1.kIn _ _ lC) (PySem.W.looks_findIn I1.kIn iC)
    (fun self => PySem.W.bind_fn I1.kIn self tI) lu (codeAny_mono run fun r s3 q3 => ?_))
  cases r with
  | error er => exact hx pn ρ _ _ er s3 I2 q3
  | ok fl =>
    cases fl with
    | ret u =>
      obtain ⟨v, H2, o3, b3, u3, k3', rv, ev, d, fs, ea, ed, nd, q4⟩ := q3
      subst ev
      obtain ⟨h3, g3, d3, t3, os'⟩ := s3
      obtain ⟨t0, G, J, kG, ge, hoe, na2⟩ := mk_end0 (d2 := d3) (t2 := t3) I1 le up u3 k3' o3 b3 ea ed nd
      refine ⟨rv, a, _, _, ⟨G, g3, d3, t3, os'⟩, _, .ref C, some d, rfl, J, kG, ge, hoe, ⟨rfl, rfl, fun vs hv => ?_⟩, rfl, rfl, na2, rfl, b3, raises_own T.exC T.tyC, q4⟩
      cases hv
      rfl
    | next => exact False.elim q3
    | brk => exact False.elim q3
    | cont => exact False.elim q3
end
structure FnHp (P : Program) (w : World) (K : PySem.W.Frag) (mg : Str → Option Value) (base : Heap) (p : Addr × Obj) (k : Nat) (f : Addr) (fd : FuncData) (ps : List Str) (sp : Sp) : Prop where
  len : ∀ vs H Q E, sp vs H Q E → vs.length = ps.length
  run : ∀ (A : Around) (outer : List Env) (s : Shared) (H : Hp) (args : Args) (us : List Value) (vs : List V) (Q : VK), L2H.RoomH k A → L2H.Hot1 A p → L2H.PinOk outer H s p → Env0 P w K mg base A outer s H →
    BindsTo s fd args (ps.zip us) → Vals vs us → sp vs H Q E0 → codeAny (model P w) A (.call (.ref f) args) (CR (L2N.CX P w) outer P w H s Q E0) s
/-- the context of such a body -/
abbrev cxP (P : Program) (w : World) (K : PySem.W.Frag) (mg : Str → Option Value) (base : Heap) (N : List Str) (qual : Str) (scope : Scope) (f : Addr) (cd : Value) (A : Around) (outer : List Env) (s : Shared) (H : Hp) (p : Addr × Obj) : Cx :=
  L2H.cxH (L2N.CX P w) P w K mg base N qual scope f cd A outer s H E0 p
structure HotP (X : Cx) (p : Addr × Obj) : Prop where
  hot : L2H.Hot1 X.A p
  mem : p ∈ X.pn
theorem HotP.c {X : Cx} {p : Addr × Obj} (h : HotP X p) : L2H.HotC X := ⟨p, h.hot, h.mem⟩
structure HasHAt (P : Program) (w : World) (K : PySem.W.Frag) (mg : Str → Option Value) (base : Heap) (p : Addr × Obj) (x : Str) (k : Nat) (ps : List Str) (sp : Sp) (f : Addr) (fd : FuncData) : Prop where
  g : mg x = some (.ref f)
  kp : PySem.W.keepIn K (.ref f) = true
  b : Binds K fd ps []
  ok : FnHp P w K mg base p k f fd ps sp
def HasH (P : Program) (w : World) (K : PySem.W.Frag) (mg : Str → Option Value) (base : Heap) (p : Addr × Obj) (x : Str) (k : Nat) (ps : List Str) (sp : Sp) : Prop := ∃ f fd, HasHAt P w K mg base p x k ps sp f fd
section
variable {P : Program} {w : World} {K : PySem.W.Frag} {mg : Str → Option Value} {base : Heap} {x : Str} {params : Arguments} {body : List Stmt} {scope : Scope} {f : Addr} {N ps : List Str} {k : Nat} {sp : Sp} {p : Addr × Obj}
theorem hasH_of {t : TS} (g : mg x = some (.ref f)) (F : ∃ fd, FunD K x x params body scope [] [] f fd) (S : FnScope N ps scope) (len : ∀ vs H Q E, sp vs H Q E → vs.length = ps.length)
    (bn : ∀ (kV doc pm : Value) (an : Option Addr) (cdv ct : Value) (us : List Value), us.length = ps.length → bindArgs (PySem.W.fnOf x x params body scope .none kV doc pm an cdv ct) ⟨us, []⟩ = pure (ps.zip us))
    (d : ∀ (cdv : Value) (A : Around) (outer : List Env) (s : Shared) (H : Hp), L2H.RoomH k (A.deeper (envOfC x scope s.heap.objs.size f cdv)) → HotP (cxP P w K mg base N x scope f cdv A outer s H p).nox p → PSs (cxP P w K mg base N x scope f cdv A outer s H p).nox body t)
    (pure_ : ∀ vs H Q E, sp vs H Q E → t { nx := fun _ H' => Q .non H', rt := Q } (start N vs) H) : HasH P w K mg base p x (k + 1) ps sp := by
  obtain ⟨fd, F⟩ := F
  have b := F.bindsN bn
  have kp := F.kp
  obtain ⟨oc, od, dV, kV, doc, pm, an, cdv, ct, osl, efd, lk, hcd, dflt, _⟩ := F.ex
  subst efd
  refine ⟨f, _, g, kp, b, len, fun A outer s H args us vs Q room hot pin e0 bt rv hsp => ?_⟩
  have n1 := len _ _ _ _ hsp
  have KX : K.In s.heap := e0.mod.kin.keeps fun b o z => (e0.bs b o z).1
  have nol : s.heap.NoLimit := e0.mod.nolimit.keeps fun b o z => (e0.bs b o z).1
  have kinds : ∀ y ∈ ps.zip us, scope.names.lookup y.1 = some .local ∨
      (scope.names.lookup y.1 = some .cell ∧ ((cellsFrom (s.heap.objs.size + 1) scope.names []).lookup y.1).isSome = true) := fun ⟨n, v⟩ hy => by
    cases S.par n (List.of_mem_zip hy).1 with
    | inl z => exact .inl z
    | inr z => exact .inr ⟨z, PySem.W.cellsFrom_some _ _ _ (.inl z)⟩
  have crec := PySem.W.codeRec_of KX hcd
  refine codeAny_call_function room.depth (KX _ _ lk) rfl S.co S.gen rfl crec (bt _ _ _ _ ?_)
  refine wpAny_newFunctionEnv_cells S.kind kinds fun env henv s1 ic => ?_
  subst henv
  refine ⟨nol.keeps ic.toInCall.keep, codeAny_func ?_⟩
  have I : Inv (cxP P w K mg base N x scope f cdv A outer s H p) [] (start N vs) H s1 := L2H.inv_startH S pin e0 n1 rv ic
  have q := pure_ vs H Q E0 hsp
  have body_ := (d cdv A outer s H (room.deeper _) ⟨hot, List.mem_singleton.mpr rfl⟩).nox
  refine wpAny_mono (body_.run [] s1 (start N vs) H _ I q) (fun fl s' z => ?_) fun _ _ z => z
  cases fl with
  | ret u =>
    obtain ⟨v, σ', H', J, r, q'⟩ := z
    exact ⟨v, H', J.os, J.bare, J.base, J.hok, r, q'⟩
  | next =>
    obtain ⟨σ', H', J, q'⟩ := z
    exact ⟨V.non, H', J.os, J.bare, J.base, J.hok, rfl, q'⟩
  | brk =>
    obtain ⟨_, _, _, z⟩ := z
    exact z.elim
  | cont =>
    obtain ⟨_, _, _, z⟩ := z
    exact z.elim
end
section
variable {X : Cx} {k j : Nat} {ps : List Str} {sp : Sp} {x : Str} {q pos : Pos} {e : Expr} {es : List Expr} {t : TA} {p : Addr × Obj}
theorem pe_hc (h : HasH X.prog X.w X.K X.mg X.base p x k ps sp) (hr : L2H.RoomH j X.A) (hp : HotP X p) (ha : PA X (e :: es) t) (hk : k ≤ j := by decide) (hg : Gl X x := by rfl) (hdb : (x == ("__debug__" : Str)) = false := by decide)
    (he : starEach (e :: es) X.env = (false, eval e X.env) :: starEach es X.env := by rfl) (hpl : (backTo pos (starEach es X.env)).any (·.1) = false := by rfl) : PE X (.Call (.Name x q) (e :: es) [] pos) (tCall sp [] E0 t) := by
  obtain ⟨f, fd, F⟩ := h
  refine ⟨fun pn s0 ρ H0 W I0 h0 => ?_⟩
  refine wpAny_Call_Name_kw (ld_glob I0 hg F.g ?_ hdb)
  refine PySem.W.callWith_K (h₀ := X.base) I0.ok.mod.kin F.kp (thn (ha.run pos pn s0 ρ H0 _ I0 h0) fun us s1 hh => ?_) he hpl
  obtain ⟨vs, H1, I1, r1, q1⟩ := hh
  refine ⟨I1.kIn, ?_⟩
  have q2 : sp vs H1 W E0 := by
    have z : sp (vs ++ []) H1 W E0 := q1
    rwa [List.append_nil] at z
  have n1 : us.length = ps.length := by
    rw [← r1.length]
    exact F.ok.len _ _ _ _ q2
  have b := F.b s1 us I1.kIn (by rw [List.append_nil]; exact n1)
  rw [List.append_nil] at b
  obtain ⟨p1, p2, p3, p4, p5⟩ := I1.pin p (List.mem_append_left _ hp.mem)
  have pin : L2H.PinOk X.stack H1 s1 p := ⟨p1, p2, fun z => by
    cases List.mem_cons.mp (I1.stkSub p.1 z) with
    | inl z => exact p3 z
    | inr z => exact p4 z, p5⟩
  refine wpAny_call (codeAny_mono (F.ok.run X.A X.stack s1 H1 ⟨us, []⟩ us vs W (hr.mono hk) hp.hot pin I1.env0 b r1 q2) fun r s3 q3 => ?_)
  cases r with
  | error er => exact passN pn ρ H1 s1 er s3 I1 q3
  | ok fl =>
    cases fl with
    | ret u => exact I1.after q3
    | next => exact q3.elim
    | brk => exact q3.elim
    | cont => exact q3.elim
end
end NW
namespace NW
open PySem PySem.Spec PyProof.Rows L2
open C8 (tCut pss_cut)
section
variable {prog : Program} {w : World} {A : Around} {E : Value → Shared → Prop} {s : Shared}
theorem end_hot {I l x1 : Addr} {i : Nat} {items : Array Value} {Q : Option Value → Shared → Prop} (hot : HotX.HotAt A x1 s.heap) (hI : s.heap.IsListIter I l i) (hl : s.heap.IsList l items) (he : items[i]? = none) (hne : x1 ≠ I)
    (hQ : ∀ h', (∀ b o, b ≠ I → s.heap.get? b = some o → h'.get? b = some o) → Q none { s with heap := h' }) : wpAny (model prog w) A (pyNext (.ref I)) Q E s := by
  obtain ⟨hh, o1, v1, a1, a2, a3⟩ := hot
  obtain ⟨oi, gi, ci, di⟩ := id hI
  obtain ⟨ol, gl, cl, nl, dl⟩ := hl
  unfold pyNext
  refine wpAny_bind (wpAny_attempt (wpAny_callSpecial?_slot (name := Str.ofString "__next__") hI.typeIs slot_listiter_next (wpAny_call_entry slot_listiter_next hI.typeIs entry_listiter_next ?_ (args_listiter_next _))))
  show wpAny _ _ (field (.ref I) 0 >>= _) _ _ s
  refine wpAny_bind (wpAny_field gi di (x := .ref l) rfl ?_)
  show wpAny _ _ (if (Value.ref l == Value.none) = true then _ else _) _ _ s
  rw [if_neg (by exact Bool.false_ne_true)]
  show wpAny _ _ (field (.ref I) 1 >>= _) _ _ s
  refine wpAny_bind (wpAny_field gi di (x := .int i 0) rfl ?_)
  show wpAny _ _ (seqItems? (.ref l) >>= _) _ _ s
  refine wpAny_bind (wpAny_seqItems gl dl ?_)
  simp only [Int.toNat_natCast, he]
  refine wpAny_bind (wpAny_rule (wpAny_bind (wpAny_setField gi di (by simp) ?_)))
  show wpAny _ _ (newExc (.type "StopIteration") [] >>= _) _ _ _
  refine wpAny_bind ?_
  simp only [newExc, newTuple]
  refine wpAny_bind (wpAny_newObj_type ?_ (by size_fits))
  refine wpAny_bind (m := firstArgMember _ _) (wpAny_of_eq (a := Value.none) (by first | rfl | (simp only [firstArgMember]; rfl)) ?_)
  refine wpAny_newObj_type ?_ (by size_fits)
  have keep : ∀ {b : Addr} {o : Obj}, b ≠ I → s.heap.get? b = some o → (s.heap.update I (Obj.mapFields (·.setIfInBounds 0 .none))).get? b = some o := fun {b o} n z => by
    rw [Heap.get?_update_other _ _ (Ne.symm n)]; exact z
  have lt1 : x1 < (s.heap.update I (Obj.mapFields (·.setIfInBounds 0 .none))).objs.size := Heap.lt_size (keep hne a1)
  refine HotX.raiseNew_hot ⟨hh, o1, v1, Heap.get?_push_of_some _ (Heap.get?_push_of_some _ (keep hne a1)), a2, a3⟩ (Nat.ne_of_lt (Heap.lt_size (Heap.get?_push_of_some _ (keep hne a1)))) (Heap.get?_push_size _ rfl) rfl
    (by first | (simp; done) | (simp; omega)) ?_
  refine wpAny_bind (wpAny_isInstance (T := "StopIteration") (b := true) ⟨_, Heap.get?_update_self _ (Heap.get?_push_size _ rfl) rfl, rfl⟩ isSubtype_stop ?_)
  refine wpAny_pure (hQ _ fun b o n z => ?_)
  have z2 := Heap.get?_push_of_some ({ cls := .type "tuple", data := .seq ([] : List Value).toArray } : Obj) (keep n z)
  rw [Heap.get?_update_other _ _ (Nat.ne_of_gt (Heap.lt_size (Heap.get?_push_of_some _ (keep n z))))]
  exact Heap.get?_push_of_some _ (Heap.get?_push_of_some _ (keep n z))
end
section
variable {prog : Program} {w : World} {A : Around} {target : Expr}
/-- a list's iterator while the error at p is handled -/
theorem goesHot {p : Addr × Obj} (hot : L2H.Hot1 A p) (I l : Addr) (hne : l ≠ I) (hp : p.1 ≠ I) (items : Array Value) :
    Goes prog w A target I [I, l, p.1] [I] items.size (fun i v _ => items[i]? = some v) (fun i h => h.IsListIter I l i ∧ h.IsList l items ∧ h.get? p.1 = some p.2) where
  sub := fun b hb => by
    rw [List.mem_singleton.mp hb]
    exact List.mem_cons_self
  frame := fun i h h' st k => ⟨st.1.at fun o z => k _ (by simp) o z, st.2.1.at fun o z => k _ (by simp) o z, k _ (by simp) _ st.2.2⟩
  goes := fun i s Q E hi st hQ => by
    have hx : items[i]? = some items[i] := Array.getElem?_eq_getElem hi
    refine wpAny_pyNext_list_item st.1 st.2.1 hx fun h' st' sb => ⟨_, rfl, ?_⟩
    obtain ⟨o, ho, hc, hd⟩ := id st'
    refine letGo_of_cls ho hc hd (by decide) ?_
    refine hQ _ h' s.toks hx ⟨st', st.2.1.at fun o z => (sb.2 _ hne).trans z, (sb.2 _ hp).trans st.2.2⟩ (fun b o hb z => (sb.2 b (fun e => hb (by rw [e]; exact List.mem_singleton.mpr rfl))).trans z) (Nat.le_refl _)
  stops := fun s Q E st hQ => by
    obtain ⟨hh, vs, e1, e2⟩ := hot
    refine end_hot ⟨hh, p.2, vs, st.2.2, e1, e2⟩ st.1 st.2.1 (Array.getElem?_eq_none (Nat.le_refl _)) hp fun h' k => ⟨rfl, ?_⟩
    exact hQ h' s.toks (fun b o hb z => k b o (fun e => hb (by rw [e]; exact List.mem_singleton.mpr rfl)) z) (Nat.le_refl _)
  self := fun i s Q E st h => by
    obtain ⟨o, ho, hc, hd⟩ := id st.1
    exact wpAny_pyIter_listiter st.1 h
end
end NW
namespace NW
open PySem PySem.Spec PyProof.Rows L2
open C8 (tCut pss_cut)
/-- rows: pairs of a text and a bool -/
inductive RowsAt (H : Hp) : List V → List (Str × Bool) → Prop where
  | nil : RowsAt H [] []
  | cons {t : Addr} {n : Str} {b : Bool} {vs : List V} {rs : List (Str × Bool)} : H t = some (.tup [.str n, .bl b]) → RowsAt H vs rs → RowsAt H (.ref t :: vs) ((n, b) :: rs)
theorem RowsAt.mono {H H' : Hp} (s : Same H H') : ∀ {vs : List V} {rs : List (Str × Bool)}, RowsAt H vs rs → RowsAt H' vs rs
  | _, _, .nil => .nil
  | _, _, .cons h t => .cons (s _ _ h) (RowsAt.mono s t)
theorem RowsAt.append {H : Hp} : ∀ {vs vs' : List V} {rs rs' : List (Str × Bool)}, RowsAt H vs rs → RowsAt H vs' rs' → RowsAt H (vs ++ vs') (rs ++ rs')
  | _, _, _, _, .nil, b => b
  | _, _, _, _, .cons h t, b => .cons h (RowsAt.append t b)
theorem RowsAt.at {H : Hp} : ∀ {vs : List V} {rs : List (Str × Bool)} {i : Nat} {v : V}, RowsAt H vs rs → vs[i]? = some v → ∃ t n b, v = .ref t ∧ rs[i]? = some (n, b) ∧ H t = some (.tup [.str n, .bl b])
  | _, _, _, _, .nil, h => by simp at h
  | _, _, 0, _, .cons h _, e => by
    have z := Option.some.inj e
    exact ⟨_, _, _, z.symm, rfl, h⟩
  | _, _, i + 1, _, .cons _ t, e => RowsAt.at (i := i) t e
theorem RowsAt.len {H : Hp} : ∀ {vs : List V} {rs : List (Str × Bool)}, RowsAt H vs rs → vs.length = rs.length
  | _, _, .nil => rfl
  | _, _, .cons _ t => congrArg (· + 1) (RowsAt.len t)
/-- the texts whose bool is True -/
def sel (rs : List (Str × Bool)) : List V := (rs.filter (·.2)).map fun r => .str r.1
def tSel (tl : TE) : TE := fun σ H Q => tl σ H fun x H1 => ∃ (l : Addr) (vs : List V) (rs : List (Str × Bool)), x = .ref l ∧ H1 l = some (.lst vs) ∧ RowsAt H1 vs rs ∧ ∀ D, H1 D = none → Q (.ref D) (upd H1 D (.lst (sel rs)))
theorem sel_snoc {rs : List (Str × Bool)} {i : Nat} {n : Str} {b : Bool} (h : rs[i]? = some (n, b)) : sel (rs.take (i + 1)) = if b = true then sel (rs.take i) ++ [.str n] else sel (rs.take i) := by
  have e : rs.take (i + 1) = rs.take i ++ [(n, b)] := by
    rw [List.take_add_one, h]; rfl
  unfold sel
  rw [e, List.filter_append, List.map_append]
  cases b <;> simp
theorem neA {b N C : Nat} (hb : b < N + 1) (hC : N + 1 ≤ C) : b ≠ C := by omega
theorem offA {b N C D : Nat} (hb : b < N ∨ b = C) (hC : N + 1 ≤ C) (hD : N + 1 ≤ D) (h : D ≠ C) : ¬ (b = D ∨ b = N) := by omega
section
variable {X : Cx} {p : Addr × Obj} {iter : Expr} {tl : TE} {scope : Scope} {pos p1 p2 p3 p4 p5 p6 p7 : Pos} {k1 k2 : Nat}
theorem pe_sel (hp : HotP X p) (hi : PE X iter tl) (hclos : ∀ env : Env, closureFor scope env = pure []) (hcell : ∀ y ∈ scope.names, y.2 ≠ .cell) (hkind : scope.kind = .function) (hnames : ∀ y ∈ scope.names, y.2 = .local → scope.names.lookup y.1 = some .local)
    (hx : scope.names.lookup ("row" : Str) = some .local) (hs : ∀ x, foldedSetIterable iter X.env x = pure x := by intro _; rfl) :
    PE X (.ListComp (.Subscript (.Name "row" p1) (.Constant (.int 0) k1 p2) p3) [⟨.Name "row" p4, iter, [.Subscript (.Name "row" p5) (.Constant (.int 1) k2 p6) p7], 0⟩] scope pos) (tSel tl) := by
  refine ⟨fun pn s0 σ H0 Q I0 h0 => ?_⟩
  refine ListComp_goes (cl := []) (hclos X.env) hcell hkind hnames (thn (hi.run pn s0 σ H0 _ I0 h0) fun xv s hh => ?_) hs
  obtain ⟨x, H, I, rx, l, vs, rs, ex, hl, hr, q⟩ := hh
  subst ex
  obtain rfl : xv = Value.ref l := rx
  obtain ⟨its, rv, pl, hz⟩ := I.list (SqL.of hl)
  have lenI := rv.length
  refine wpAny_pyIter_list pl.isList ?_
  have hll : l < s.heap.objs.size := by
    obtain ⟨o, n, ho, _⟩ := pl
    exact Heap.lt_size ho
  obtain ⟨gp, fp, _, _, _⟩ := I.pin p (List.mem_append_left _ hp.mem)
  have hpp : p.1 < s.heap.objs.size := Heap.lt_size gp
  have hsz : its.toArray.size = its.length := List.size_toArray ..
  refine ⟨s.heap.objs.size, _, _, its.toArray.size, _, _, rfl, goesHot hp.hot s.heap.objs.size l (Nat.ne_of_lt hll) (Nat.ne_of_lt hpp) its.toArray, by omega, ⟨⟨_, Heap.get?_push_size _ rfl, rfl, rfl⟩, pl.isList.push _, Heap.get?_push_of_some _ gp⟩, ?_, fun D C s₃ hB => ?_⟩
  · intro b hb
    show b < (s.heap.push _).objs.size
    rw [Heap.size_push]
    rcases List.mem_cons.mp hb with e | hb
    · rw [e]; exact Nat.lt_succ_self _
    rcases List.mem_cons.mp hb with e | hb
    · rw [e]; exact Nat.lt_succ_of_lt hll
    rw [List.mem_singleton.mp hb]; exact Nat.lt_succ_of_lt hpp
  · obtain ⟨⟨h₃, tk₃, rfl⟩, old, nD, nC, hDC, hnm⟩ := hB
    have nC' : (s.heap.objs.size + 1 : Nat) ≤ C := by
      have z : (s.heap.push { cls := .type "list_iterator", data := .fields #[.ref l, .int 0 0] }).objs.size ≤ C := nC
      rwa [Heap.size_push] at z
    have nD' : (s.heap.objs.size + 1 : Nat) ≤ D := by
      have z : (s.heap.push { cls := .type "list_iterator", data := .fields #[.ref l, .int 0 0] }).objs.size ≤ D := nD
      rwa [Heap.size_push] at z
    have kx : (compEnvC scope [] C X.env).kindOf "row" = some .local := lookup_relabel_local hx
    have hpc : ((compEnvC scope [] C X.env).scope.kind == .class || ((compEnvC scope [] C X.env).scope.kind == .module && (compEnvC scope [] C X.env).locals != (compEnvC scope [] C X.env).globals)) = false := by
      show (scope.kind == .class || (scope.kind == .module && _)) = false
      rw [hkind]; rfl
    have offC : ∀ b : Addr, b < s.heap.objs.size + 1 → b ≠ C := fun b hb => neA hb nC'
    refine ⟨fun i ys s₁ => ∃ h' tk m, s₁ = { s with heap := h', toks := tk } ∧ h'.Ns C m ∧ Vals (sel (rs.take i)) ys ∧ ∀ b o, s.heap.get? b = some o → h'.get? b = some o,
      ⟨h₃, tk₃, _, rfl, hnm, by simpa [sel] using Paired.nil, fun b o e => old b o (Heap.get?_push_of_some _ e)⟩, ?_, ?_, ?_⟩
    · rintro i ys s₁ h' tk ⟨h₄, tk₄, m, rfl, n₄, e₄, k₄⟩ hk' _
      have off : ∀ b : Addr, (b < s.heap.objs.size ∨ b = C) → b ∉ D :: [s.heap.objs.size] := fun b hb hm => offA hb nC' nD' hDC (by simpa using hm)
      exact ⟨h', tk, m, rfl, n₄.at' fun o e => hk' _ o (off _ (.inr rfl)) e, e₄, fun b o e => hk' b o (off _ (.inl (Heap.lt_size e))) (k₄ b o e)⟩
    · rintro i v ys s₁ hi' hv st ⟨h₄, tk₄, m, rfl, n₄, e₄, k₄⟩ hpl
      have hv' : its[i]? = some v := by simpa using hv
      have hvx : vs[i]? = some vs[i] := List.getElem?_eq_getElem (by omega)
      obtain ⟨u, hu, ru⟩ := rv.get hvx
      rw [hv'] at hu
      obtain rfl : v = u := Option.some.inj hu
      obtain ⟨t, n, b, et, hrs, ht⟩ := hr.at hvx
      rw [et] at ru
      obtain rfl : v = Value.ref t := ru
      obtain ⟨tz, tits, tv, tt⟩ : [V.str n, V.bl b].length ≤ sizeLine ∧ ∃ its : List Value, Vals [V.str n, V.bl b] its ∧ IsTup s.heap t its.toArray := I.hok t _ ht
      obtain ⟨u0, u1, rfl, ⟨tk0, rfl⟩, rfl⟩ : ∃ u0 u1, tits = [u0, u1] ∧ (∃ k, u0 = Value.str n k) ∧ u1 = Value.bool b := by
        cases tv with
        | cons r1 r2 =>
          cases r2 with
          | cons r2 r3 =>
            cases r3
            exact ⟨_, _, rfl, r1, r2⟩
      have htl : t < s.heap.objs.size := tt.lt
      refine wpAny_assign_Name (wpAny_storeName_local kx n₄ (fun h₅ n₅ s₅ => ?_) hpc)
      have keep5 : ∀ b o, s.heap.get? b = some o → h₅.get? b = some o := fun b o e => s₅.extBut b o (offC b (Nat.lt_succ_of_lt (Heap.lt_size e))) (k₄ b o e)
      have t5 : IsTup h₅ t #[.str n tk0, .bool b] := by
        obtain ⟨o, ho, c1, c2⟩ := tt
        exact ⟨o, keep5 _ _ ho, c1, c2⟩
      have st5 : (h₅.IsListIter s.heap.objs.size l (i + 1) ∧ h₅.IsList l its.toArray ∧ h₅.get? p.1 = some p.2) :=
        ⟨st.1.at fun o e => s₅.extBut _ o (offC _ (Nat.lt_succ_self _)) e, st.2.1.at fun o e => s₅.extBut _ o (offC _ (Nat.lt_succ_of_lt hll)) e, s₅.extBut _ _ (offC _ (Nat.lt_succ_of_lt hpp)) st.2.2⟩
      have pl5 : h₅.PlainList D ys.toArray := hpl.extBut s₅.extBut hDC
      have item : ∀ {E : Value → Shared → Prop} {Q' : Value → Shared → Prop} {q1 q2 q3 : Pos} {kk : Nat} (j : Nat) (r : Value) (tk : Nat), j < 2 → [Value.str n tk0, Value.bool b][j]? = some r → (∀ tk', Q' r { s with heap := h₅, toks := tk' }) →
          wpAny (model X.prog X.w) X.A (eval (.Subscript (.Name "row" q1) (.Constant (.int (j : Int)) kk q2) q3) (compEnvC scope [] C X.env)) Q' E { s with heap := h₅, toks := tk } := by
        intro E Q' q1 q2 q3 kk j r tk hj hr' hq
        refine Subscript_ ?_
        rw [eval_Name _ _ _ (by decide)]
        refine wpAny_bind (wpAny_standAt (wpAny_loadName_local hkind kx n₅ (v := Value.ref t) (if_pos rfl) ?_))
        refine wpAny_Constant_int ?_
        refine item_tuple (j := j) t5 (by omega) (by omega) ?_ (by simpa using hr') (hq _)
        rw [seqIndex_of (by omega) (by simpa using (by omega : (j : Int) < 2))]
        rfl
      refine wpAny_tests_one (isTrue_plain (item 1 _ _ (by decide) rfl fun tk1 => wpAny_truthy_bool ?_))
      have snoc := sel_snoc hrs
      cases b with
      | false =>
        rw [if_neg Bool.false_ne_true] at snoc ⊢
        exact ⟨⟨h₅, _, _, rfl, n₅, by rw [snoc]; exact e₄, keep5⟩, st5, pl5⟩
      | true =>
        rw [if_pos rfl] at snoc ⊢
        refine item 0 _ _ (by decide) rfl fun tk2 => ⟨⟨h₅, _, _, rfl, n₅, ?_, keep5⟩, st5, pl5⟩
        rw [snoc]
        exact e₄.append (.cons ⟨_, rfl⟩ .nil)
    · rintro ys s₁ ⟨h₄, tk₄, m, rfl, n₄, e₄, k₄⟩ hpl
      refine ⟨m, n₄, fun h' hs' => ?_⟩
      have keep6 : ∀ b o, s.heap.get? b = some o → h'.get? b = some o := fun b o e => hs'.extBut b o (offC b (Nat.lt_succ_of_lt (Heap.lt_size e))) (k₄ b o e)
      have pl6 : h'.PlainList D ys.toArray := hpl.extBut hs'.extBut hDC
      have full : rs.take its.toArray.size = rs := List.take_of_length_le (by rw [hsz, ← lenI, hr.len]; exact Nat.le_refl _)
      rw [full] at e₄
      have nd : s.heap.objs.size ≤ D := Nat.le_trans (Nat.le_succ _) nD'
      obtain ⟨nn, gD⟩ := pl6
      refine ⟨.ref D, _, I.laid (t' := tk₄) (a := D) (o := .lst (sel rs)) keep6 nd ⟨?_, ys, nn, e₄, gD⟩, rfl, q D (I.hok.fresh nd)⟩
      have z : (sel rs).length ≤ rs.length := by
        unfold sel
        rw [List.length_map]
        exact List.length_filter_le _ _
      rw [← hr.len] at z
      omega
end
def rIsP (K : PySem.W.Frag) (D a : Addr) (d : Option Addr) : List V → Hp → VK → Prop := fun xs H Q => ∃ (c : V) (cv : Value) (b : Bool), xs = [.ref a, c] ∧ ClsV c cv ∧ (∀ dd, d = some dd → ∃ fs, H dd = some (.xd fs)) ∧ PySem.W.kitOne K (.ref D) cv = some b ∧ Q (.bl b) H
theorem call_isP {X : Cx} {D : Addr} {d : Option Addr} {p : Addr × Obj} (C : ExcC X.K D) (hp : p ∈ X.pn) (hz : Zc (.ref D) d p.2) (hf : ∃ vs, p.2.data = .fields vs) : CallR X (.builtin "isinstance") (rIsP X.K D p.1 d) := by
  intro pn s ρ H xs us Q I r h
  obtain ⟨c, cv, b, ex, hc, hd, e, q⟩ := h
  subst ex
  cases r with
  | cons rx rr =>
    cases rr with
    | cons rt rr =>
      cases rr
      cases rx
      have ec := hc.eq rt
      subst ec
      obtain ⟨g, _⟩ := I.pin p (List.mem_append_left _ hp)
      obtain ⟨vs, hv⟩ := hf
      have od : ∃ od : Option Obj, PySem.W.InstAt s.heap p.1 p.2 D od := by
        cases d with
        | none => exact ⟨none, g, hz.1, by unfold PySem.W.notCls; rw [hv] <;> rfl, by rw [hz.2]; trivial⟩
        | some dd =>
          obtain ⟨fs, hfs⟩ := hd dd rfl
          obtain ⟨mA, hns, _⟩ : ∃ mA, s.heap.Ns1 dd mA ∧ ∀ f, RelO (fs.lookup f) (mA f) := I.hok dd _ hfs
          obtain ⟨o, ho, _⟩ := lookIn_ns hns
          exact ⟨some o, g, hz.1, by unfold PySem.W.notCls; rw [hv] <;> rfl, by rw [hz.2]; exact ho⟩
      obtain ⟨od, J⟩ := od
      obtain ⟨cdD, hcD, _⟩ := PySem.W.any_some C.hd
      exact PySem.W.kia_one (PySem.W.kitx_exc (by rw [hcD]; rfl) C.hg C.hk C.hs C.ha C.hn C.ht C.hm) I.kIn J e (fun z => nomatch z) fun tk => ⟨.bl b, H, I.kept (t' := tk) fun _ _ z => z, rfl, q⟩
end NW
namespace NW
open PySem PySem.Spec PyProof.Rows L2
open C8 (tCut pss_cut)
/-- what isinstance says of an error of the class at E -/
structure KitF (K : PySem.W.Frag) (E : Addr) (b : Str → Bool) : Prop where
  v : PySem.W.kitOne K (.ref E) (.type "ValueError") = some (b "ValueError")
  c : ∀ n ∈ errN1 ++ errN2, PySem.W.kitOne K (.ref E) (.ref (He.ga K n)) = some (b n)
def t_kinds (K : PySem.W.Frag) (E a : Addr) (d : Option Addr) : TS :=
  (tSeq (tAsg (tLst (tCons (tTup (tCons (tC (.str "ValueError")) (tCons (tCB (rIsP K E a d) (tCons (tVar 0) (tCons (tC (.ty "ValueError")) tNil))) tNil))) (tCons (tTup (tCons (tC (.str "NestError")) (tCons (tCB (rIsP K E a d) (tCons (tVar 0) (tCons (tC (.ref (He.ga K "NestError"))) tNil))) tNil))) tNil))) (gName 1))
    (tSeq (tAsg (tOp aAdd (tVar 1) (tLst (tCons (tTup (tCons (tC (.str "Refusal")) (tCons (tCB (rIsP K E a d) (tCons (tVar 0) (tCons (tC (.ref (He.ga K "Refusal"))) tNil))) tNil))) (tCons (tTup (tCons (tC (.str "BadName")) (tCons (tCB (rIsP K E a d) (tCons (tVar 0) (tCons (tC (.ref (He.ga K "BadName"))) tNil))) tNil))) tNil)))) (gName 1))
    (tSeq (tAsg (tOp aAdd (tVar 1) (tLst (tCons (tTup (tCons (tC (.str "BadWeight")) (tCons (tCB (rIsP K E a d) (tCons (tVar 0) (tCons (tC (.ref (He.ga K "BadWeight"))) tNil))) tNil))) (tCons (tTup (tCons (tC (.str "BadNumber")) (tCons (tCB (rIsP K E a d) (tCons (tVar 0) (tCons (tC (.ref (He.ga K "BadNumber"))) tNil))) tNil))) tNil)))) (gName 1))
    (tSeq (tAsg (tOp aAdd (tVar 1) (tLst (tCons (tTup (tCons (tC (.str "BadCount")) (tCons (tCB (rIsP K E a d) (tCons (tVar 0) (tCons (tC (.ref (He.ga K "BadCount"))) tNil))) tNil))) (tCons (tTup (tCons (tC (.str "Twice")) (tCons (tCB (rIsP K E a d) (tCons (tVar 0) (tCons (tC (.ref (He.ga K "Twice"))) tNil))) tNil))) tNil)))) (gName 1))
    (tSeq (tAsg (tOp aAdd (tVar 1) (tLst (tCons (tTup (tCons (tC (.str "Unknown")) (tCons (tCB (rIsP K E a d) (tCons (tVar 0) (tCons (tC (.ref (He.ga K "Unknown"))) tNil))) tNil))) (tCons (tTup (tCons (tC (.str "NoHolder")) (tCons (tCB (rIsP K E a d) (tCons (tVar 0) (tCons (tC (.ref (He.ga K "NoHolder"))) tNil))) tNil))) tNil)))) (gName 1))
    (tSeq (tAsg (tOp aAdd (tVar 1) (tLst (tCons (tTup (tCons (tC (.str "Loop")) (tCons (tCB (rIsP K E a d) (tCons (tVar 0) (tCons (tC (.ref (He.ga K "Loop"))) tNil))) tNil))) (tCons (tTup (tCons (tC (.str "Short")) (tCons (tCB (rIsP K E a d) (tCons (tVar 0) (tCons (tC (.ref (He.ga K "Short"))) tNil))) tNil))) tNil)))) (gName 1))
    (tSeq (tAsg (tOp aAdd (tVar 1) (tLst (tCons (tTup (tCons (tC (.str "BadText")) (tCons (tCB (rIsP K E a d) (tCons (tVar 0) (tCons (tC (.ref (He.ga K "BadText"))) tNil))) tNil))) (tCons (tTup (tCons (tC (.str "OtherYard")) (tCons (tCB (rIsP K E a d) (tCons (tVar 0) (tCons (tC (.ref (He.ga K "OtherYard"))) tNil))) tNil))) tNil)))) (gName 1))
    (tSeq (tAsg (tOp aAdd (tVar 1) (tLst (tCons (tTup (tCons (tC (.str "Same")) (tCons (tCB (rIsP K E a d) (tCons (tVar 0) (tCons (tC (.ref (He.ga K "Same"))) tNil))) tNil))) (tCons (tTup (tCons (tC (.str "Inside")) (tCons (tCB (rIsP K E a d) (tCons (tVar 0) (tCons (tC (.ref (He.ga K "Inside"))) tNil))) tNil))) tNil)))) (gName 1))
    (tSeq (tAsg (tOp aAdd (tVar 1) (tLst (tCons (tTup (tCons (tC (.str "Unlike")) (tCons (tCB (rIsP K E a d) (tCons (tVar 0) (tCons (tC (.ref (He.ga K "Unlike"))) tNil))) tNil))) (tCons (tTup (tCons (tC (.str "Nailed")) (tCons (tCB (rIsP K E a d) (tCons (tVar 0) (tCons (tC (.ref (He.ga K "Nailed"))) tNil))) tNil))) tNil)))) (gName 1))
    (tSeq (tAsg (tOp aAdd (tVar 1) (tLst (tCons (tTup (tCons (tC (.str "Sealed")) (tCons (tCB (rIsP K E a d) (tCons (tVar 0) (tCons (tC (.ref (He.ga K "Sealed"))) tNil))) tNil))) (tCons (tTup (tCons (tC (.str "Idle")) (tCons (tCB (rIsP K E a d) (tCons (tVar 0) (tCons (tC (.ref (He.ga K "Idle"))) tNil))) tNil))) tNil)))) (gName 1))
    (tSeq (tAsg (tOp aAdd (tVar 1) (tLst (tCons (tTup (tCons (tC (.str "Broken")) (tCons (tCB (rIsP K E a d) (tCons (tVar 0) (tCons (tC (.ref (He.ga K "Broken"))) tNil))) tNil))) (tCons (tTup (tCons (tC (.str "NotComing")) (tCons (tCB (rIsP K E a d) (tCons (tVar 0) (tCons (tC (.ref (He.ga K "NotComing"))) tNil))) tNil))) tNil)))) (gName 1))
    (tSeq (tAsg (tOp aAdd (tVar 1) (tLst (tCons (tTup (tCons (tC (.str "Unbalanced")) (tCons (tCB (rIsP K E a d) (tCons (tVar 0) (tCons (tC (.ref (He.ga K "Unbalanced"))) tNil))) tNil))) (tCons (tTup (tCons (tC (.str "TooMany")) (tCons (tCB (rIsP K E a d) (tCons (tVar 0) (tCons (tC (.ref (He.ga K "TooMany"))) tNil))) tNil))) tNil)))) (gName 1))
    (tSeq (tAsg (tOp aAdd (tVar 1) (tLst (tCons (tTup (tCons (tC (.str "BadWish")) (tCons (tCB (rIsP K E a d) (tCons (tVar 0) (tCons (tC (.ref (He.ga K "BadWish"))) tNil))) tNil))) (tCons (tTup (tCons (tC (.str "Clash")) (tCons (tCB (rIsP K E a d) (tCons (tVar 0) (tCons (tC (.ref (He.ga K "Clash"))) tNil))) tNil))) tNil)))) (gName 1))
    (tSeq (tAsg (tOp aAdd (tVar 1) (tLst (tCons (tTup (tCons (tC (.str "OtherDoors")) (tCons (tCB (rIsP K E a d) (tCons (tVar 0) (tCons (tC (.ref (He.ga K "OtherDoors"))) tNil))) tNil))) (tCons (tTup (tCons (tC (.str "NoStory")) (tCons (tCB (rIsP K E a d) (tCons (tVar 0) (tCons (tC (.ref (He.ga K "NoStory"))) tNil))) tNil))) tNil)))) (gName 1))
    (tSeq (tAsg (tOp aAdd (tVar 1) (tLst (tCons (tTup (tCons (tC (.str "BadOrder")) (tCons (tCB (rIsP K E a d) (tCons (tVar 0) (tCons (tC (.ref (He.ga K "BadOrder"))) tNil))) tNil))) (tCons (tTup (tCons (tC (.str "OrderRefused")) (tCons (tCB (rIsP K E a d) (tCons (tVar 0) (tCons (tC (.ref (He.ga K "OrderRefused"))) tNil))) tNil))) tNil)))) (gName 1))
    (tSeq (tAsg (tOp aAdd (tVar 1) (tLst (tCons (tTup (tCons (tC (.str "OutOfSteps")) (tCons (tCB (rIsP K E a d) (tCons (tVar 0) (tCons (tC (.ref (He.ga K "OutOfSteps"))) tNil))) tNil))) (tCons (tTup (tCons (tC (.str "NotEmpty")) (tCons (tCB (rIsP K E a d) (tCons (tVar 0) (tCons (tC (.ref (He.ga K "NotEmpty"))) tNil))) tNil))) tNil)))) (gName 1))
    (tSeq (tAsg (tOp aAdd (tVar 1) (tLst (tCons (tTup (tCons (tC (.str "NoChange")) (tCons (tCB (rIsP K E a d) (tCons (tVar 0) (tCons (tC (.ref (He.ga K "NoChange"))) tNil))) tNil))) (tCons (tTup (tCons (tC (.str "NothingDone")) (tCons (tCB (rIsP K E a d) (tCons (tVar 0) (tCons (tC (.ref (He.ga K "NothingDone"))) tNil))) tNil))) tNil)))) (gName 1))
    (tSeq (tAsg (tOp aAdd (tVar 1) (tLst (tCons (tTup (tCons (tC (.str "BadClaim")) (tCons (tCB (rIsP K E a d) (tCons (tVar 0) (tCons (tC (.ref (He.ga K "BadClaim"))) tNil))) tNil))) tNil))) (gName 1))
    (tRet (tSel (tVar 1)))))))))))))))))))))
section
variable {K : PySem.W.Frag} {E a r : Addr} {d : Option Addr} {H0 H : Hp} {D : Ends} {o : Option V} {vs : List V} {rs : List (Str × Bool)} {n1 n2 : Str} {c1 c2 : V} {v1 v2 : Value} {b1 b2 : Bool} {Q : VK}
theorem isP (hc : ClsV c1 v1) (hk : PySem.W.kitOne K (.ref E) v1 = some b1) (hd : ∀ dd, d = some dd → ∃ fs, H dd = some (.xd fs)) (h : Q (.bl b1) H) : rIsP K E a d [.ref a, c1] H Q := ⟨c1, v1, b1, rfl, hc, hd, hk, h⟩
theorem xd_mono (hd : ∀ dd, d = some dd → ∃ fs, H0 dd = some (.xd fs)) (s : Same H0 H) : ∀ dd, d = some dd → ∃ fs, H dd = some (.xd fs) := fun dd e => by
  obtain ⟨fs, z⟩ := hd dd e
  exact ⟨fs, s _ _ z⟩
local macro_rules | `(tactic| walk_at "nw") => `(tactic| first
  | with_reducible refine s_seq ?_
  | with_reducible refine s_asg ?_
  | with_reducible refine s_if ?_
  | with_reducible refine s_ret ?_
  | with_reducible refine s_drop ?_
  | with_reducible refine v_var0 ?_
  | with_reducible refine s_name0 ?_
  | with_reducible refine v_aug0 ?_
  | with_reducible refine v_var1 ?_
  | with_reducible refine s_name1 ?_
  | with_reducible refine v_aug1 ?_
  | with_reducible refine v_var2 ?_
  | with_reducible refine s_name2 ?_
  | with_reducible refine v_aug2 ?_
  | with_reducible refine v_var3 ?_
  | with_reducible refine s_name3 ?_
  | with_reducible refine v_aug3 ?_
  | with_reducible refine v_var4 ?_
  | with_reducible refine s_name4 ?_
  | with_reducible refine v_aug4 ?_
  | with_reducible refine v_var5 ?_
  | with_reducible refine s_name5 ?_
  | with_reducible refine v_aug5 ?_
  | with_reducible refine v_var6 ?_
  | with_reducible refine s_name6 ?_
  | with_reducible refine v_aug6 ?_
  | with_reducible refine v_var7 ?_
  | with_reducible refine s_name7 ?_
  | with_reducible refine v_aug7 ?_
  | with_reducible refine v_var8 ?_
  | with_reducible refine s_name8 ?_
  | with_reducible refine v_aug8 ?_
  | with_reducible refine v_var9 ?_
  | with_reducible refine s_name9 ?_
  | with_reducible refine v_aug9 ?_
  | with_reducible refine v_var10 ?_
  | with_reducible refine s_name10 ?_
  | with_reducible refine v_aug10 ?_
  | with_reducible refine v_var11 ?_
  | with_reducible refine s_name11 ?_
  | with_reducible refine v_aug11 ?_
  | with_reducible refine v_var12 ?_
  | with_reducible refine s_name12 ?_
  | with_reducible refine v_aug12 ?_
  | with_reducible refine v_var13 ?_
  | with_reducible refine s_name13 ?_
  | with_reducible refine v_aug13 ?_
  | with_reducible refine v_var14 ?_
  | with_reducible refine s_name14 ?_
  | with_reducible refine v_aug14 ?_
  | with_reducible refine v_var15 ?_
  | with_reducible refine s_name15 ?_
  | with_reducible refine v_aug15 ?_
  | with_reducible refine v_c ?_
  | with_reducible refine v_op ?_
  | with_reducible refine v_cons ?_
  | with_reducible refine v_nil ?_
  | with_reducible refine v_cb ?_
  | with_reducible refine v_call ?_
  | with_reducible refine c_test ?_
  | with_reducible refine c_bl ?_
  | with_reducible refine c_and ?_
  | with_reducible refine c_or ?_
  | with_reducible refine c_not ?_
  | with_reducible refine v_augS ?_
  | with_reducible refine v_sub ?_
  | with_reducible refine add_ii ?_
  | with_reducible refine sub_ii ?_
  | with_reducible refine iadd_ii ?_
  | with_reducible refine lt_ii ?_
  | with_reducible refine le_ii ?_
  | with_reducible refine gt_ii ?_
  | with_reducible refine ge_ii ?_
  | with_reducible refine eq_ii ?_
  | with_reducible refine ne_ii ?_
  | with_reducible refine int_i ?_
  | with_reducible refine abs_i ?_
  | with_reducible refine max_i ?_
  | with_reducible refine min_i ?_
  | with_reducible refine mul_r (by omega) (by omega) ?_
  | with_reducible refine mul_l (by omega) (by omega) ?_
  | with_reducible refine ix_m0 (by assumption) ?_
  | with_reducible refine get_m0 (by assumption) ?_
  | with_reducible refine ix_m1 (by assumption) ?_
  | with_reducible refine get_m1 (by assumption) ?_
  | with_reducible refine ix_m2 (by assumption) ?_
  | with_reducible refine get_m2 (by assumption) ?_
  | with_reducible refine ix_m3 (by assumption) ?_
  | with_reducible refine get_m3 (by assumption) ?_
  | with_reducible refine ix_m4 (by assumption) ?_
  | with_reducible refine get_m4 (by assumption) ?_
  | with_reducible refine ix_m5 (by assumption) ?_
  | with_reducible refine get_m5 (by assumption) ?_
  | (with_reducible refine st_set1 (by assumption) (by assumption) ?_; intro H1 hs1 kp1)
  | (with_reducible refine st_set2 (by assumption) (by assumption) ?_; intro H1 hs1 kp1)
  | (with_reducible refine st_set3 (by assumption) (by assumption) ?_; intro H1 hs1 kp1)
  | (with_reducible refine st_set4 (by assumption) (by assumption) ?_; intro H1 hs1 kp1)
  | (with_reducible refine st_set5 (by assumption) (by assumption) ?_; intro H1 hs1 kp1)
  | with_reducible refine len_m (by assumption) ?_
  | with_reducible refine s_for1 ?_
  | with_reducible refine s_forL ?_
  | with_reducible refine rng1 (by omega) (by omega) ?_
  | with_reducible refine s_next ?_
  | with_reducible refine s_break ?_
  | with_reducible refine s_cont ?_
  | with_reducible refine isi_non_bool ?_
  | with_reducible refine isi_non_int ?_
  | with_reducible refine isi_non_str ?_
  | with_reducible refine isi_non_list ?_
  | with_reducible refine isi_non_tuple ?_
  | with_reducible refine isi_non_dict ?_
  | with_reducible refine isi_non_seq (by assumption) ?_
  | with_reducible refine isi_bl_bool ?_
  | with_reducible refine isi_bl_int ?_
  | with_reducible refine isi_bl_str ?_
  | with_reducible refine isi_bl_list ?_
  | with_reducible refine isi_bl_tuple ?_
  | with_reducible refine isi_bl_dict ?_
  | with_reducible refine isi_bl_seq (by assumption) ?_
  | with_reducible refine isi_int_bool ?_
  | with_reducible refine isi_int_int ?_
  | with_reducible refine isi_int_str ?_
  | with_reducible refine isi_int_list ?_
  | with_reducible refine isi_int_tuple ?_
  | with_reducible refine isi_int_dict ?_
  | with_reducible refine isi_int_seq (by assumption) ?_
  | with_reducible refine isi_str_bool ?_
  | with_reducible refine isi_str_int ?_
  | with_reducible refine isi_str_str ?_
  | with_reducible refine isi_str_list ?_
  | with_reducible refine isi_str_tuple ?_
  | with_reducible refine isi_str_dict ?_
  | with_reducible refine isi_str_seq (by assumption) ?_
  | with_reducible refine isi_lst_bool (by assumption) (by assumption) ?_
  | with_reducible refine isi_lst_int (by assumption) (by assumption) ?_
  | with_reducible refine isi_lst_str (by assumption) (by assumption) ?_
  | with_reducible refine isi_lst_list (by assumption) (by assumption) ?_
  | with_reducible refine isi_lst_tuple (by assumption) (by assumption) ?_
  | with_reducible refine isi_lst_dict (by assumption) (by assumption) ?_
  | with_reducible refine isi_lst_seq (by assumption) (by assumption) (by assumption) ?_
  | with_reducible refine isi_tup_bool (by assumption) (by assumption) ?_
  | with_reducible refine isi_tup_int (by assumption) (by assumption) ?_
  | with_reducible refine isi_tup_str (by assumption) (by assumption) ?_
  | with_reducible refine isi_tup_list (by assumption) (by assumption) ?_
  | with_reducible refine isi_tup_tuple (by assumption) (by assumption) ?_
  | with_reducible refine isi_tup_dict (by assumption) (by assumption) ?_
  | with_reducible refine isi_tup_seq (by assumption) (by assumption) (by assumption) ?_
  | with_reducible refine isi_dK_bool (by assumption) (by assumption) ?_
  | with_reducible refine isi_dK_int (by assumption) (by assumption) ?_
  | with_reducible refine isi_dK_str (by assumption) (by assumption) ?_
  | with_reducible refine isi_dK_list (by assumption) (by assumption) ?_
  | with_reducible refine isi_dK_tuple (by assumption) (by assumption) ?_
  | with_reducible refine isi_dK_dict (by assumption) (by assumption) ?_
  | with_reducible refine isi_dK_seq (by assumption) (by assumption) (by assumption) ?_
  | with_reducible refine eq_bb ?_
  | with_reducible refine eq_ss ?_
  | with_reducible refine ev_isN ?_
  | with_reducible refine ev_tB ?_
  | with_reducible refine ev_and ?_
  | with_reducible refine ev_or ?_
  | with_reducible refine ev_not ?_
  | with_reducible refine c_tru ?_
  | with_reducible refine tru_bl ?_
  | with_reducible refine if_nt ?_
  | with_reducible refine if_nf ?_
  | with_reducible refine tup_new ?_
  | with_reducible refine lst_new ?_
  | with_reducible refine len_ms (by assumption) (by assumption) ?_
  | with_reducible refine len_ts (by assumption) (by assumption) ?_
  | ((with_reducible refine lit_len ?_ ?_); (focus (first | decide | (simp; done) | (simp; omega))))
  | (with_reducible refine new_st (by assumption) (by assumption) ?_; intro q1 H1 hq1 he1 hn1 kp1 hS1 sm1)
  | (with_reducible refine new_same (by assumption) ?_; intro q1 H1 hq1 he1 sm1 hs1)
  | with_reducible refine if_dT rfl ?_
  | ((with_reducible refine if_dF ?_ ?_); focus (intro z; cases z; done))
  | with_reducible refine if_t ?_
  | with_reducible refine if_f ?_
  | ((with_reducible refine c_take (by assumption) (by assumption) ?_ ?_); (focus omega); intro r1 H1 hS1 kp1 h01 h11)
  | with_reducible refine ev_chain ?_
  | ((with_reducible refine c_number (by assumption) (by assumption) ?_ ?_); (focus omega); intro r1 H1 hS1 kp1 h01 h11)
  | ((with_reducible refine c_pick (by assumption) (by assumption) (by assumption) (by assumption) ?_ ?_); (focus (simp; done)); intro r1 H1 hS1 kp1 kk1 h01))
local macro_rules | `(tactic| walk_at "go") => `(tactic| repeat' (first | walk_at "nw" | ((with_reducible refine if_d ?_ ?_) <;> intro c1) | ((with_reducible refine if_nd ?_ ?_) <;> intro c1)))
theorem row2 (hc1 : ClsV c1 v1) (hk1 : PySem.W.kitOne K (.ref E) v1 = some b1) (hc2 : ClsV c2 v2) (hk2 : PySem.W.kitOne K (.ref E) v2 = some b2) (hd : ∀ dd, d = some dd → ∃ fs, H0 dd = some (.xd fs)) (hs : Same H0 H)
    (hr : H r = some (.lst vs)) (ha : RowsAt H vs rs) (hl : vs.length ≤ 100)
    (h : ∀ (r' : Addr) (H' : Hp) (vs' : List V), Same H0 H' → H' r' = some (.lst vs') → RowsAt H' vs' (rs ++ [(n1, b1), (n2, b2)]) → vs'.length = vs.length + 2 → D.nx [some (.ref a), some (.ref r'), o] H') :
    tAsg (tOp aAdd (tVar 1) (tLst (tCons (tTup (tCons (tC (.str n1)) (tCons (tCB (rIsP K E a d) (tCons (tVar 0) (tCons (tC c1) tNil))) tNil))) (tCons (tTup (tCons (tC (.str n2)) (tCons (tCB (rIsP K E a d) (tCons (tVar 0) (tCons (tC c2) tNil))) tNil))) tNil)))) (gName 1) D [some (.ref a), some (.ref r), o] H := by
  repeat walk_at "nw"
  refine isP hc1 hk1 (xd_mono hd hs) ?_
  repeat walk_at "nw"
  rename_i t1 H1 g1 e1 k1 s1
  refine isP hc2 hk2 (xd_mono hd s1) ?_
  repeat walk_at "nw"
  rename_i t2 H2 g2 e2 k2 s2 l H3 g3 e3 k3 s3
  have k13 : Same H1 H3 := k2.trans k3
  refine add_ll (k13 _ _ (k1 _ _ hr)) e3 (by simp; omega) fun q hq => ?_
  have z : Same H3 (upd H3 q (.lst (vs ++ [V.ref t1, V.ref t2]))) := same_new hq
  refine h q _ _ (s3.trans z) upd_same ?_ (by simp)
  exact (ha.mono ((k1.trans k13).trans z)).append (.cons (z _ _ (k13 _ _ e1)) (.cons (z _ _ (k3 _ _ e2)) .nil))
theorem row0 (hc1 : ClsV c1 v1) (hk1 : PySem.W.kitOne K (.ref E) v1 = some b1) (hc2 : ClsV c2 v2) (hk2 : PySem.W.kitOne K (.ref E) v2 = some b2) (hd : ∀ dd, d = some dd → ∃ fs, H0 dd = some (.xd fs)) (hs : Same H0 H)
    (h : ∀ (r' : Addr) (H' : Hp) (vs' : List V), Same H0 H' → H' r' = some (.lst vs') → RowsAt H' vs' [(n1, b1), (n2, b2)] → vs'.length = 2 → D.nx [some (.ref a), some (.ref r'), o] H') :
    tAsg (tLst (tCons (tTup (tCons (tC (.str n1)) (tCons (tCB (rIsP K E a d) (tCons (tVar 0) (tCons (tC c1) tNil))) tNil))) (tCons (tTup (tCons (tC (.str n2)) (tCons (tCB (rIsP K E a d) (tCons (tVar 0) (tCons (tC c2) tNil))) tNil))) tNil))) (gName 1) D [some (.ref a), none, o] H := by
  repeat walk_at "nw"
  refine isP hc1 hk1 (xd_mono hd hs) ?_
  repeat walk_at "nw"
  rename_i t1 H1 g1 e1 k1 s1
  refine isP hc2 hk2 (xd_mono hd s1) ?_
  repeat walk_at "nw"
  rename_i t2 H2 g2 e2 k2 s2 l H3 g3 e3 k3 s3
  exact h l _ _ s3 e3 (.cons (k3 _ _ (k2 _ _ e1)) (.cons (k3 _ _ e2) .nil)) rfl
theorem row1 (hc1 : ClsV c1 v1) (hk1 : PySem.W.kitOne K (.ref E) v1 = some b1) (hd : ∀ dd, d = some dd → ∃ fs, H0 dd = some (.xd fs)) (hs : Same H0 H) (hr : H r = some (.lst vs)) (ha : RowsAt H vs rs) (hl : vs.length ≤ 100)
    (h : ∀ (r' : Addr) (H' : Hp) (vs' : List V), Same H0 H' → H' r' = some (.lst vs') → RowsAt H' vs' (rs ++ [(n1, b1)]) → D.nx [some (.ref a), some (.ref r'), o] H') :
    tAsg (tOp aAdd (tVar 1) (tLst (tCons (tTup (tCons (tC (.str n1)) (tCons (tCB (rIsP K E a d) (tCons (tVar 0) (tCons (tC c1) tNil))) tNil))) tNil))) (gName 1) D [some (.ref a), some (.ref r), o] H := by
  repeat walk_at "nw"
  refine isP hc1 hk1 (xd_mono hd hs) ?_
  repeat walk_at "nw"
  rename_i t1 H1 g1 e1 k1 s1 l H3 g3 e3 k3 s3
  refine add_ll (k3 _ _ (k1 _ _ hr)) e3 (by simp; omega) fun q hq => ?_
  have z : Same H3 (upd H3 q (.lst (vs ++ [V.ref t1]))) := same_new hq
  refine h q _ _ (s3.trans z) upd_same ?_
  exact (ha.mono ((k1.trans k3).trans z)).append (.cons (z _ _ (k3 _ _ e1)) .nil)
end
end NW
namespace NW
open PySem PySem.Spec PyProof.Rows L2
open C8 (tCut pss_cut)
def kindPairs : List (Str × Str) := [("Refusal", "BadName"), ("BadWeight", "BadNumber"), ("BadCount", "Twice"), ("Unknown", "NoHolder"), ("Loop", "Short"), ("BadText", "OtherYard"), ("Same", "Inside"), ("Unlike", "Nailed"), ("Sealed", "Idle"), ("Broken", "NotComing"), ("Unbalanced", "TooMany"), ("BadWish", "Clash"), ("OtherDoors", "NoStory"), ("BadOrder", "OrderRefused"), ("OutOfSteps", "NotEmpty"), ("NoChange", "NothingDone")]
def kr (b : Str → Bool) : List (Str × Str) → List (Str × Bool)
  | [] => []
  | (n, m) :: ps => (n, b n) :: (m, b m) :: kr b ps
def kindsAll (b : Str → Bool) : List (Str × Bool) := (([((("ValueError" : Str)), b "ValueError"), (("NestError" : Str), b "NestError")] : List (Str × Bool)) ++ kr b kindPairs) ++ [(("BadClaim" : Str), b "BadClaim")]
def tRow2 (K : PySem.W.Frag) (E a : Addr) (d : Option Addr) (n1 n2 : Str) : TS :=
  tAsg (tOp aAdd (tVar 1) (tLst (tCons (tTup (tCons (tC (.str n1)) (tCons (tCB (rIsP K E a d) (tCons (tVar 0) (tCons (tC (.ref (He.ga K n1))) tNil))) tNil))) (tCons (tTup (tCons (tC (.str n2)) (tCons (tCB (rIsP K E a d) (tCons (tVar 0) (tCons (tC (.ref (He.ga K n2))) tNil))) tNil))) tNil)))) (gName 1)
def tRows (K : PySem.W.Frag) (E a : Addr) (d : Option Addr) : List (Str × Str) → TS → TS
  | [], t => t
  | (n, m) :: ps, t => tSeq (tRow2 K E a d n m) (tRows K E a d ps t)
theorem t_kinds_eq (K : PySem.W.Frag) (E a : Addr) (d : Option Addr) : t_kinds K E a d =
    tSeq (tAsg (tLst (tCons (tTup (tCons (tC (.str "ValueError")) (tCons (tCB (rIsP K E a d) (tCons (tVar 0) (tCons (tC (.ty "ValueError")) tNil))) tNil))) (tCons (tTup (tCons (tC (.str "NestError")) (tCons (tCB (rIsP K E a d) (tCons (tVar 0) (tCons (tC (.ref (He.ga K "NestError"))) tNil))) tNil))) tNil))) (gName 1))
    (tRows K E a d kindPairs (tSeq (tAsg (tOp aAdd (tVar 1) (tLst (tCons (tTup (tCons (tC (.str "BadClaim")) (tCons (tCB (rIsP K E a d) (tCons (tVar 0) (tCons (tC (.ref (He.ga K "BadClaim"))) tNil))) tNil))) tNil))) (gName 1)) (tRet (tSel (tVar 1))))) := rfl
theorem p_rows (K : PySem.W.Frag) (E a : Addr) (d : Option Addr) (b : Str → Bool) (H0 : Hp) (o : Option V) (t : TS) (D : Ends) (hd : ∀ dd, d = some dd → ∃ fs, H0 dd = some (.xd fs)) :
    ∀ (ps : List (Str × Str)) (r : Addr) (H : Hp) (vs : List V) (rs : List (Str × Bool)), (∀ q ∈ ps, PySem.W.kitOne K (.ref E) (.ref (He.ga K q.1)) = some (b q.1) ∧ PySem.W.kitOne K (.ref E) (.ref (He.ga K q.2)) = some (b q.2)) →
      Same H0 H → H r = some (.lst vs) → RowsAt H vs rs → vs.length + 2 * ps.length ≤ 100 →
      (∀ (r' : Addr) (H' : Hp) (vs' : List V), Same H0 H' → H' r' = some (.lst vs') → RowsAt H' vs' (rs ++ kr b ps) → vs'.length ≤ 100 → t D [some (.ref a), some (.ref r'), o] H') →
      tRows K E a d ps t D [some (.ref a), some (.ref r), o] H := by
  intro ps
  induction ps with
  | nil =>
    intro r H vs rs M hs hr ha hl h
    exact h r H vs hs hr (by rw [show kr b [] = [] from rfl, List.append_nil]; exact ha) (by simp at hl; omega)
  | cons q ps ih =>
    intro r H vs rs M hs hr ha hl h
    obtain ⟨n, m⟩ := q
    have m1 := (M (n, m) (by simp)).1
    have m2 := (M (n, m) (by simp)).2
    show tSeq (tRow2 K E a d n m) (tRows K E a d ps t) D _ H
    refine s_seq ?_
    rw [List.length_cons] at hl
    refine row2 (.own _) m1 (.own _) m2 hd hs hr ha (by omega) fun r' H' vs' s' e' a' l' => ?_
    refine ih r' H' vs' _ (fun q hq => M q (List.mem_cons_of_mem _ hq)) s' e' a' (by omega) fun r2 H2 vs2 s2 e2 a2 l2 => ?_
    refine h r2 H2 vs2 s2 e2 ?_ l2
    rw [List.append_assoc] at a2
    exact a2
theorem pairs_in : ∀ q ∈ kindPairs, q.1 ∈ errN1 ++ errN2 ∧ q.2 ∈ errN1 ++ errN2 := by decide +kernel
end NW
namespace NW
open PySem PySem.Spec PyProof.Rows L2
open C8 (tCut pss_cut)
section
variable {P : Program} {w : World} {K : PySem.W.Frag} {mg : Str → Option Value} {base : Heap} {x : Str} {params : Arguments} {body : List Stmt} {scope : Scope} {f : Addr} {ps : List Str} {sp : Sp} {p : Addr × Obj}
theorem has0 (g : mg x = some (.ref f)) (F : ∃ fd, FunD K x x params body scope [] [] f fd)
    (bn : ∀ (kV doc pm : Value) (an : Option Addr) (cdv ct : Value) (us : List Value), us.length = ps.length → bindArgs (PySem.W.fnOf x x params body scope .none kV doc pm an cdv ct) ⟨us, []⟩ = pure (ps.zip us))
    (h : ∀ vs H Q E, sp vs H Q E → False) : Has P w K mg base x 0 ps sp := by
  obtain ⟨fd, F⟩ := F
  exact ⟨f, fd, g, F.kp, F.bindsN bn, ⟨fun vs H Q E z => (h vs H Q E z).elim, fun _ _ _ _ _ _ _ _ _ _ _ _ _ z => (h _ _ _ _ z).elim⟩⟩
theorem hasH0 (g : mg x = some (.ref f)) (F : ∃ fd, FunD K x x params body scope [] [] f fd)
    (bn : ∀ (kV doc pm : Value) (an : Option Addr) (cdv ct : Value) (us : List Value), us.length = ps.length → bindArgs (PySem.W.fnOf x x params body scope .none kV doc pm an cdv ct) ⟨us, []⟩ = pure (ps.zip us))
    (h : ∀ vs H Q E, sp vs H Q E → False) : HasH P w K mg base p x 0 ps sp := by
  obtain ⟨fd, F⟩ := F
  exact ⟨f, fd, g, F.kp, F.bindsN bn, ⟨fun vs H Q E z => (h vs H Q E z).elim, fun _ _ _ _ _ _ _ _ _ _ _ _ _ _ z => (h _ _ _ _ z).elim⟩⟩
end
end NW
namespace NW
/-- the falling product -/
def fp (n : Nat) : Nat → Nat
  | 0 => 1
  | k + 1 => fp n k * (n - k)
end NW
namespace NW
open PySem PySem.Spec PyProof.Rows L2
open C8 (tCut pss_cut)
def aTup (K : PySem.W.Frag) : List V → Hp → VK → Prop := fun xs H Q => ∃ p ys, xs = [.ref p] ∧ ((SqL K H p ys ∧ ∀ l, H l = none → Q (.ref l) (upd H l (.tup ys))) ∨ (SqT K H p ys ∧ Q (.ref p) H))
theorem cTup {X : Cx} : CallR X (.type "tuple") (aTup X.K) := call_tuple_of
section
variable {K : PySem.W.Frag} {H H0 : Hp} {Q : VK} {σ : L2.St} {p l : Addr} {xs : List V} {y : V} {te : TE} {ta : TA} {r : V → List V → Hp → VK → Prop} {i : Int} {j : Nat} {lo hi : Option Int}
theorem tup_l (hp : H p = some (.lst xs)) (h : NewR (.tup xs) H Q) : aTup K [.ref p] H Q := ⟨p, xs, rfl, .inl ⟨SqL.of hp, h⟩⟩
theorem tup_t (hp : H p = some (.tup xs)) (h : Q (.ref p) H) : aTup K [.ref p] H Q := ⟨p, xs, rfl, .inr ⟨SqT.of hp, h⟩⟩
theorem v_bm {T : String} (h : te σ H fun x H1 => tyV K T x H1 ∧ ta σ H1 fun ys H2 => r x ys H2 Q) : tBM K T r te ta σ H Q := h
theorem ty_l {A : Prop} (hp : H p = some (.lst xs)) (h : A) : tyV K "list" (.ref p) H ∧ A := ⟨.inl ⟨rfl, xs, SqL.of hp⟩, h⟩
theorem pop_l (hp : H p = some (.lst xs)) (hi : i = (j : Int)) (hj : j < xs.length) (hl : xs.length ≤ 1000000) (h : ∀ y, xs[j]? = some y → Q y (upd H p (.lst (xs.eraseIdx j)))) : rPopAt (.ref p) [.int i] H Q := by
  subst hi
  refine ⟨p, xs, (j : Int), j, xs[j], rfl, rfl, hp, by omega, by omega, ?_, List.getElem?_eq_getElem hj, h _ (List.getElem?_eq_getElem hj)⟩
  unfold seqIndex?
  rw [if_neg (by omega : ¬ ((j : Int) < 0))]
  have h1 : decide ((0 : Int) ≤ (j : Int)) = true := decide_eq_true (by omega)
  have h2 : decide ((j : Int) < (xs.length : Int)) = true := decide_eq_true (by omega)
  simp only [h1, h2, Bool.and_self, if_true, Int.toNat_natCast]
theorem v_sl {r : V → Option Int → Option Int → Hp → VK → Prop} {tl th : TO} (h : te σ H fun x H1 => tl σ H1 fun l H2 => th σ H2 fun u H3 => r x l u H3 Q) : tSl r te tl th σ H Q := h
def LcI (J : It) (g : TG) (tt : TT) (te : TE) (vs : List Nat) (σ : L2.St) (D : Addr) (Q : VK) (H : Hp) : Prop := ∃ W : Nat → Nat → Hp → Prop, (∃ m, W 0 m (upd H D (.lst []))) ∧ ∀ i m H, W i m H →
  (J.stop i H ∧ Q (.ref D) H) ∨ (J.go i H ∧ ∃ Nx : Hp → Prop, (∀ H', Nx H' → ∃ m', m' < m ∧ W (i + 1) m' H') ∧ ∀ x H', J.yld i H x H' → g x (wipe σ vs) H' fun σ2 H2 => wipe σ2 vs = wipe σ vs ∧ tt σ2 H2 fun b H3 =>
    if b = true then te σ2 H3 fun y H4 => ∃ acc, H4 D = some (.lst acc) ∧ acc.length < sizeLine ∧ Nx (upd H4 D (.lst (acc ++ [y]))) else Nx H3)
variable {g : TG} {tt : TT} {vs : List Nat}
theorem s_lc1 (h : ta σ H fun xs H1 => ∃ j : Int, xs = [.int j] ∧ -(2 ^ 62) ≤ j ∧ j < 2 ^ 62 ∧ ∀ D, H1 D = none → LcI (Itr 0 j.toNat) g tt te vs σ D Q H1) : tLc (iRng1 ta) g tt te vs σ H Q := h
theorem s_lcL {tl : TE} (h : tl σ H fun x H1 => ∃ a, x = .ref a ∧ (∃ xs, SqL K H1 a xs) ∧ ∀ D, H1 D = none → LcI (Itl K a) g tt te vs σ D Q H1) : tLc (iList K tl) g tt te vs σ H Q := h
theorem lc_kept {σ' : L2.St} {A : Prop} (h : A) (e : wipe σ' vs = wipe σ vs := by rfl) : wipe σ' vs = wipe σ vs ∧ A := ⟨e, h⟩
theorem c_yes {B : Bool → Hp → Prop} (h : B true H) : tYes σ H B := h
theorem v_nopart {R : Option Int → Hp → Prop} (h : R none H) : tNoPart σ H R := h
theorem v_part {R : Option Int → Hp → Prop} (h : te σ H fun x H1 => ∃ i, x = .int i ∧ R (some i) H1) : tPart te σ H R := h
theorem part_i {R : Int → Prop} (h : R i) : ∃ j, V.int i = .int j ∧ R j := ⟨i, rfl, h⟩
end
end NW
namespace NW
open PySem PySem.Spec PyProof.Rows L2
open C8 (tCut pss_cut)
local macro_rules | `(tactic| walk_at "nw") => `(tactic| first
  | with_reducible refine s_seq ?_
  | with_reducible refine s_asg ?_
  | with_reducible refine s_if ?_
  | with_reducible refine s_ret ?_
  | with_reducible refine s_drop ?_
  | with_reducible refine v_var0 ?_
  | with_reducible refine s_name0 ?_
  | with_reducible refine v_aug0 ?_
  | with_reducible refine v_var1 ?_
  | with_reducible refine s_name1 ?_
  | with_reducible refine v_aug1 ?_
  | with_reducible refine v_var2 ?_
  | with_reducible refine s_name2 ?_
  | with_reducible refine v_aug2 ?_
  | with_reducible refine v_var3 ?_
  | with_reducible refine s_name3 ?_
  | with_reducible refine v_aug3 ?_
  | with_reducible refine v_var4 ?_
  | with_reducible refine s_name4 ?_
  | with_reducible refine v_aug4 ?_
  | with_reducible refine v_var5 ?_
  | with_reducible refine s_name5 ?_
  | with_reducible refine v_aug5 ?_
  | with_reducible refine v_var6 ?_
  | with_reducible refine s_name6 ?_
  | with_reducible refine v_aug6 ?_
  | with_reducible refine v_var7 ?_
  | with_reducible refine s_name7 ?_
  | with_reducible refine v_aug7 ?_
  | with_reducible refine v_var8 ?_
  | with_reducible refine s_name8 ?_
  | with_reducible refine v_aug8 ?_
  | with_reducible refine v_var9 ?_
  | with_reducible refine s_name9 ?_
  | with_reducible refine v_aug9 ?_
  | with_reducible refine v_var10 ?_
  | with_reducible refine s_name10 ?_
  | with_reducible refine v_aug10 ?_
  | with_reducible refine v_var11 ?_
  | with_reducible refine s_name11 ?_
  | with_reducible refine v_aug11 ?_
  | with_reducible refine v_var12 ?_
  | with_reducible refine s_name12 ?_
  | with_reducible refine v_aug12 ?_
  | with_reducible refine v_var13 ?_
  | with_reducible refine s_name13 ?_
  | with_reducible refine v_aug13 ?_
  | with_reducible refine v_var14 ?_
  | with_reducible refine s_name14 ?_
  | with_reducible refine v_aug14 ?_
  | with_reducible refine v_var15 ?_
  | with_reducible refine s_name15 ?_
  | with_reducible refine v_aug15 ?_
  | with_reducible refine v_c ?_
  | with_reducible refine v_op ?_
  | with_reducible refine v_cons ?_
  | with_reducible refine v_nil ?_
  | with_reducible refine v_cb ?_
  | with_reducible refine v_call ?_
  | with_reducible refine c_test ?_
  | with_reducible refine c_bl ?_
  | with_reducible refine c_and ?_
  | with_reducible refine c_or ?_
  | with_reducible refine c_not ?_
  | with_reducible refine v_augS ?_
  | with_reducible refine v_sub ?_
  | with_reducible refine add_ii ?_
  | with_reducible refine sub_ii ?_
  | with_reducible refine iadd_ii ?_
  | with_reducible refine lt_ii ?_
  | with_reducible refine le_ii ?_
  | with_reducible refine gt_ii ?_
  | with_reducible refine ge_ii ?_
  | with_reducible refine eq_ii ?_
  | with_reducible refine ne_ii ?_
  | with_reducible refine int_i ?_
  | with_reducible refine abs_i ?_
  | with_reducible refine max_i ?_
  | with_reducible refine min_i ?_
  | with_reducible refine mul_r (by omega) (by omega) ?_
  | with_reducible refine mul_l (by omega) (by omega) ?_
  | with_reducible refine ix_m0 (by assumption) ?_
  | with_reducible refine get_m0 (by assumption) ?_
  | with_reducible refine ix_m1 (by assumption) ?_
  | with_reducible refine get_m1 (by assumption) ?_
  | with_reducible refine ix_m2 (by assumption) ?_
  | with_reducible refine get_m2 (by assumption) ?_
  | with_reducible refine ix_m3 (by assumption) ?_
  | with_reducible refine get_m3 (by assumption) ?_
  | with_reducible refine ix_m4 (by assumption) ?_
  | with_reducible refine get_m4 (by assumption) ?_
  | with_reducible refine ix_m5 (by assumption) ?_
  | with_reducible refine get_m5 (by assumption) ?_
  | (with_reducible refine st_set1 (by assumption) (by assumption) ?_; intro H1 hs1 kp1)
  | (with_reducible refine st_set2 (by assumption) (by assumption) ?_; intro H1 hs1 kp1)
  | (with_reducible refine st_set3 (by assumption) (by assumption) ?_; intro H1 hs1 kp1)
  | (with_reducible refine st_set4 (by assumption) (by assumption) ?_; intro H1 hs1 kp1)
  | (with_reducible refine st_set5 (by assumption) (by assumption) ?_; intro H1 hs1 kp1)
  | with_reducible refine len_m (by assumption) ?_
  | with_reducible refine s_for1 ?_
  | with_reducible refine s_forL ?_
  | with_reducible refine rng1 (by omega) (by omega) ?_
  | with_reducible refine s_next ?_
  | with_reducible refine s_break ?_
  | with_reducible refine s_cont ?_
  | with_reducible refine isi_non_bool ?_
  | with_reducible refine isi_non_int ?_
  | with_reducible refine isi_non_str ?_
  | with_reducible refine isi_non_list ?_
  | with_reducible refine isi_non_tuple ?_
  | with_reducible refine isi_non_dict ?_
  | with_reducible refine isi_non_seq (by assumption) ?_
  | with_reducible refine isi_bl_bool ?_
  | with_reducible refine isi_bl_int ?_
  | with_reducible refine isi_bl_str ?_
  | with_reducible refine isi_bl_list ?_
  | with_reducible refine isi_bl_tuple ?_
  | with_reducible refine isi_bl_dict ?_
  | with_reducible refine isi_bl_seq (by assumption) ?_
  | with_reducible refine isi_int_bool ?_
  | with_reducible refine isi_int_int ?_
  | with_reducible refine isi_int_str ?_
  | with_reducible refine isi_int_list ?_
  | with_reducible refine isi_int_tuple ?_
  | with_reducible refine isi_int_dict ?_
  | with_reducible refine isi_int_seq (by assumption) ?_
  | with_reducible refine isi_str_bool ?_
  | with_reducible refine isi_str_int ?_
  | with_reducible refine isi_str_str ?_
  | with_reducible refine isi_str_list ?_
  | with_reducible refine isi_str_tuple ?_
  | with_reducible refine isi_str_dict ?_
  | with_reducible refine isi_str_seq (by assumption) ?_
  | with_reducible refine isi_lst_bool (by assumption) (by assumption) ?_
  | with_reducible refine isi_lst_int (by assumption) (by assumption) ?_
  | with_reducible refine isi_lst_str (by assumption) (by assumption) ?_
  | with_reducible refine isi_lst_list (by assumption) (by assumption) ?_
  | with_reducible refine isi_lst_tuple (by assumption) (by assumption) ?_
  | with_reducible refine isi_lst_dict (by assumption) (by assumption) ?_
  | with_reducible refine isi_lst_seq (by assumption) (by assumption) (by assumption) ?_
  | with_reducible refine isi_tup_bool (by assumption) (by assumption) ?_
  | with_reducible refine isi_tup_int (by assumption) (by assumption) ?_
  | with_reducible refine isi_tup_str (by assumption) (by assumption) ?_
  | with_reducible refine isi_tup_list (by assumption) (by assumption) ?_
  | with_reducible refine isi_tup_tuple (by assumption) (by assumption) ?_
  | with_reducible refine isi_tup_dict (by assumption) (by assumption) ?_
  | with_reducible refine isi_tup_seq (by assumption) (by assumption) (by assumption) ?_
  | with_reducible refine isi_dK_bool (by assumption) (by assumption) ?_
  | with_reducible refine isi_dK_int (by assumption) (by assumption) ?_
  | with_reducible refine isi_dK_str (by assumption) (by assumption) ?_
  | with_reducible refine isi_dK_list (by assumption) (by assumption) ?_
  | with_reducible refine isi_dK_tuple (by assumption) (by assumption) ?_
  | with_reducible refine isi_dK_dict (by assumption) (by assumption) ?_
  | with_reducible refine isi_dK_seq (by assumption) (by assumption) (by assumption) ?_
  | with_reducible refine eq_bb ?_
  | with_reducible refine eq_ss ?_
  | with_reducible refine ev_isN ?_
  | with_reducible refine ev_tB ?_
  | with_reducible refine ev_and ?_
  | with_reducible refine ev_or ?_
  | with_reducible refine ev_not ?_
  | with_reducible refine c_tru ?_
  | with_reducible refine tru_bl ?_
  | with_reducible refine if_nt ?_
  | with_reducible refine if_nf ?_
  | with_reducible refine tup_new ?_
  | with_reducible refine lst_new ?_
  | with_reducible refine len_ms (by assumption) (by assumption) ?_
  | with_reducible refine len_ts (by assumption) (by assumption) ?_
  | ((with_reducible refine lit_len ?_ ?_); (focus (first | decide | (simp; done) | (simp; omega))))
  | (with_reducible refine new_st (by assumption) (by assumption) ?_; intro q1 H1 hq1 he1 hn1 kp1 hS1 sm1)
  | (with_reducible refine new_same (by assumption) ?_; intro q1 H1 hq1 he1 sm1 hs1)
  | with_reducible refine if_dT rfl ?_
  | ((with_reducible refine if_dF ?_ ?_); focus (intro z; cases z; done))
  | with_reducible refine if_t ?_
  | with_reducible refine if_f ?_
  | ((with_reducible refine c_take (by assumption) (by assumption) ?_ ?_); (focus omega); intro r1 H1 hS1 kp1 h01 h11)
  | with_reducible refine ev_chain ?_
  | ((with_reducible refine c_number (by assumption) (by assumption) ?_ ?_); (focus omega); intro r1 H1 hS1 kp1 h01 h11)
  | ((with_reducible refine c_pick (by assumption) (by assumption) (by assumption) (by assumption) ?_ ?_); (focus (simp; done)); intro r1 H1 hS1 kp1 kk1 h01))
local macro_rules | `(tactic| walk_at "go") => `(tactic| repeat' (first | walk_at "nw" | ((with_reducible refine if_d ?_ ?_) <;> intro c1) | ((with_reducible refine if_nd ?_ ?_) <;> intro c1)))
end NW
namespace NW
open PySem PySem.Spec PyProof.Rows L2
open C8 (tCut pss_cut)
local macro_rules | `(tactic| walk_at "nw") => `(tactic| first
  | with_reducible refine s_seq ?_
  | with_reducible refine s_asg ?_
  | with_reducible refine s_if ?_
  | with_reducible refine s_ret ?_
  | with_reducible refine s_drop ?_
  | with_reducible refine v_var0 ?_
  | with_reducible refine s_name0 ?_
  | with_reducible refine v_aug0 ?_
  | with_reducible refine v_var1 ?_
  | with_reducible refine s_name1 ?_
  | with_reducible refine v_aug1 ?_
  | with_reducible refine v_var2 ?_
  | with_reducible refine s_name2 ?_
  | with_reducible refine v_aug2 ?_
  | with_reducible refine v_var3 ?_
  | with_reducible refine s_name3 ?_
  | with_reducible refine v_aug3 ?_
  | with_reducible refine v_var4 ?_
  | with_reducible refine s_name4 ?_
  | with_reducible refine v_aug4 ?_
  | with_reducible refine v_var5 ?_
  | with_reducible refine s_name5 ?_
  | with_reducible refine v_aug5 ?_
  | with_reducible refine v_var6 ?_
  | with_reducible refine s_name6 ?_
  | with_reducible refine v_aug6 ?_
  | with_reducible refine v_var7 ?_
  | with_reducible refine s_name7 ?_
  | with_reducible refine v_aug7 ?_
  | with_reducible refine v_var8 ?_
  | with_reducible refine s_name8 ?_
  | with_reducible refine v_aug8 ?_
  | with_reducible refine v_var9 ?_
  | with_reducible refine s_name9 ?_
  | with_reducible refine v_aug9 ?_
  | with_reducible refine v_var10 ?_
  | with_reducible refine s_name10 ?_
  | with_reducible refine v_aug10 ?_
  | with_reducible refine v_var11 ?_
  | with_reducible refine s_name11 ?_
  | with_reducible refine v_aug11 ?_
  | with_reducible refine v_var12 ?_
  | with_reducible refine s_name12 ?_
  | with_reducible refine v_aug12 ?_
  | with_reducible refine v_var13 ?_
  | with_reducible refine s_name13 ?_
  | with_reducible refine v_aug13 ?_
  | with_reducible refine v_var14 ?_
  | with_reducible refine s_name14 ?_
  | with_reducible refine v_aug14 ?_
  | with_reducible refine v_var15 ?_
  | with_reducible refine s_name15 ?_
  | with_reducible refine v_aug15 ?_
  | with_reducible refine v_c ?_
  | with_reducible refine v_op ?_
  | with_reducible refine v_cons ?_
  | with_reducible refine v_nil ?_
  | with_reducible refine v_cb ?_
  | with_reducible refine v_call ?_
  | with_reducible refine c_test ?_
  | with_reducible refine c_bl ?_
  | with_reducible refine c_and ?_
  | with_reducible refine c_or ?_
  | with_reducible refine c_not ?_
  | with_reducible refine v_augS ?_
  | with_reducible refine v_sub ?_
  | with_reducible refine add_ii ?_
  | with_reducible refine sub_ii ?_
  | with_reducible refine iadd_ii ?_
  | with_reducible refine lt_ii ?_
  | with_reducible refine le_ii ?_
  | with_reducible refine gt_ii ?_
  | with_reducible refine ge_ii ?_
  | with_reducible refine eq_ii ?_
  | with_reducible refine ne_ii ?_
  | with_reducible refine int_i ?_
  | with_reducible refine abs_i ?_
  | with_reducible refine max_i ?_
  | with_reducible refine min_i ?_
  | with_reducible refine mul_r (by omega) (by omega) ?_
  | with_reducible refine mul_l (by omega) (by omega) ?_
  | with_reducible refine ix_m0 (by assumption) ?_
  | with_reducible refine get_m0 (by assumption) ?_
  | with_reducible refine ix_m1 (by assumption) ?_
  | with_reducible refine get_m1 (by assumption) ?_
  | with_reducible refine ix_m2 (by assumption) ?_
  | with_reducible refine get_m2 (by assumption) ?_
  | with_reducible refine ix_m3 (by assumption) ?_
  | with_reducible refine get_m3 (by assumption) ?_
  | with_reducible refine ix_m4 (by assumption) ?_
  | with_reducible refine get_m4 (by assumption) ?_
  | with_reducible refine ix_m5 (by assumption) ?_
  | with_reducible refine get_m5 (by assumption) ?_
  | (with_reducible refine st_set1 (by assumption) (by assumption) ?_; intro H1 hs1 kp1)
  | (with_reducible refine st_set2 (by assumption) (by assumption) ?_; intro H1 hs1 kp1)
  | (with_reducible refine st_set3 (by assumption) (by assumption) ?_; intro H1 hs1 kp1)
  | (with_reducible refine st_set4 (by assumption) (by assumption) ?_; intro H1 hs1 kp1)
  | (with_reducible refine st_set5 (by assumption) (by assumption) ?_; intro H1 hs1 kp1)
  | with_reducible refine len_m (by assumption) ?_
  | with_reducible refine s_for1 ?_
  | with_reducible refine s_forL ?_
  | with_reducible refine rng1 (by omega) (by omega) ?_
  | with_reducible refine s_next ?_
  | with_reducible refine s_break ?_
  | with_reducible refine s_cont ?_
  | with_reducible refine isi_non_bool ?_
  | with_reducible refine isi_non_int ?_
  | with_reducible refine isi_non_str ?_
  | with_reducible refine isi_non_list ?_
  | with_reducible refine isi_non_tuple ?_
  | with_reducible refine isi_non_dict ?_
  | with_reducible refine isi_non_seq (by assumption) ?_
  | with_reducible refine isi_bl_bool ?_
  | with_reducible refine isi_bl_int ?_
  | with_reducible refine isi_bl_str ?_
  | with_reducible refine isi_bl_list ?_
  | with_reducible refine isi_bl_tuple ?_
  | with_reducible refine isi_bl_dict ?_
  | with_reducible refine isi_bl_seq (by assumption) ?_
  | with_reducible refine isi_int_bool ?_
  | with_reducible refine isi_int_int ?_
  | with_reducible refine isi_int_str ?_
  | with_reducible refine isi_int_list ?_
  | with_reducible refine isi_int_tuple ?_
  | with_reducible refine isi_int_dict ?_
  | with_reducible refine isi_int_seq (by assumption) ?_
  | with_reducible refine isi_str_bool ?_
  | with_reducible refine isi_str_int ?_
  | with_reducible refine isi_str_str ?_
  | with_reducible refine isi_str_list ?_
  | with_reducible refine isi_str_tuple ?_
  | with_reducible refine isi_str_dict ?_
  | with_reducible refine isi_str_seq (by assumption) ?_
  | with_reducible refine isi_lst_bool (by assumption) (by assumption) ?_
  | with_reducible refine isi_lst_int (by assumption) (by assumption) ?_
  | with_reducible refine isi_lst_str (by assumption) (by assumption) ?_
  | with_reducible refine isi_lst_list (by assumption) (by assumption) ?_
  | with_reducible refine isi_lst_tuple (by assumption) (by assumption) ?_
  | with_reducible refine isi_lst_dict (by assumption) (by assumption) ?_
  | with_reducible refine isi_lst_seq (by assumption) (by assumption) (by assumption) ?_
  | with_reducible refine isi_tup_bool (by assumption) (by assumption) ?_
  | with_reducible refine isi_tup_int (by assumption) (by assumption) ?_
  | with_reducible refine isi_tup_str (by assumption) (by assumption) ?_
  | with_reducible refine isi_tup_list (by assumption) (by assumption) ?_
  | with_reducible refine isi_tup_tuple (by assumption) (by assumption) ?_
  | with_reducible refine isi_tup_dict (by assumption) (by assumption) ?_
  | with_reducible refine isi_tup_seq (by assumption) (by assumption) (by assumption) ?_
  | with_reducible refine isi_dK_bool (by assumption) (by assumption) ?_
  | with_reducible refine isi_dK_int (by assumption) (by assumption) ?_
  | with_reducible refine isi_dK_str (by assumption) (by assumption) ?_
  | with_reducible refine isi_dK_list (by assumption) (by assumption) ?_
  | with_reducible refine isi_dK_tuple (by assumption) (by assumption) ?_
  | with_reducible refine isi_dK_dict (by assumption) (by assumption) ?_
  | with_reducible refine isi_dK_seq (by assumption) (by assumption) (by assumption) ?_
  | with_reducible refine eq_bb ?_
  | with_reducible refine eq_ss ?_
  | with_reducible refine ev_isN ?_
  | with_reducible refine ev_tB ?_
  | with_reducible refine ev_and ?_
  | with_reducible refine ev_or ?_
  | with_reducible refine ev_not ?_
  | with_reducible refine c_tru ?_
  | with_reducible refine tru_bl ?_
  | with_reducible refine if_nt ?_
  | with_reducible refine if_nf ?_
  | with_reducible refine tup_new ?_
  | with_reducible refine lst_new ?_
  | with_reducible refine len_ms (by assumption) (by assumption) ?_
  | with_reducible refine len_ts (by assumption) (by assumption) ?_
  | ((with_reducible refine lit_len ?_ ?_); (focus (first | decide | (simp; done) | (simp; omega))))
  | (with_reducible refine new_st (by assumption) (by assumption) ?_; intro q1 H1 hq1 he1 hn1 kp1 hS1 sm1)
  | (with_reducible refine new_same (by assumption) ?_; intro q1 H1 hq1 he1 sm1 hs1)
  | with_reducible refine if_dT rfl ?_
  | ((with_reducible refine if_dF ?_ ?_); focus (intro z; cases z; done))
  | with_reducible refine if_t ?_
  | with_reducible refine if_f ?_
  | ((with_reducible refine c_take (by assumption) (by assumption) ?_ ?_); (focus omega); intro r1 H1 hS1 kp1 h01 h11)
  | with_reducible refine ev_chain ?_
  | ((with_reducible refine c_number (by assumption) (by assumption) ?_ ?_); (focus omega); intro r1 H1 hS1 kp1 h01 h11)
  | ((with_reducible refine c_pick (by assumption) (by assumption) (by assumption) (by assumption) ?_ ?_); (focus (simp; done)); intro r1 H1 hS1 kp1 kk1 h01)
  | with_reducible refine v_bm ?_
  | with_reducible refine v_sl ?_
  | with_reducible refine s_lc1 ?_
  | with_reducible refine s_lcL ?_
  | (with_reducible refine lc_kept ?_ rfl)
  | with_reducible refine c_yes ?_
  | with_reducible refine v_nopart ?_
  | with_reducible refine v_part ?_
  | with_reducible refine part_i ?_
  | with_reducible refine ty_l (by assumption) ?_)
local macro_rules | `(tactic| walk_at "go") => `(tactic| repeat' (first | walk_at "nw" | ((with_reducible refine if_d ?_ ?_) <;> intro c1) | ((with_reducible refine if_nd ?_ ?_) <;> intro c1)))
def sp_store (K : PySem.W.Frag) : Sp := fun vs H Q _ => ∃ (p : Addr) (ns : List Int), vs = [.ref p] ∧ SqL K H p (ns.map V.int) ∧ ∀ (st : Addr) (H' : Hp), Sto H' st → Same H H' → H st = none → Q (.ref st) H'
def t_store (K : PySem.W.Frag) : TS :=
  (tRet (tLst (tCons (tCB (aList K) (tCons (tVar 0) tNil)) (tCons (tC (.int 0)) (tCons (tC (.int 0)) (tCons (tC (.int 0)) (tCons (tC (.int 1)) (tCons (tC (.int 0)) tNil))))))))
theorem l_store (K : PySem.W.Frag) : ∀ vs H Q E, sp_store K vs H Q E → vs.length = 1 := fun _ _ _ _ ⟨_, _, e, _⟩ => by rw [e]; rfl
theorem p_store (K : PySem.W.Frag) (vs : List V) (H : Hp) (Q : VK) (E : XK) (h : sp_store K vs H Q E) : t_store K { nx := fun _ H' => Q .non H', rt := Q } (start ["script"] vs) H := by
  obtain ⟨p, ns, ev, hp, q⟩ := h
  subst ev
  show t_store K _ [some (.ref p)] H
  have hs := Same.refl H
  unfold t_store
  repeat walk_at "nw"
  refine list_l hp ?_
  repeat walk_at "nw"
  rename_i c H1 g1 e1 s1 s01 st H2 g2 e2 s2 s02
  refine q st H2 ⟨c, ns, 0, 0, 0, 1, 0, e2, s2 _ _ e1, by decide⟩ s02 ?_
  cases hst : H st with
  | none => rfl
  | some o => rw [s01 _ _ hst] at g2; cases g2
end NW
namespace NW
open PySem PySem.Spec PyProof.Rows L2
open C8 (tCut pss_cut)
local macro_rules | `(tactic| walk_at "nw") => `(tactic| first
  | with_reducible refine s_seq ?_
  | with_reducible refine s_asg ?_
  | with_reducible refine s_if ?_
  | with_reducible refine s_ret ?_
  | with_reducible refine s_drop ?_
  | with_reducible refine v_var0 ?_
  | with_reducible refine s_name0 ?_
  | with_reducible refine v_aug0 ?_
  | with_reducible refine v_var1 ?_
  | with_reducible refine s_name1 ?_
  | with_reducible refine v_aug1 ?_
  | with_reducible refine v_var2 ?_
  | with_reducible refine s_name2 ?_
  | with_reducible refine v_aug2 ?_
  | with_reducible refine v_var3 ?_
  | with_reducible refine s_name3 ?_
  | with_reducible refine v_aug3 ?_
  | with_reducible refine v_var4 ?_
  | with_reducible refine s_name4 ?_
  | with_reducible refine v_aug4 ?_
  | with_reducible refine v_var5 ?_
  | with_reducible refine s_name5 ?_
  | with_reducible refine v_aug5 ?_
  | with_reducible refine v_var6 ?_
  | with_reducible refine s_name6 ?_
  | with_reducible refine v_aug6 ?_
  | with_reducible refine v_var7 ?_
  | with_reducible refine s_name7 ?_
  | with_reducible refine v_aug7 ?_
  | with_reducible refine v_var8 ?_
  | with_reducible refine s_name8 ?_
  | with_reducible refine v_aug8 ?_
  | with_reducible refine v_var9 ?_
  | with_reducible refine s_name9 ?_
  | with_reducible refine v_aug9 ?_
  | with_reducible refine v_var10 ?_
  | with_reducible refine s_name10 ?_
  | with_reducible refine v_aug10 ?_
  | with_reducible refine v_var11 ?_
  | with_reducible refine s_name11 ?_
  | with_reducible refine v_aug11 ?_
  | with_reducible refine v_var12 ?_
  | with_reducible refine s_name12 ?_
  | with_reducible refine v_aug12 ?_
  | with_reducible refine v_var13 ?_
  | with_reducible refine s_name13 ?_
  | with_reducible refine v_aug13 ?_
  | with_reducible refine v_var14 ?_
  | with_reducible refine s_name14 ?_
  | with_reducible refine v_aug14 ?_
  | with_reducible refine v_var15 ?_
  | with_reducible refine s_name15 ?_
  | with_reducible refine v_aug15 ?_
  | with_reducible refine v_c ?_
  | with_reducible refine v_op ?_
  | with_reducible refine v_cons ?_
  | with_reducible refine v_nil ?_
  | with_reducible refine v_cb ?_
  | with_reducible refine v_call ?_
  | with_reducible refine c_test ?_
  | with_reducible refine c_bl ?_
  | with_reducible refine c_and ?_
  | with_reducible refine c_or ?_
  | with_reducible refine c_not ?_
  | with_reducible refine v_augS ?_
  | with_reducible refine v_sub ?_
  | with_reducible refine add_ii ?_
  | with_reducible refine sub_ii ?_
  | with_reducible refine iadd_ii ?_
  | with_reducible refine lt_ii ?_
  | with_reducible refine le_ii ?_
  | with_reducible refine gt_ii ?_
  | with_reducible refine ge_ii ?_
  | with_reducible refine eq_ii ?_
  | with_reducible refine ne_ii ?_
  | with_reducible refine int_i ?_
  | with_reducible refine abs_i ?_
  | with_reducible refine max_i ?_
  | with_reducible refine min_i ?_
  | with_reducible refine mul_r (by omega) (by omega) ?_
  | with_reducible refine mul_l (by omega) (by omega) ?_
  | with_reducible refine ix_m0 (by assumption) ?_
  | with_reducible refine get_m0 (by assumption) ?_
  | with_reducible refine ix_m1 (by assumption) ?_
  | with_reducible refine get_m1 (by assumption) ?_
  | with_reducible refine ix_m2 (by assumption) ?_
  | with_reducible refine get_m2 (by assumption) ?_
  | with_reducible refine ix_m3 (by assumption) ?_
  | with_reducible refine get_m3 (by assumption) ?_
  | with_reducible refine ix_m4 (by assumption) ?_
  | with_reducible refine get_m4 (by assumption) ?_
  | with_reducible refine ix_m5 (by assumption) ?_
  | with_reducible refine get_m5 (by assumption) ?_
  | (with_reducible refine st_set1 (by assumption) (by assumption) ?_; intro H1 hs1 kp1)
  | (with_reducible refine st_set2 (by assumption) (by assumption) ?_; intro H1 hs1 kp1)
  | (with_reducible refine st_set3 (by assumption) (by assumption) ?_; intro H1 hs1 kp1)
  | (with_reducible refine st_set4 (by assumption) (by assumption) ?_; intro H1 hs1 kp1)
  | (with_reducible refine st_set5 (by assumption) (by assumption) ?_; intro H1 hs1 kp1)
  | with_reducible refine len_m (by assumption) ?_
  | with_reducible refine s_for1 ?_
  | with_reducible refine s_forL ?_
  | with_reducible refine rng1 (by omega) (by omega) ?_
  | with_reducible refine s_next ?_
  | with_reducible refine s_break ?_
  | with_reducible refine s_cont ?_
  | with_reducible refine isi_non_bool ?_
  | with_reducible refine isi_non_int ?_
  | with_reducible refine isi_non_str ?_
  | with_reducible refine isi_non_list ?_
  | with_reducible refine isi_non_tuple ?_
  | with_reducible refine isi_non_dict ?_
  | with_reducible refine isi_non_seq (by assumption) ?_
  | with_reducible refine isi_bl_bool ?_
  | with_reducible refine isi_bl_int ?_
  | with_reducible refine isi_bl_str ?_
  | with_reducible refine isi_bl_list ?_
  | with_reducible refine isi_bl_tuple ?_
  | with_reducible refine isi_bl_dict ?_
  | with_reducible refine isi_bl_seq (by assumption) ?_
  | with_reducible refine isi_int_bool ?_
  | with_reducible refine isi_int_int ?_
  | with_reducible refine isi_int_str ?_
  | with_reducible refine isi_int_list ?_
  | with_reducible refine isi_int_tuple ?_
  | with_reducible refine isi_int_dict ?_
  | with_reducible refine isi_int_seq (by assumption) ?_
  | with_reducible refine isi_str_bool ?_
  | with_reducible refine isi_str_int ?_
  | with_reducible refine isi_str_str ?_
  | with_reducible refine isi_str_list ?_
  | with_reducible refine isi_str_tuple ?_
  | with_reducible refine isi_str_dict ?_
  | with_reducible refine isi_str_seq (by assumption) ?_
  | with_reducible refine isi_lst_bool (by assumption) (by assumption) ?_
  | with_reducible refine isi_lst_int (by assumption) (by assumption) ?_
  | with_reducible refine isi_lst_str (by assumption) (by assumption) ?_
  | with_reducible refine isi_lst_list (by assumption) (by assumption) ?_
  | with_reducible refine isi_lst_tuple (by assumption) (by assumption) ?_
  | with_reducible refine isi_lst_dict (by assumption) (by assumption) ?_
  | with_reducible refine isi_lst_seq (by assumption) (by assumption) (by assumption) ?_
  | with_reducible refine isi_tup_bool (by assumption) (by assumption) ?_
  | with_reducible refine isi_tup_int (by assumption) (by assumption) ?_
  | with_reducible refine isi_tup_str (by assumption) (by assumption) ?_
  | with_reducible refine isi_tup_list (by assumption) (by assumption) ?_
  | with_reducible refine isi_tup_tuple (by assumption) (by assumption) ?_
  | with_reducible refine isi_tup_dict (by assumption) (by assumption) ?_
  | with_reducible refine isi_tup_seq (by assumption) (by assumption) (by assumption) ?_
  | with_reducible refine isi_dK_bool (by assumption) (by assumption) ?_
  | with_reducible refine isi_dK_int (by assumption) (by assumption) ?_
  | with_reducible refine isi_dK_str (by assumption) (by assumption) ?_
  | with_reducible refine isi_dK_list (by assumption) (by assumption) ?_
  | with_reducible refine isi_dK_tuple (by assumption) (by assumption) ?_
  | with_reducible refine isi_dK_dict (by assumption) (by assumption) ?_
  | with_reducible refine isi_dK_seq (by assumption) (by assumption) (by assumption) ?_
  | with_reducible refine eq_bb ?_
  | with_reducible refine eq_ss ?_
  | with_reducible refine ev_isN ?_
  | with_reducible refine ev_tB ?_
  | with_reducible refine ev_and ?_
  | with_reducible refine ev_or ?_
  | with_reducible refine ev_not ?_
  | with_reducible refine c_tru ?_
  | with_reducible refine tru_bl ?_
  | with_reducible refine if_nt ?_
  | with_reducible refine if_nf ?_
  | with_reducible refine tup_new ?_
  | with_reducible refine lst_new ?_
  | with_reducible refine len_ms (by assumption) (by assumption) ?_
  | with_reducible refine len_ts (by assumption) (by assumption) ?_
  | ((with_reducible refine lit_len ?_ ?_); (focus (first | decide | (simp; done) | (simp; omega))))
  | (with_reducible refine new_st (by assumption) (by assumption) ?_; intro q1 H1 hq1 he1 hn1 kp1 hS1 sm1)
  | (with_reducible refine new_same (by assumption) ?_; intro q1 H1 hq1 he1 sm1 hs1)
  | with_reducible refine if_dT rfl ?_
  | ((with_reducible refine if_dF ?_ ?_); focus (intro z; cases z; done))
  | with_reducible refine if_t ?_
  | with_reducible refine if_f ?_
  | ((with_reducible refine c_take (by assumption) (by assumption) ?_ ?_); (focus omega); intro r1 H1 hS1 kp1 h01 h11)
  | with_reducible refine ev_chain ?_
  | ((with_reducible refine c_number (by assumption) (by assumption) ?_ ?_); (focus omega); intro r1 H1 hS1 kp1 h01 h11)
  | ((with_reducible refine c_pick (by assumption) (by assumption) (by assumption) (by assumption) ?_ ?_); (focus (simp; done)); intro r1 H1 hS1 kp1 kk1 h01)
  | with_reducible refine v_bm ?_
  | with_reducible refine v_sl ?_
  | with_reducible refine s_lc1 ?_
  | with_reducible refine s_lcL ?_
  | (with_reducible refine lc_kept ?_ rfl)
  | with_reducible refine c_yes ?_
  | with_reducible refine v_nopart ?_
  | with_reducible refine v_part ?_
  | with_reducible refine part_i ?_
  | with_reducible refine ty_l (by assumption) ?_)
local macro_rules | `(tactic| walk_at "go") => `(tactic| repeat' (first | walk_at "nw" | ((with_reducible refine if_d ?_ ?_) <;> intro c1) | ((with_reducible refine if_nd ?_ ?_) <;> intro c1)))
end NW
namespace NW
open PySem PySem.Spec PyProof.Rows L2
open C8 (tCut pss_cut)
def LT (H : Hp) (p : Addr) (xs : List V) : Prop := H p = some (.lst xs) ∨ H p = some (.tup xs)
theorem LT.mono {H H' : Hp} {p : Addr} {xs : List V} (s : Same H H') (h : LT H p xs) : LT H' p xs := h.elim (fun z => .inl (s _ _ z)) fun z => .inr (s _ _ z)
def iSeq (K : PySem.W.Frag) (tl : TE) : TI := fun σ H R => iList K tl σ H R ∨ iTup K tl σ H R
theorem pi_seq {X : Cx} {tg l : Expr} {tl : TE} (hl : PE X l tl) : PI X tg l (iSeq X.K tl) :=
  ⟨fun pins s σ H R I h => h.elim (fun z => (pi_list hl).run pins s σ H R I z) fun z => (pi_tup hl).run pins s σ H R I z⟩
section
variable {P : Program} {w : World} {K : PySem.W.Frag} {mg : Str → Option Value} {base : Heap} {x qual : Str} {params : Arguments} {body : List Stmt} {scope : Scope} {f : Addr} {N ps : List Str} {k : Nat} {sp : Sp}
theorem has_ofX {t : XK → TS} (g : mg x = some (.ref f)) (F : ∃ fd, FunD K x x params body scope [] [] f fd) (S : FnScope N ps scope) (len : ∀ vs H Q E, sp vs H Q E → vs.length = ps.length)
    (bn : ∀ (kV doc pm : Value) (an : Option Addr) (cdv ct : Value) (us : List Value), us.length = ps.length → bindArgs (PySem.W.fnOf x x params body scope .none kV doc pm an cdv ct) ⟨us, []⟩ = pure (ps.zip us))
    (d : ∀ (cdv : Value) (A : Around) (outer : List Env) (s : Shared) (H : Hp) (E : XK), Room k (A.deeper (envOfC x scope s.heap.objs.size f cdv)) →
      L2N.Takes (cxOf (L2N.CX P w) P w K mg base N x scope f cdv A outer s H E) (fun cls d _ H => E cls d H) → PSs (cxOf (L2N.CX P w) P w K mg base N x scope f cdv A outer s H E) body (t E))
    (pure_ : ∀ vs H Q E, sp vs H Q E → t E { nx := fun _ H' => Q .non H', rt := Q } (start N vs) H) : Has P w K mg base x (k + 1) ps sp := by
  obtain ⟨fd, F⟩ := F
  exact ⟨f, fd, g, F.kp, F.bindsN bn, F.ok S len fun cdv A outer s H vs Q E hr h => ⟨t E, d cdv A outer s H E hr (L2N.takes_of rfl rfl rfl rfl), pure_ vs H Q E h⟩⟩
/-- C's own __init__ keeps sp -/
structure InitOk (P : Program) (w : World) (K : PySem.W.Frag) (mg : Str → Option Value) (base : Heap) (C : Addr) (k : Nat) (ps : List Str) (sp : Sp) : Prop where
  o : OexC K C
  ex : ∃ fI fd, PySem.W.findIn K (.ref C) "__init__" = some (some (.ref fI)) ∧ PySem.W.typeIn K (.ref fI) = some (.type "function") ∧ Binds K fd ps [] ∧ FnOk P w K mg base (L2N.CX P w) k fI fd ps sp
/-- what the written part says of such a class: one field -/
structure Err1 (K : PySem.W.Frag) (C : Addr) (q : Str) (fl : Str) (params : Arguments) (body : List Stmt) (scope : Scope) : Prop where
  o : OexC K C
  n : PySem.W.findIn K (.ref C) fl = some none
  ex : ∃ fI fd, PySem.W.findIn K (.ref C) "__init__" = some (some (.ref fI)) ∧ PySem.W.typeIn K (.ref fI) = some (.type "function") ∧ FunD K "__init__" q params body scope [] [] fI fd
def sp_init1 (K : PySem.W.Frag) (C : Addr) (fl : Str) : Sp := fun vs H Q _ => ∃ (a : Addr) (y : V), vs = [.ref a, y] ∧ H a = some (exo a C none) ∧ ∀ dx, H dx = none → dx ≠ a → Q .non (upd (upd H dx (exd dx [(fl, y)])) a (exo a C (some dx)))
theorem init1 {C : Addr} {q fl : Str} (h : Err1 K C q fl params body scope) (S : FnScope (["self", fl] : List Str) (["self", fl] : List Str) scope)
    (bn : ∀ (kV doc pm : Value) (an : Option Addr) (cdv ct : Value) (us : List Value), us.length = 2 → bindArgs (PySem.W.fnOf "__init__" q params body scope .none kV doc pm an cdv ct) ⟨us, []⟩ = pure ((["self", fl] : List Str).zip us))
    (dv : ∀ (fI : Addr) (cdv : Value) (A : Around) (outer : List Env) (s : Shared) (H : Hp) (E : XK), PSs (cxOf (L2N.CX P w) P w K mg base (["self", fl] : List Str) q scope fI cdv A outer s H E) body (tOst K fl (tVar 0) (tVar 1))) : InitOk P w K mg base C 1 (["self", fl] : List Str) (sp_init1 K C fl) := by
  obtain ⟨fI, fd, h1, h2, F⟩ := h.ex
  refine ⟨h.o, fI, fd, h1, h2, F.bindsN bn, F.ok S (fun vs H Q E z => by obtain ⟨_, _, e, _⟩ := z; rw [e]; rfl) fun cdv A outer s H vs Q E hr z => ⟨_, dv fI cdv A outer s H E, ?_⟩⟩
  obtain ⟨a, y, ev, ha, q⟩ := z
  subst ev
  exact ⟨y, rfl, .ref a, rfl, a, C, rfl, h.o, h.n, .inl ⟨ha, fun dx h3 h4 => q dx h3 h4⟩⟩
end
/-- made by its class's name -/
theorem pmk_in {X : Cx} {x : Str} {C : Addr} {k j : Nat} {ps : List Str} {sp : Sp} {e : Expr} {es : List Expr} {ta : TA} {p pos : Pos} (h : InitOk X.prog X.w X.K X.mg X.base C k ps sp) (hm : X.mg x = some (.ref C)) (hr : Room j X.A) (ha : PA X (e :: es) ta) (hk : k + 1 ≤ j := by decide) (hg : Gl X x := by rfl) (hdb : (x == ("__debug__" : Str)) = false := by decide)
    (he : starEach (e :: es) X.env = (false, eval e X.env) :: starEach es X.env := by rfl) (hpl : (backTo pos (starEach es X.env)).any (·.1) = false := by rfl) : L2N.PMk X (.Call (.Name x p) (e :: es) [] pos) (tMkO C sp [] ta) := by
  obtain ⟨fI, fd, h1, h2, hb, F⟩ := h.ex
  exact pmkN h.o h1 h2 F (hr.mono hk) hb passN hg hm ha hdb he hpl
/-- raise C(e): its reading -/
def tRaise (E : XK) (t : L2.St → Hp → XK → Prop) : TS := fun _ σ H => t σ H fun cls d H' => E cls d H'
theorem ps_rs {X : Cx} {E : XK} {e : Expr} {t : L2.St → Hp → XK → Prop} {pos : Pos} (hc : X.calm = true) (tk : L2N.Takes X (fun cls d _ H => E cls d H)) (he : L2N.PMk X e t) : PS X (.Raise (some e) none pos) (tRaise E t) := L2N.ps_raise hc tk he
def MkR (E : XK) (K : PySem.W.Frag) (C : Addr) (fl : Str) (y : V) (H1 : Hp) : Prop := ([y] : List V).length ≤ 1000 ∧ ∀ a, H1 a = none → sp_init1 K C fl (.ref a :: ([y] ++ [])) (upd H1 a (exo a C none))
  (fun v H2 => v = .non ∧ ∃ (d : Addr) (fs : List (Str × V)), H2 a = some (exo a C (some d)) ∧ H2 d = some (exd d fs) ∧ H1 d = none ∧ E (.ref C) (some d) (upd (del H2 a) d (.xd fs))) (fun _ _ _ => False)
theorem s_raise1 {E : XK} {K : PySem.W.Frag} {C : Addr} {fl : Str} {te : TE} {D : Ends} {σ : L2.St} {H : Hp} (h : te σ H fun y H1 => MkR E K C fl y H1) : tRaise E (tMkO C (sp_init1 K C fl) [] (tCons te tNil)) D σ H := h
theorem mk_r {E : XK} {K : PySem.W.Frag} {C : Addr} {fl : Str} {y : V} {H1 : Hp} (hq : ∀ d, H1 d = none → E (.ref C) (some d) (upd H1 d (.xd [(fl, y)]))) : MkR E K C fl y H1 := by
  refine ⟨by show 1 ≤ 1000; decide, fun a ha => ⟨a, y, rfl, upd_same, fun dx hdx hne => ⟨rfl, dx, [(fl, y)], upd_same, ?_, ?_, ?_⟩⟩⟩
  · rw [upd_ne hne]; exact upd_same
  · rw [upd_ne hne] at hdx; exact hdx
  · rw [upd_ne hne] at hdx
    have z : upd (del (upd (upd (upd H1 a (exo a C none)) dx (exd dx [(fl, y)])) a (exo a C (some dx))) a) dx (.xd [(fl, y)]) = upd H1 dx (.xd [(fl, y)]) := by
      funext b
      by_cases b1 : b = dx
      · subst b1; rw [upd_same, upd_same]
      · rw [upd_ne b1, upd_ne b1]
        by_cases b2 : b = a
        · subst b2; rw [del_same, ha]
        · rw [del_ne b2, upd_ne b2, upd_ne b1, upd_ne b2]
    rw [z]
    exact hq dx hdx
end NW
namespace NW
open PySem PySem.Spec PyProof.Rows L2
open C8 (tCut pss_cut)
local macro_rules | `(tactic| walk_at "nw") => `(tactic| first
  | with_reducible refine s_seq ?_
  | with_reducible refine s_asg ?_
  | with_reducible refine s_if ?_
  | with_reducible refine s_ret ?_
  | with_reducible refine s_drop ?_
  | with_reducible refine v_var0 ?_
  | with_reducible refine s_name0 ?_
  | with_reducible refine v_aug0 ?_
  | with_reducible refine v_var1 ?_
  | with_reducible refine s_name1 ?_
  | with_reducible refine v_aug1 ?_
  | with_reducible refine v_var2 ?_
  | with_reducible refine s_name2 ?_
  | with_reducible refine v_aug2 ?_
  | with_reducible refine v_var3 ?_
  | with_reducible refine s_name3 ?_
  | with_reducible refine v_aug3 ?_
  | with_reducible refine v_var4 ?_
  | with_reducible refine s_name4 ?_
  | with_reducible refine v_aug4 ?_
  | with_reducible refine v_var5 ?_
  | with_reducible refine s_name5 ?_
  | with_reducible refine v_aug5 ?_
  | with_reducible refine v_var6 ?_
  | with_reducible refine s_name6 ?_
  | with_reducible refine v_aug6 ?_
  | with_reducible refine v_var7 ?_
  | with_reducible refine s_name7 ?_
  | with_reducible refine v_aug7 ?_
  | with_reducible refine v_var8 ?_
  | with_reducible refine s_name8 ?_
  | with_reducible refine v_aug8 ?_
  | with_reducible refine v_var9 ?_
  | with_reducible refine s_name9 ?_
  | with_reducible refine v_aug9 ?_
  | with_reducible refine v_var10 ?_
  | with_reducible refine s_name10 ?_
  | with_reducible refine v_aug10 ?_
  | with_reducible refine v_var11 ?_
  | with_reducible refine s_name11 ?_
  | with_reducible refine v_aug11 ?_
  | with_reducible refine v_var12 ?_
  | with_reducible refine s_name12 ?_
  | with_reducible refine v_aug12 ?_
  | with_reducible refine v_var13 ?_
  | with_reducible refine s_name13 ?_
  | with_reducible refine v_aug13 ?_
  | with_reducible refine v_var14 ?_
  | with_reducible refine s_name14 ?_
  | with_reducible refine v_aug14 ?_
  | with_reducible refine v_var15 ?_
  | with_reducible refine s_name15 ?_
  | with_reducible refine v_aug15 ?_
  | with_reducible refine v_c ?_
  | with_reducible refine v_op ?_
  | with_reducible refine v_cons ?_
  | with_reducible refine v_nil ?_
  | with_reducible refine v_cb ?_
  | with_reducible refine v_call ?_
  | with_reducible refine c_test ?_
  | with_reducible refine c_bl ?_
  | with_reducible refine c_and ?_
  | with_reducible refine c_or ?_
  | with_reducible refine c_not ?_
  | with_reducible refine v_augS ?_
  | with_reducible refine v_sub ?_
  | with_reducible refine add_ii ?_
  | with_reducible refine sub_ii ?_
  | with_reducible refine iadd_ii ?_
  | with_reducible refine lt_ii ?_
  | with_reducible refine le_ii ?_
  | with_reducible refine gt_ii ?_
  | with_reducible refine ge_ii ?_
  | with_reducible refine eq_ii ?_
  | with_reducible refine ne_ii ?_
  | with_reducible refine int_i ?_
  | with_reducible refine abs_i ?_
  | with_reducible refine max_i ?_
  | with_reducible refine min_i ?_
  | with_reducible refine mul_r (by omega) (by omega) ?_
  | with_reducible refine mul_l (by omega) (by omega) ?_
  | with_reducible refine ix_m0 (by assumption) ?_
  | with_reducible refine get_m0 (by assumption) ?_
  | with_reducible refine ix_m1 (by assumption) ?_
  | with_reducible refine get_m1 (by assumption) ?_
  | with_reducible refine ix_m2 (by assumption) ?_
  | with_reducible refine get_m2 (by assumption) ?_
  | with_reducible refine ix_m3 (by assumption) ?_
  | with_reducible refine get_m3 (by assumption) ?_
  | with_reducible refine ix_m4 (by assumption) ?_
  | with_reducible refine get_m4 (by assumption) ?_
  | with_reducible refine ix_m5 (by assumption) ?_
  | with_reducible refine get_m5 (by assumption) ?_
  | (with_reducible refine st_set1 (by assumption) (by assumption) ?_; intro H1 hs1 kp1)
  | (with_reducible refine st_set2 (by assumption) (by assumption) ?_; intro H1 hs1 kp1)
  | (with_reducible refine st_set3 (by assumption) (by assumption) ?_; intro H1 hs1 kp1)
  | (with_reducible refine st_set4 (by assumption) (by assumption) ?_; intro H1 hs1 kp1)
  | (with_reducible refine st_set5 (by assumption) (by assumption) ?_; intro H1 hs1 kp1)
  | with_reducible refine len_m (by assumption) ?_
  | with_reducible refine s_for1 ?_
  | with_reducible refine s_forL ?_
  | with_reducible refine rng1 (by omega) (by omega) ?_
  | with_reducible refine s_next ?_
  | with_reducible refine s_break ?_
  | with_reducible refine s_cont ?_
  | with_reducible refine isi_non_bool ?_
  | with_reducible refine isi_non_int ?_
  | with_reducible refine isi_non_str ?_
  | with_reducible refine isi_non_list ?_
  | with_reducible refine isi_non_tuple ?_
  | with_reducible refine isi_non_dict ?_
  | with_reducible refine isi_non_seq (by assumption) ?_
  | with_reducible refine isi_bl_bool ?_
  | with_reducible refine isi_bl_int ?_
  | with_reducible refine isi_bl_str ?_
  | with_reducible refine isi_bl_list ?_
  | with_reducible refine isi_bl_tuple ?_
  | with_reducible refine isi_bl_dict ?_
  | with_reducible refine isi_bl_seq (by assumption) ?_
  | with_reducible refine isi_int_bool ?_
  | with_reducible refine isi_int_int ?_
  | with_reducible refine isi_int_str ?_
  | with_reducible refine isi_int_list ?_
  | with_reducible refine isi_int_tuple ?_
  | with_reducible refine isi_int_dict ?_
  | with_reducible refine isi_int_seq (by assumption) ?_
  | with_reducible refine isi_str_bool ?_
  | with_reducible refine isi_str_int ?_
  | with_reducible refine isi_str_str ?_
  | with_reducible refine isi_str_list ?_
  | with_reducible refine isi_str_tuple ?_
  | with_reducible refine isi_str_dict ?_
  | with_reducible refine isi_str_seq (by assumption) ?_
  | with_reducible refine isi_lst_bool (by assumption) (by assumption) ?_
  | with_reducible refine isi_lst_int (by assumption) (by assumption) ?_
  | with_reducible refine isi_lst_str (by assumption) (by assumption) ?_
  | with_reducible refine isi_lst_list (by assumption) (by assumption) ?_
  | with_reducible refine isi_lst_tuple (by assumption) (by assumption) ?_
  | with_reducible refine isi_lst_dict (by assumption) (by assumption) ?_
  | with_reducible refine isi_lst_seq (by assumption) (by assumption) (by assumption) ?_
  | with_reducible refine isi_tup_bool (by assumption) (by assumption) ?_
  | with_reducible refine isi_tup_int (by assumption) (by assumption) ?_
  | with_reducible refine isi_tup_str (by assumption) (by assumption) ?_
  | with_reducible refine isi_tup_list (by assumption) (by assumption) ?_
  | with_reducible refine isi_tup_tuple (by assumption) (by assumption) ?_
  | with_reducible refine isi_tup_dict (by assumption) (by assumption) ?_
  | with_reducible refine isi_tup_seq (by assumption) (by assumption) (by assumption) ?_
  | with_reducible refine isi_dK_bool (by assumption) (by assumption) ?_
  | with_reducible refine isi_dK_int (by assumption) (by assumption) ?_
  | with_reducible refine isi_dK_str (by assumption) (by assumption) ?_
  | with_reducible refine isi_dK_list (by assumption) (by assumption) ?_
  | with_reducible refine isi_dK_tuple (by assumption) (by assumption) ?_
  | with_reducible refine isi_dK_dict (by assumption) (by assumption) ?_
  | with_reducible refine isi_dK_seq (by assumption) (by assumption) (by assumption) ?_
  | with_reducible refine eq_bb ?_
  | with_reducible refine eq_ss ?_
  | with_reducible refine ev_isN ?_
  | with_reducible refine ev_tB ?_
  | with_reducible refine ev_and ?_
  | with_reducible refine ev_or ?_
  | with_reducible refine ev_not ?_
  | with_reducible refine c_tru ?_
  | with_reducible refine tru_bl ?_
  | with_reducible refine if_nt ?_
  | with_reducible refine if_nf ?_
  | with_reducible refine tup_new ?_
  | with_reducible refine lst_new ?_
  | with_reducible refine len_ms (by assumption) (by assumption) ?_
  | with_reducible refine len_ts (by assumption) (by assumption) ?_
  | ((with_reducible refine lit_len ?_ ?_); (focus (first | decide | (simp; done) | (simp; omega))))
  | (with_reducible refine new_st (by assumption) (by assumption) ?_; intro q1 H1 hq1 he1 hn1 kp1 hS1 sm1)
  | (with_reducible refine new_same (by assumption) ?_; intro q1 H1 hq1 he1 sm1 hs1)
  | with_reducible refine if_dT rfl ?_
  | ((with_reducible refine if_dF ?_ ?_); focus (intro z; cases z; done))
  | with_reducible refine if_t ?_
  | with_reducible refine if_f ?_
  | ((with_reducible refine c_take (by assumption) (by assumption) ?_ ?_); (focus omega); intro r1 H1 hS1 kp1 h01 h11)
  | with_reducible refine ev_chain ?_
  | ((with_reducible refine c_number (by assumption) (by assumption) ?_ ?_); (focus omega); intro r1 H1 hS1 kp1 h01 h11)
  | ((with_reducible refine c_pick (by assumption) (by assumption) (by assumption) (by assumption) ?_ ?_); (focus (simp; done)); intro r1 H1 hS1 kp1 kk1 h01)
  | with_reducible refine v_bm ?_
  | with_reducible refine v_sl ?_
  | with_reducible refine s_lc1 ?_
  | with_reducible refine s_lcL ?_
  | (with_reducible refine lc_kept ?_ rfl)
  | with_reducible refine c_yes ?_
  | with_reducible refine v_nopart ?_
  | with_reducible refine v_part ?_
  | with_reducible refine part_i ?_
  | with_reducible refine ty_l (by assumption) ?_)
local macro_rules | `(tactic| walk_at "go") => `(tactic| repeat' (first | walk_at "nw" | ((with_reducible refine if_d ?_ ?_) <;> intro c1) | ((with_reducible refine if_nd ?_ ?_) <;> intro c1)))
end NW
namespace NW
open PySem PySem.Spec PyProof.Rows L2
open C8 (tCut pss_cut)
local macro_rules | `(tactic| walk_at "nw") => `(tactic| first
  | with_reducible refine s_seq ?_
  | with_reducible refine s_asg ?_
  | with_reducible refine s_if ?_
  | with_reducible refine s_ret ?_
  | with_reducible refine s_drop ?_
  | with_reducible refine v_var0 ?_
  | with_reducible refine s_name0 ?_
  | with_reducible refine v_aug0 ?_
  | with_reducible refine v_var1 ?_
  | with_reducible refine s_name1 ?_
  | with_reducible refine v_aug1 ?_
  | with_reducible refine v_var2 ?_
  | with_reducible refine s_name2 ?_
  | with_reducible refine v_aug2 ?_
  | with_reducible refine v_var3 ?_
  | with_reducible refine s_name3 ?_
  | with_reducible refine v_aug3 ?_
  | with_reducible refine v_var4 ?_
  | with_reducible refine s_name4 ?_
  | with_reducible refine v_aug4 ?_
  | with_reducible refine v_var5 ?_
  | with_reducible refine s_name5 ?_
  | with_reducible refine v_aug5 ?_
  | with_reducible refine v_var6 ?_
  | with_reducible refine s_name6 ?_
  | with_reducible refine v_aug6 ?_
  | with_reducible refine v_var7 ?_
  | with_reducible refine s_name7 ?_
  | with_reducible refine v_aug7 ?_
  | with_reducible refine v_var8 ?_
  | with_reducible refine s_name8 ?_
  | with_reducible refine v_aug8 ?_
  | with_reducible refine v_var9 ?_
  | with_reducible refine s_name9 ?_
  | with_reducible refine v_aug9 ?_
  | with_reducible refine v_var10 ?_
  | with_reducible refine s_name10 ?_
  | with_reducible refine v_aug10 ?_
  | with_reducible refine v_var11 ?_
  | with_reducible refine s_name11 ?_
  | with_reducible refine v_aug11 ?_
  | with_reducible refine v_var12 ?_
  | with_reducible refine s_name12 ?_
  | with_reducible refine v_aug12 ?_
  | with_reducible refine v_var13 ?_
  | with_reducible refine s_name13 ?_
  | with_reducible refine v_aug13 ?_
  | with_reducible refine v_var14 ?_
  | with_reducible refine s_name14 ?_
  | with_reducible refine v_aug14 ?_
  | with_reducible refine v_var15 ?_
  | with_reducible refine s_name15 ?_
  | with_reducible refine v_aug15 ?_
  | with_reducible refine v_c ?_
  | with_reducible refine v_op ?_
  | with_reducible refine v_cons ?_
  | with_reducible refine v_nil ?_
  | with_reducible refine v_cb ?_
  | with_reducible refine v_call ?_
  | with_reducible refine c_test ?_
  | with_reducible refine c_bl ?_
  | with_reducible refine c_and ?_
  | with_reducible refine c_or ?_
  | with_reducible refine c_not ?_
  | with_reducible refine v_augS ?_
  | with_reducible refine v_sub ?_
  | with_reducible refine add_ii ?_
  | with_reducible refine sub_ii ?_
  | with_reducible refine iadd_ii ?_
  | with_reducible refine lt_ii ?_
  | with_reducible refine le_ii ?_
  | with_reducible refine gt_ii ?_
  | with_reducible refine ge_ii ?_
  | with_reducible refine eq_ii ?_
  | with_reducible refine ne_ii ?_
  | with_reducible refine int_i ?_
  | with_reducible refine abs_i ?_
  | with_reducible refine max_i ?_
  | with_reducible refine min_i ?_
  | with_reducible refine mul_r (by omega) (by omega) ?_
  | with_reducible refine mul_l (by omega) (by omega) ?_
  | with_reducible refine ix_m0 (by assumption) ?_
  | with_reducible refine get_m0 (by assumption) ?_
  | with_reducible refine ix_m1 (by assumption) ?_
  | with_reducible refine get_m1 (by assumption) ?_
  | with_reducible refine ix_m2 (by assumption) ?_
  | with_reducible refine get_m2 (by assumption) ?_
  | with_reducible refine ix_m3 (by assumption) ?_
  | with_reducible refine get_m3 (by assumption) ?_
  | with_reducible refine ix_m4 (by assumption) ?_
  | with_reducible refine get_m4 (by assumption) ?_
  | with_reducible refine ix_m5 (by assumption) ?_
  | with_reducible refine get_m5 (by assumption) ?_
  | (with_reducible refine st_set1 (by assumption) (by assumption) ?_; intro H1 hs1 kp1)
  | (with_reducible refine st_set2 (by assumption) (by assumption) ?_; intro H1 hs1 kp1)
  | (with_reducible refine st_set3 (by assumption) (by assumption) ?_; intro H1 hs1 kp1)
  | (with_reducible refine st_set4 (by assumption) (by assumption) ?_; intro H1 hs1 kp1)
  | (with_reducible refine st_set5 (by assumption) (by assumption) ?_; intro H1 hs1 kp1)
  | with_reducible refine len_m (by assumption) ?_
  | with_reducible refine s_for1 ?_
  | with_reducible refine s_forL ?_
  | with_reducible refine rng1 (by omega) (by omega) ?_
  | with_reducible refine s_next ?_
  | with_reducible refine s_break ?_
  | with_reducible refine s_cont ?_
  | with_reducible refine isi_non_bool ?_
  | with_reducible refine isi_non_int ?_
  | with_reducible refine isi_non_str ?_
  | with_reducible refine isi_non_list ?_
  | with_reducible refine isi_non_tuple ?_
  | with_reducible refine isi_non_dict ?_
  | with_reducible refine isi_non_seq (by assumption) ?_
  | with_reducible refine isi_bl_bool ?_
  | with_reducible refine isi_bl_int ?_
  | with_reducible refine isi_bl_str ?_
  | with_reducible refine isi_bl_list ?_
  | with_reducible refine isi_bl_tuple ?_
  | with_reducible refine isi_bl_dict ?_
  | with_reducible refine isi_bl_seq (by assumption) ?_
  | with_reducible refine isi_int_bool ?_
  | with_reducible refine isi_int_int ?_
  | with_reducible refine isi_int_str ?_
  | with_reducible refine isi_int_list ?_
  | with_reducible refine isi_int_tuple ?_
  | with_reducible refine isi_int_dict ?_
  | with_reducible refine isi_int_seq (by assumption) ?_
  | with_reducible refine isi_str_bool ?_
  | with_reducible refine isi_str_int ?_
  | with_reducible refine isi_str_str ?_
  | with_reducible refine isi_str_list ?_
  | with_reducible refine isi_str_tuple ?_
  | with_reducible refine isi_str_dict ?_
  | with_reducible refine isi_str_seq (by assumption) ?_
  | with_reducible refine isi_lst_bool (by assumption) (by assumption) ?_
  | with_reducible refine isi_lst_int (by assumption) (by assumption) ?_
  | with_reducible refine isi_lst_str (by assumption) (by assumption) ?_
  | with_reducible refine isi_lst_list (by assumption) (by assumption) ?_
  | with_reducible refine isi_lst_tuple (by assumption) (by assumption) ?_
  | with_reducible refine isi_lst_dict (by assumption) (by assumption) ?_
  | with_reducible refine isi_lst_seq (by assumption) (by assumption) (by assumption) ?_
  | with_reducible refine isi_tup_bool (by assumption) (by assumption) ?_
  | with_reducible refine isi_tup_int (by assumption) (by assumption) ?_
  | with_reducible refine isi_tup_str (by assumption) (by assumption) ?_
  | with_reducible refine isi_tup_list (by assumption) (by assumption) ?_
  | with_reducible refine isi_tup_tuple (by assumption) (by assumption) ?_
  | with_reducible refine isi_tup_dict (by assumption) (by assumption) ?_
  | with_reducible refine isi_tup_seq (by assumption) (by assumption) (by assumption) ?_
  | with_reducible refine isi_dK_bool (by assumption) (by assumption) ?_
  | with_reducible refine isi_dK_int (by assumption) (by assumption) ?_
  | with_reducible refine isi_dK_str (by assumption) (by assumption) ?_
  | with_reducible refine isi_dK_list (by assumption) (by assumption) ?_
  | with_reducible refine isi_dK_tuple (by assumption) (by assumption) ?_
  | with_reducible refine isi_dK_dict (by assumption) (by assumption) ?_
  | with_reducible refine isi_dK_seq (by assumption) (by assumption) (by assumption) ?_
  | with_reducible refine eq_bb ?_
  | with_reducible refine eq_ss ?_
  | with_reducible refine ev_isN ?_
  | with_reducible refine ev_tB ?_
  | with_reducible refine ev_and ?_
  | with_reducible refine ev_or ?_
  | with_reducible refine ev_not ?_
  | with_reducible refine c_tru ?_
  | with_reducible refine tru_bl ?_
  | with_reducible refine if_nt ?_
  | with_reducible refine if_nf ?_
  | with_reducible refine tup_new ?_
  | with_reducible refine lst_new ?_
  | with_reducible refine len_ms (by assumption) (by assumption) ?_
  | with_reducible refine len_ts (by assumption) (by assumption) ?_
  | ((with_reducible refine lit_len ?_ ?_); (focus (first | decide | (simp; done) | (simp; omega))))
  | (with_reducible refine new_st (by assumption) (by assumption) ?_; intro q1 H1 hq1 he1 hn1 kp1 hS1 sm1)
  | (with_reducible refine new_same (by assumption) ?_; intro q1 H1 hq1 he1 sm1 hs1)
  | with_reducible refine if_dT rfl ?_
  | ((with_reducible refine if_dF ?_ ?_); focus (intro z; cases z; done))
  | with_reducible refine if_t ?_
  | with_reducible refine if_f ?_
  | ((with_reducible refine c_take (by assumption) (by assumption) ?_ ?_); (focus omega); intro r1 H1 hS1 kp1 h01 h11)
  | with_reducible refine ev_chain ?_
  | ((with_reducible refine c_number (by assumption) (by assumption) ?_ ?_); (focus omega); intro r1 H1 hS1 kp1 h01 h11)
  | ((with_reducible refine c_pick (by assumption) (by assumption) (by assumption) (by assumption) ?_ ?_); (focus (simp; done)); intro r1 H1 hS1 kp1 kk1 h01)
  | with_reducible refine v_bm ?_
  | with_reducible refine v_sl ?_
  | with_reducible refine s_lc1 ?_
  | with_reducible refine s_lcL ?_
  | (with_reducible refine lc_kept ?_ rfl)
  | with_reducible refine c_yes ?_
  | with_reducible refine v_nopart ?_
  | with_reducible refine v_part ?_
  | with_reducible refine part_i ?_
  | with_reducible refine ty_l (by assumption) ?_)
local macro_rules | `(tactic| walk_at "go") => `(tactic| repeat' (first | walk_at "nw" | ((with_reducible refine if_d ?_ ?_) <;> intro c1) | ((with_reducible refine if_nd ?_ ?_) <;> intro c1)))
end NW
namespace NW
open PySem PySem.Spec PyProof.Rows L2
open C8 (tCut pss_cut)
local macro_rules | `(tactic| walk_at "nw") => `(tactic| first
  | with_reducible refine s_seq ?_
  | with_reducible refine s_asg ?_
  | with_reducible refine s_if ?_
  | with_reducible refine s_ret ?_
  | with_reducible refine s_drop ?_
  | with_reducible refine v_var0 ?_
  | with_reducible refine s_name0 ?_
  | with_reducible refine v_aug0 ?_
  | with_reducible refine v_var1 ?_
  | with_reducible refine s_name1 ?_
  | with_reducible refine v_aug1 ?_
  | with_reducible refine v_var2 ?_
  | with_reducible refine s_name2 ?_
  | with_reducible refine v_aug2 ?_
  | with_reducible refine v_var3 ?_
  | with_reducible refine s_name3 ?_
  | with_reducible refine v_aug3 ?_
  | with_reducible refine v_var4 ?_
  | with_reducible refine s_name4 ?_
  | with_reducible refine v_aug4 ?_
  | with_reducible refine v_var5 ?_
  | with_reducible refine s_name5 ?_
  | with_reducible refine v_aug5 ?_
  | with_reducible refine v_var6 ?_
  | with_reducible refine s_name6 ?_
  | with_reducible refine v_aug6 ?_
  | with_reducible refine v_var7 ?_
  | with_reducible refine s_name7 ?_
  | with_reducible refine v_aug7 ?_
  | with_reducible refine v_var8 ?_
  | with_reducible refine s_name8 ?_
  | with_reducible refine v_aug8 ?_
  | with_reducible refine v_var9 ?_
  | with_reducible refine s_name9 ?_
  | with_reducible refine v_aug9 ?_
  | with_reducible refine v_var10 ?_
  | with_reducible refine s_name10 ?_
  | with_reducible refine v_aug10 ?_
  | with_reducible refine v_var11 ?_
  | with_reducible refine s_name11 ?_
  | with_reducible refine v_aug11 ?_
  | with_reducible refine v_var12 ?_
  | with_reducible refine s_name12 ?_
  | with_reducible refine v_aug12 ?_
  | with_reducible refine v_var13 ?_
  | with_reducible refine s_name13 ?_
  | with_reducible refine v_aug13 ?_
  | with_reducible refine v_var14 ?_
  | with_reducible refine s_name14 ?_
  | with_reducible refine v_aug14 ?_
  | with_reducible refine v_var15 ?_
  | with_reducible refine s_name15 ?_
  | with_reducible refine v_aug15 ?_
  | with_reducible refine v_c ?_
  | with_reducible refine v_op ?_
  | with_reducible refine v_cons ?_
  | with_reducible refine v_nil ?_
  | with_reducible refine v_cb ?_
  | with_reducible refine v_call ?_
  | with_reducible refine c_test ?_
  | with_reducible refine c_bl ?_
  | with_reducible refine c_and ?_
  | with_reducible refine c_or ?_
  | with_reducible refine c_not ?_
  | with_reducible refine v_augS ?_
  | with_reducible refine v_sub ?_
  | with_reducible refine add_ii ?_
  | with_reducible refine sub_ii ?_
  | with_reducible refine iadd_ii ?_
  | with_reducible refine lt_ii ?_
  | with_reducible refine le_ii ?_
  | with_reducible refine gt_ii ?_
  | with_reducible refine ge_ii ?_
  | with_reducible refine eq_ii ?_
  | with_reducible refine ne_ii ?_
  | with_reducible refine int_i ?_
  | with_reducible refine abs_i ?_
  | with_reducible refine max_i ?_
  | with_reducible refine min_i ?_
  | with_reducible refine mul_r (by omega) (by omega) ?_
  | with_reducible refine mul_l (by omega) (by omega) ?_
  | with_reducible refine ix_m0 (by assumption) ?_
  | with_reducible refine get_m0 (by assumption) ?_
  | with_reducible refine ix_m1 (by assumption) ?_
  | with_reducible refine get_m1 (by assumption) ?_
  | with_reducible refine ix_m2 (by assumption) ?_
  | with_reducible refine get_m2 (by assumption) ?_
  | with_reducible refine ix_m3 (by assumption) ?_
  | with_reducible refine get_m3 (by assumption) ?_
  | with_reducible refine ix_m4 (by assumption) ?_
  | with_reducible refine get_m4 (by assumption) ?_
  | with_reducible refine ix_m5 (by assumption) ?_
  | with_reducible refine get_m5 (by assumption) ?_
  | (with_reducible refine st_set1 (by assumption) (by assumption) ?_; intro H1 hs1 kp1)
  | (with_reducible refine st_set2 (by assumption) (by assumption) ?_; intro H1 hs1 kp1)
  | (with_reducible refine st_set3 (by assumption) (by assumption) ?_; intro H1 hs1 kp1)
  | (with_reducible refine st_set4 (by assumption) (by assumption) ?_; intro H1 hs1 kp1)
  | (with_reducible refine st_set5 (by assumption) (by assumption) ?_; intro H1 hs1 kp1)
  | with_reducible refine len_m (by assumption) ?_
  | with_reducible refine s_for1 ?_
  | with_reducible refine s_forL ?_
  | with_reducible refine rng1 (by omega) (by omega) ?_
  | with_reducible refine s_next ?_
  | with_reducible refine s_break ?_
  | with_reducible refine s_cont ?_
  | with_reducible refine isi_non_bool ?_
  | with_reducible refine isi_non_int ?_
  | with_reducible refine isi_non_str ?_
  | with_reducible refine isi_non_list ?_
  | with_reducible refine isi_non_tuple ?_
  | with_reducible refine isi_non_dict ?_
  | with_reducible refine isi_non_seq (by assumption) ?_
  | with_reducible refine isi_bl_bool ?_
  | with_reducible refine isi_bl_int ?_
  | with_reducible refine isi_bl_str ?_
  | with_reducible refine isi_bl_list ?_
  | with_reducible refine isi_bl_tuple ?_
  | with_reducible refine isi_bl_dict ?_
  | with_reducible refine isi_bl_seq (by assumption) ?_
  | with_reducible refine isi_int_bool ?_
  | with_reducible refine isi_int_int ?_
  | with_reducible refine isi_int_str ?_
  | with_reducible refine isi_int_list ?_
  | with_reducible refine isi_int_tuple ?_
  | with_reducible refine isi_int_dict ?_
  | with_reducible refine isi_int_seq (by assumption) ?_
  | with_reducible refine isi_str_bool ?_
  | with_reducible refine isi_str_int ?_
  | with_reducible refine isi_str_str ?_
  | with_reducible refine isi_str_list ?_
  | with_reducible refine isi_str_tuple ?_
  | with_reducible refine isi_str_dict ?_
  | with_reducible refine isi_str_seq (by assumption) ?_
  | with_reducible refine isi_lst_bool (by assumption) (by assumption) ?_
  | with_reducible refine isi_lst_int (by assumption) (by assumption) ?_
  | with_reducible refine isi_lst_str (by assumption) (by assumption) ?_
  | with_reducible refine isi_lst_list (by assumption) (by assumption) ?_
  | with_reducible refine isi_lst_tuple (by assumption) (by assumption) ?_
  | with_reducible refine isi_lst_dict (by assumption) (by assumption) ?_
  | with_reducible refine isi_lst_seq (by assumption) (by assumption) (by assumption) ?_
  | with_reducible refine isi_tup_bool (by assumption) (by assumption) ?_
  | with_reducible refine isi_tup_int (by assumption) (by assumption) ?_
  | with_reducible refine isi_tup_str (by assumption) (by assumption) ?_
  | with_reducible refine isi_tup_list (by assumption) (by assumption) ?_
  | with_reducible refine isi_tup_tuple (by assumption) (by assumption) ?_
  | with_reducible refine isi_tup_dict (by assumption) (by assumption) ?_
  | with_reducible refine isi_tup_seq (by assumption) (by assumption) (by assumption) ?_
  | with_reducible refine isi_dK_bool (by assumption) (by assumption) ?_
  | with_reducible refine isi_dK_int (by assumption) (by assumption) ?_
  | with_reducible refine isi_dK_str (by assumption) (by assumption) ?_
  | with_reducible refine isi_dK_list (by assumption) (by assumption) ?_
  | with_reducible refine isi_dK_tuple (by assumption) (by assumption) ?_
  | with_reducible refine isi_dK_dict (by assumption) (by assumption) ?_
  | with_reducible refine isi_dK_seq (by assumption) (by assumption) (by assumption) ?_
  | with_reducible refine eq_bb ?_
  | with_reducible refine eq_ss ?_
  | with_reducible refine ev_isN ?_
  | with_reducible refine ev_tB ?_
  | with_reducible refine ev_and ?_
  | with_reducible refine ev_or ?_
  | with_reducible refine ev_not ?_
  | with_reducible refine c_tru ?_
  | with_reducible refine tru_bl ?_
  | with_reducible refine if_nt ?_
  | with_reducible refine if_nf ?_
  | with_reducible refine tup_new ?_
  | with_reducible refine lst_new ?_
  | with_reducible refine len_ms (by assumption) (by assumption) ?_
  | with_reducible refine len_ts (by assumption) (by assumption) ?_
  | ((with_reducible refine lit_len ?_ ?_); (focus (first | decide | (simp; done) | (simp; omega))))
  | (with_reducible refine new_st (by assumption) (by assumption) ?_; intro q1 H1 hq1 he1 hn1 kp1 hS1 sm1)
  | (with_reducible refine new_same (by assumption) ?_; intro q1 H1 hq1 he1 sm1 hs1)
  | with_reducible refine if_dT rfl ?_
  | ((with_reducible refine if_dF ?_ ?_); focus (intro z; cases z; done))
  | with_reducible refine if_t ?_
  | with_reducible refine if_f ?_
  | ((with_reducible refine c_take (by assumption) (by assumption) ?_ ?_); (focus omega); intro r1 H1 hS1 kp1 h01 h11)
  | with_reducible refine ev_chain ?_
  | ((with_reducible refine c_number (by assumption) (by assumption) ?_ ?_); (focus omega); intro r1 H1 hS1 kp1 h01 h11)
  | ((with_reducible refine c_pick (by assumption) (by assumption) (by assumption) (by assumption) ?_ ?_); (focus (simp; done)); intro r1 H1 hS1 kp1 kk1 h01)
  | with_reducible refine v_bm ?_
  | with_reducible refine v_sl ?_
  | with_reducible refine s_lc1 ?_
  | with_reducible refine s_lcL ?_
  | (with_reducible refine lc_kept ?_ rfl)
  | with_reducible refine c_yes ?_
  | with_reducible refine v_nopart ?_
  | with_reducible refine v_part ?_
  | with_reducible refine part_i ?_
  | with_reducible refine ty_l (by assumption) ?_)
local macro_rules | `(tactic| walk_at "go") => `(tactic| repeat' (first | walk_at "nw" | ((with_reducible refine if_d ?_ ?_) <;> intro c1) | ((with_reducible refine if_nd ?_ ?_) <;> intro c1)))
end NW
namespace NW
open PySem PySem.Spec PyProof.Rows L2
open C8 (tCut pss_cut)
theorem tkNone {X : Cx} : L2N.Takes X (fun _ _ _ _ => False) := fun _ _ x => by
  obtain ⟨_, _, _, _, _, _, _, _, _, _, _, _, _, _, _, _, z⟩ := x
  exact z.elim
def tTryA (K : PySem.W.Frag) (c : Value) (i : Nat) (tb : WX → TS) (ts : Addr → Value → Option Addr → TS) (Wout : WX) : TS := fun D σ H => tb (wAs K c i ts Wout D) D σ H
theorem ps_tryA {X : Cx} {x n : Str} {c : Value} {i : Nat} {body suite : List Stmt} {b₀ : Stmt} {np pos pos' : Pos} {tb : WX → TS} {ts : Addr → Value → Option Addr → TS} {Wout : WX}
    (hs : X.stack = X.env :: X.outer) (hf : X.env.frame = some X.env.locals) (hN : X.N.Nodup) (hi : X.N[i]? = some n) (hln : X.env.kindOf n = some .local) (hc : Names X x c) (tk : L2N.Takes X Wout)
    (hb : ∀ (W : WX) (pn : List (Addr × Obj)) (xe : Value → Shared → Prop), L2N.Takes (X.tr pn xe) W → PassesOwn (model X.prog X.w) X.A X.env xe → PSs (X.tr pn xe) body (tb W))
    (hsu : ∀ (a : Addr) (oe : Obj) (cls : Value) (d : Option Addr) (pn : List (Addr × Obj)), L2N.Zn cls d oe → (∃ vs, oe.data = .fields vs) → PSs (X.suite a ((a, oe) :: pn)) (b₀ :: suite) (ts a cls d)) :
    PS X (.Try body [.ExceptHandler (some (.Name x np)) (some n) (b₀ :: suite) pos'] [] [] pos) (tTryA X.K c i tb ts Wout) :=
  L2N.ps_try_as hs hf hN hi hln hc tk hb hsu
theorem hotS {X : Cx} {a : Addr} {oe : Obj} {cls : Value} {d : Option Addr} {pn : List (Addr × Obj)} (hz : L2N.Zn cls d oe) (hf : ∃ vs, oe.data = .fields vs) : HotP (X.suite a ((a, oe) :: pn)) (a, oe) := by
  obtain ⟨vs, e⟩ := hf
  exact ⟨⟨rfl, vs, e, hz.2.2 vs e⟩, List.mem_cons_self⟩
theorem roomS {X : Cx} {a : Addr} {k : Nat} {pn : List (Addr × Obj)} (hr : Room k X.A) : L2H.RoomH k (X.suite a pn).A := ⟨hr.dp, hr.un⟩
def tXfE (K : PySem.W.Frag) (a : Addr) (cls : Value) (d : Option Addr) (f : Str) (te : TE) : TE := fun σ H Q => ∃ C : Addr, cls = .ref C ∧ XfC K C ∧ PySem.W.findIn K (.ref C) f = some none ∧ tXf a cls d C f te σ H Q
theorem pe_xfE {X : Cx} {a : Addr} {oe : Obj} {cls : Value} {d : Option Addr} {pn : List (Addr × Obj)} {e : Expr} {te : TE} {pos : Pos} {n : Str} (hz : L2N.Zn cls d oe) (hf : ∃ vs, oe.data = .fields vs)
    (he : PE (X.suite a ((a, oe) :: pn)) e te) (hb : attributeBase e n X.env (eval e X.env) = eval e X.env := by rfl) : PE (X.suite a ((a, oe) :: pn)) (.Attribute e n pos) (tXfE X.K a cls d n te) := by
  refine ⟨fun pins s σ H Q I hh => ?_⟩
  obtain ⟨C, ec, T, hno, hq⟩ := hh
  exact (pe_xf T hno hz.zc hf he hb).run pins s σ H Q I hq
theorem was_y {K : PySem.W.Frag} {c cls : Value} {d : Option Addr} {i : Nat} {ts : Addr → Value → Option Addr → TS} {Wout : WX} {D : Ends} {σ : L2.St} {H : Hp} (he : PySem.W.exmOne K cls c = some true)
    (h : ∀ a, H a = none → ts a cls d { nx := fun σ' H' => D.nx (σ'.set i none) H', rt := D.rt, bk := fun σ' H' => D.bk (σ'.set i none) H', ct := fun σ' H' => D.ct (σ'.set i none) H' } (σ.set i (some (.ref a))) H) : wAs K c i ts Wout D cls d σ H :=
  ⟨true, he, fun _ => h, fun z => Bool.noConfusion z⟩
/-- what is asked of an error class of which an error is handled -/
structure ErrF (K : PySem.W.Frag) (C : Addr) (b : Str → Bool) : Prop where
  kit : KitF K C b
  exc : ExcC K C
  xf : XfC K C
  nest : PySem.W.exmOne K (.ref C) (.ref (He.ga K "NestError")) = some true
section
variable {K : PySem.W.Frag} {a C : Addr} {d : Option Addr} {te : TE} {σ : L2.St} {H : Hp} {Q : VK} {b : Str → Bool} {n : Str} {cls : Value}
theorem c_xf (T : XfC K C) (hno : PySem.W.findIn K (.ref C) n = some none) (h : te σ H fun x H1 => x = .ref a ∧ ∃ (dd : Addr) (fs : List (Str × V)) (v : V), d = some dd ∧ H1 dd = some (.xd fs) ∧ fs.lookup n = some v ∧ Q v H1) (hv : ∃ i, te = tVar i) : tXfE K a (.ref C) d n te σ H Q := by
  refine ⟨C, rfl, T, hno, ?_⟩
  obtain ⟨i, rfl⟩ := hv
  obtain ⟨v, e, e1, h1⟩ := h
  subst e1
  exact ⟨_, e, rfl, rfl, h1⟩
end
def dV : V → DT
  | .int i => .int i
  | .bl b => .bl b
  | .str s => .str s
  | _ => .non
end NW
namespace NW
open PySem PySem.Spec PyProof.Rows L2
open C8 (tCut pss_cut)
local macro_rules | `(tactic| walk_at "nw") => `(tactic| first
  | with_reducible refine s_seq ?_
  | with_reducible refine s_asg ?_
  | with_reducible refine s_if ?_
  | with_reducible refine s_ret ?_
  | with_reducible refine s_drop ?_
  | with_reducible refine v_var0 ?_
  | with_reducible refine s_name0 ?_
  | with_reducible refine v_aug0 ?_
  | with_reducible refine v_var1 ?_
  | with_reducible refine s_name1 ?_
  | with_reducible refine v_aug1 ?_
  | with_reducible refine v_var2 ?_
  | with_reducible refine s_name2 ?_
  | with_reducible refine v_aug2 ?_
  | with_reducible refine v_var3 ?_
  | with_reducible refine s_name3 ?_
  | with_reducible refine v_aug3 ?_
  | with_reducible refine v_var4 ?_
  | with_reducible refine s_name4 ?_
  | with_reducible refine v_aug4 ?_
  | with_reducible refine v_var5 ?_
  | with_reducible refine s_name5 ?_
  | with_reducible refine v_aug5 ?_
  | with_reducible refine v_var6 ?_
  | with_reducible refine s_name6 ?_
  | with_reducible refine v_aug6 ?_
  | with_reducible refine v_var7 ?_
  | with_reducible refine s_name7 ?_
  | with_reducible refine v_aug7 ?_
  | with_reducible refine v_var8 ?_
  | with_reducible refine s_name8 ?_
  | with_reducible refine v_aug8 ?_
  | with_reducible refine v_var9 ?_
  | with_reducible refine s_name9 ?_
  | with_reducible refine v_aug9 ?_
  | with_reducible refine v_var10 ?_
  | with_reducible refine s_name10 ?_
  | with_reducible refine v_aug10 ?_
  | with_reducible refine v_var11 ?_
  | with_reducible refine s_name11 ?_
  | with_reducible refine v_aug11 ?_
  | with_reducible refine v_var12 ?_
  | with_reducible refine s_name12 ?_
  | with_reducible refine v_aug12 ?_
  | with_reducible refine v_var13 ?_
  | with_reducible refine s_name13 ?_
  | with_reducible refine v_aug13 ?_
  | with_reducible refine v_var14 ?_
  | with_reducible refine s_name14 ?_
  | with_reducible refine v_aug14 ?_
  | with_reducible refine v_var15 ?_
  | with_reducible refine s_name15 ?_
  | with_reducible refine v_aug15 ?_
  | with_reducible refine v_c ?_
  | with_reducible refine v_op ?_
  | with_reducible refine v_cons ?_
  | with_reducible refine v_nil ?_
  | with_reducible refine v_cb ?_
  | with_reducible refine v_call ?_
  | with_reducible refine c_test ?_
  | with_reducible refine c_bl ?_
  | with_reducible refine c_and ?_
  | with_reducible refine c_or ?_
  | with_reducible refine c_not ?_
  | with_reducible refine v_augS ?_
  | with_reducible refine v_sub ?_
  | with_reducible refine add_ii ?_
  | with_reducible refine sub_ii ?_
  | with_reducible refine iadd_ii ?_
  | with_reducible refine lt_ii ?_
  | with_reducible refine le_ii ?_
  | with_reducible refine gt_ii ?_
  | with_reducible refine ge_ii ?_
  | with_reducible refine eq_ii ?_
  | with_reducible refine ne_ii ?_
  | with_reducible refine int_i ?_
  | with_reducible refine abs_i ?_
  | with_reducible refine max_i ?_
  | with_reducible refine min_i ?_
  | with_reducible refine mul_r (by omega) (by omega) ?_
  | with_reducible refine mul_l (by omega) (by omega) ?_
  | with_reducible refine ix_m0 (by assumption) ?_
  | with_reducible refine get_m0 (by assumption) ?_
  | with_reducible refine ix_m1 (by assumption) ?_
  | with_reducible refine get_m1 (by assumption) ?_
  | with_reducible refine ix_m2 (by assumption) ?_
  | with_reducible refine get_m2 (by assumption) ?_
  | with_reducible refine ix_m3 (by assumption) ?_
  | with_reducible refine get_m3 (by assumption) ?_
  | with_reducible refine ix_m4 (by assumption) ?_
  | with_reducible refine get_m4 (by assumption) ?_
  | with_reducible refine ix_m5 (by assumption) ?_
  | with_reducible refine get_m5 (by assumption) ?_
  | (with_reducible refine st_set1 (by assumption) (by assumption) ?_; intro H1 hs1 kp1)
  | (with_reducible refine st_set2 (by assumption) (by assumption) ?_; intro H1 hs1 kp1)
  | (with_reducible refine st_set3 (by assumption) (by assumption) ?_; intro H1 hs1 kp1)
  | (with_reducible refine st_set4 (by assumption) (by assumption) ?_; intro H1 hs1 kp1)
  | (with_reducible refine st_set5 (by assumption) (by assumption) ?_; intro H1 hs1 kp1)
  | with_reducible refine len_m (by assumption) ?_
  | with_reducible refine s_for1 ?_
  | with_reducible refine s_forL ?_
  | with_reducible refine rng1 (by omega) (by omega) ?_
  | with_reducible refine s_next ?_
  | with_reducible refine s_break ?_
  | with_reducible refine s_cont ?_
  | with_reducible refine isi_non_bool ?_
  | with_reducible refine isi_non_int ?_
  | with_reducible refine isi_non_str ?_
  | with_reducible refine isi_non_list ?_
  | with_reducible refine isi_non_tuple ?_
  | with_reducible refine isi_non_dict ?_
  | with_reducible refine isi_non_seq (by assumption) ?_
  | with_reducible refine isi_bl_bool ?_
  | with_reducible refine isi_bl_int ?_
  | with_reducible refine isi_bl_str ?_
  | with_reducible refine isi_bl_list ?_
  | with_reducible refine isi_bl_tuple ?_
  | with_reducible refine isi_bl_dict ?_
  | with_reducible refine isi_bl_seq (by assumption) ?_
  | with_reducible refine isi_int_bool ?_
  | with_reducible refine isi_int_int ?_
  | with_reducible refine isi_int_str ?_
  | with_reducible refine isi_int_list ?_
  | with_reducible refine isi_int_tuple ?_
  | with_reducible refine isi_int_dict ?_
  | with_reducible refine isi_int_seq (by assumption) ?_
  | with_reducible refine isi_str_bool ?_
  | with_reducible refine isi_str_int ?_
  | with_reducible refine isi_str_str ?_
  | with_reducible refine isi_str_list ?_
  | with_reducible refine isi_str_tuple ?_
  | with_reducible refine isi_str_dict ?_
  | with_reducible refine isi_str_seq (by assumption) ?_
  | with_reducible refine isi_lst_bool (by assumption) (by assumption) ?_
  | with_reducible refine isi_lst_int (by assumption) (by assumption) ?_
  | with_reducible refine isi_lst_str (by assumption) (by assumption) ?_
  | with_reducible refine isi_lst_list (by assumption) (by assumption) ?_
  | with_reducible refine isi_lst_tuple (by assumption) (by assumption) ?_
  | with_reducible refine isi_lst_dict (by assumption) (by assumption) ?_
  | with_reducible refine isi_lst_seq (by assumption) (by assumption) (by assumption) ?_
  | with_reducible refine isi_tup_bool (by assumption) (by assumption) ?_
  | with_reducible refine isi_tup_int (by assumption) (by assumption) ?_
  | with_reducible refine isi_tup_str (by assumption) (by assumption) ?_
  | with_reducible refine isi_tup_list (by assumption) (by assumption) ?_
  | with_reducible refine isi_tup_tuple (by assumption) (by assumption) ?_
  | with_reducible refine isi_tup_dict (by assumption) (by assumption) ?_
  | with_reducible refine isi_tup_seq (by assumption) (by assumption) (by assumption) ?_
  | with_reducible refine isi_dK_bool (by assumption) (by assumption) ?_
  | with_reducible refine isi_dK_int (by assumption) (by assumption) ?_
  | with_reducible refine isi_dK_str (by assumption) (by assumption) ?_
  | with_reducible refine isi_dK_list (by assumption) (by assumption) ?_
  | with_reducible refine isi_dK_tuple (by assumption) (by assumption) ?_
  | with_reducible refine isi_dK_dict (by assumption) (by assumption) ?_
  | with_reducible refine isi_dK_seq (by assumption) (by assumption) (by assumption) ?_
  | with_reducible refine eq_bb ?_
  | with_reducible refine eq_ss ?_
  | with_reducible refine ev_isN ?_
  | with_reducible refine ev_tB ?_
  | with_reducible refine ev_and ?_
  | with_reducible refine ev_or ?_
  | with_reducible refine ev_not ?_
  | with_reducible refine c_tru ?_
  | with_reducible refine tru_bl ?_
  | with_reducible refine if_nt ?_
  | with_reducible refine if_nf ?_
  | with_reducible refine tup_new ?_
  | with_reducible refine lst_new ?_
  | with_reducible refine len_ms (by assumption) (by assumption) ?_
  | with_reducible refine len_ts (by assumption) (by assumption) ?_
  | ((with_reducible refine lit_len ?_ ?_); (focus (first | decide | (simp; done) | (simp; omega))))
  | (with_reducible refine new_st (by assumption) (by assumption) ?_; intro q1 H1 hq1 he1 hn1 kp1 hS1 sm1)
  | (with_reducible refine new_same (by assumption) ?_; intro q1 H1 hq1 he1 sm1 hs1)
  | with_reducible refine if_dT rfl ?_
  | ((with_reducible refine if_dF ?_ ?_); focus (intro z; cases z; done))
  | with_reducible refine if_t ?_
  | with_reducible refine if_f ?_
  | ((with_reducible refine c_take (by assumption) (by assumption) ?_ ?_); (focus omega); intro r1 H1 hS1 kp1 h01 h11)
  | with_reducible refine ev_chain ?_
  | ((with_reducible refine c_number (by assumption) (by assumption) ?_ ?_); (focus omega); intro r1 H1 hS1 kp1 h01 h11)
  | ((with_reducible refine c_pick (by assumption) (by assumption) (by assumption) (by assumption) ?_ ?_); (focus (simp; done)); intro r1 H1 hS1 kp1 kk1 h01)
  | with_reducible refine v_bm ?_
  | with_reducible refine v_sl ?_
  | with_reducible refine s_lc1 ?_
  | with_reducible refine s_lcL ?_
  | (with_reducible refine lc_kept ?_ rfl)
  | with_reducible refine c_yes ?_
  | with_reducible refine v_nopart ?_
  | with_reducible refine v_part ?_
  | with_reducible refine part_i ?_
  | with_reducible refine ty_l (by assumption) ?_)
local macro_rules | `(tactic| walk_at "go") => `(tactic| repeat' (first | walk_at "nw" | ((with_reducible refine if_d ?_ ?_) <;> intro c1) | ((with_reducible refine if_nd ?_ ?_) <;> intro c1)))
end NW
namespace NW
open PySem PySem.Spec PyProof.Rows L2
open C8 (tCut pss_cut)
local macro_rules | `(tactic| walk_at "nw") => `(tactic| first
  | with_reducible refine s_seq ?_
  | with_reducible refine s_asg ?_
  | with_reducible refine s_if ?_
  | with_reducible refine s_ret ?_
  | with_reducible refine s_drop ?_
  | with_reducible refine v_var0 ?_
  | with_reducible refine s_name0 ?_
  | with_reducible refine v_aug0 ?_
  | with_reducible refine v_var1 ?_
  | with_reducible refine s_name1 ?_
  | with_reducible refine v_aug1 ?_
  | with_reducible refine v_var2 ?_
  | with_reducible refine s_name2 ?_
  | with_reducible refine v_aug2 ?_
  | with_reducible refine v_var3 ?_
  | with_reducible refine s_name3 ?_
  | with_reducible refine v_aug3 ?_
  | with_reducible refine v_var4 ?_
  | with_reducible refine s_name4 ?_
  | with_reducible refine v_aug4 ?_
  | with_reducible refine v_var5 ?_
  | with_reducible refine s_name5 ?_
  | with_reducible refine v_aug5 ?_
  | with_reducible refine v_var6 ?_
  | with_reducible refine s_name6 ?_
  | with_reducible refine v_aug6 ?_
  | with_reducible refine v_var7 ?_
  | with_reducible refine s_name7 ?_
  | with_reducible refine v_aug7 ?_
  | with_reducible refine v_var8 ?_
  | with_reducible refine s_name8 ?_
  | with_reducible refine v_aug8 ?_
  | with_reducible refine v_var9 ?_
  | with_reducible refine s_name9 ?_
  | with_reducible refine v_aug9 ?_
  | with_reducible refine v_var10 ?_
  | with_reducible refine s_name10 ?_
  | with_reducible refine v_aug10 ?_
  | with_reducible refine v_var11 ?_
  | with_reducible refine s_name11 ?_
  | with_reducible refine v_aug11 ?_
  | with_reducible refine v_var12 ?_
  | with_reducible refine s_name12 ?_
  | with_reducible refine v_aug12 ?_
  | with_reducible refine v_var13 ?_
  | with_reducible refine s_name13 ?_
  | with_reducible refine v_aug13 ?_
  | with_reducible refine v_var14 ?_
  | with_reducible refine s_name14 ?_
  | with_reducible refine v_aug14 ?_
  | with_reducible refine v_var15 ?_
  | with_reducible refine s_name15 ?_
  | with_reducible refine v_aug15 ?_
  | with_reducible refine v_c ?_
  | with_reducible refine v_op ?_
  | with_reducible refine v_cons ?_
  | with_reducible refine v_nil ?_
  | with_reducible refine v_cb ?_
  | with_reducible refine v_call ?_
  | with_reducible refine c_test ?_
  | with_reducible refine c_bl ?_
  | with_reducible refine c_and ?_
  | with_reducible refine c_or ?_
  | with_reducible refine c_not ?_
  | with_reducible refine v_augS ?_
  | with_reducible refine v_sub ?_
  | with_reducible refine add_ii ?_
  | with_reducible refine sub_ii ?_
  | with_reducible refine iadd_ii ?_
  | with_reducible refine lt_ii ?_
  | with_reducible refine le_ii ?_
  | with_reducible refine gt_ii ?_
  | with_reducible refine ge_ii ?_
  | with_reducible refine eq_ii ?_
  | with_reducible refine ne_ii ?_
  | with_reducible refine int_i ?_
  | with_reducible refine abs_i ?_
  | with_reducible refine max_i ?_
  | with_reducible refine min_i ?_
  | with_reducible refine mul_r (by omega) (by omega) ?_
  | with_reducible refine mul_l (by omega) (by omega) ?_
  | with_reducible refine ix_m0 (by assumption) ?_
  | with_reducible refine get_m0 (by assumption) ?_
  | with_reducible refine ix_m1 (by assumption) ?_
  | with_reducible refine get_m1 (by assumption) ?_
  | with_reducible refine ix_m2 (by assumption) ?_
  | with_reducible refine get_m2 (by assumption) ?_
  | with_reducible refine ix_m3 (by assumption) ?_
  | with_reducible refine get_m3 (by assumption) ?_
  | with_reducible refine ix_m4 (by assumption) ?_
  | with_reducible refine get_m4 (by assumption) ?_
  | with_reducible refine ix_m5 (by assumption) ?_
  | with_reducible refine get_m5 (by assumption) ?_
  | (with_reducible refine st_set1 (by assumption) (by assumption) ?_; intro H1 hs1 kp1)
  | (with_reducible refine st_set2 (by assumption) (by assumption) ?_; intro H1 hs1 kp1)
  | (with_reducible refine st_set3 (by assumption) (by assumption) ?_; intro H1 hs1 kp1)
  | (with_reducible refine st_set4 (by assumption) (by assumption) ?_; intro H1 hs1 kp1)
  | (with_reducible refine st_set5 (by assumption) (by assumption) ?_; intro H1 hs1 kp1)
  | with_reducible refine len_m (by assumption) ?_
  | with_reducible refine s_for1 ?_
  | with_reducible refine s_forL ?_
  | with_reducible refine rng1 (by omega) (by omega) ?_
  | with_reducible refine s_next ?_
  | with_reducible refine s_break ?_
  | with_reducible refine s_cont ?_
  | with_reducible refine isi_non_bool ?_
  | with_reducible refine isi_non_int ?_
  | with_reducible refine isi_non_str ?_
  | with_reducible refine isi_non_list ?_
  | with_reducible refine isi_non_tuple ?_
  | with_reducible refine isi_non_dict ?_
  | with_reducible refine isi_non_seq (by assumption) ?_
  | with_reducible refine isi_bl_bool ?_
  | with_reducible refine isi_bl_int ?_
  | with_reducible refine isi_bl_str ?_
  | with_reducible refine isi_bl_list ?_
  | with_reducible refine isi_bl_tuple ?_
  | with_reducible refine isi_bl_dict ?_
  | with_reducible refine isi_bl_seq (by assumption) ?_
  | with_reducible refine isi_int_bool ?_
  | with_reducible refine isi_int_int ?_
  | with_reducible refine isi_int_str ?_
  | with_reducible refine isi_int_list ?_
  | with_reducible refine isi_int_tuple ?_
  | with_reducible refine isi_int_dict ?_
  | with_reducible refine isi_int_seq (by assumption) ?_
  | with_reducible refine isi_str_bool ?_
  | with_reducible refine isi_str_int ?_
  | with_reducible refine isi_str_str ?_
  | with_reducible refine isi_str_list ?_
  | with_reducible refine isi_str_tuple ?_
  | with_reducible refine isi_str_dict ?_
  | with_reducible refine isi_str_seq (by assumption) ?_
  | with_reducible refine isi_lst_bool (by assumption) (by assumption) ?_
  | with_reducible refine isi_lst_int (by assumption) (by assumption) ?_
  | with_reducible refine isi_lst_str (by assumption) (by assumption) ?_
  | with_reducible refine isi_lst_list (by assumption) (by assumption) ?_
  | with_reducible refine isi_lst_tuple (by assumption) (by assumption) ?_
  | with_reducible refine isi_lst_dict (by assumption) (by assumption) ?_
  | with_reducible refine isi_lst_seq (by assumption) (by assumption) (by assumption) ?_
  | with_reducible refine isi_tup_bool (by assumption) (by assumption) ?_
  | with_reducible refine isi_tup_int (by assumption) (by assumption) ?_
  | with_reducible refine isi_tup_str (by assumption) (by assumption) ?_
  | with_reducible refine isi_tup_list (by assumption) (by assumption) ?_
  | with_reducible refine isi_tup_tuple (by assumption) (by assumption) ?_
  | with_reducible refine isi_tup_dict (by assumption) (by assumption) ?_
  | with_reducible refine isi_tup_seq (by assumption) (by assumption) (by assumption) ?_
  | with_reducible refine isi_dK_bool (by assumption) (by assumption) ?_
  | with_reducible refine isi_dK_int (by assumption) (by assumption) ?_
  | with_reducible refine isi_dK_str (by assumption) (by assumption) ?_
  | with_reducible refine isi_dK_list (by assumption) (by assumption) ?_
  | with_reducible refine isi_dK_tuple (by assumption) (by assumption) ?_
  | with_reducible refine isi_dK_dict (by assumption) (by assumption) ?_
  | with_reducible refine isi_dK_seq (by assumption) (by assumption) (by assumption) ?_
  | with_reducible refine eq_bb ?_
  | with_reducible refine eq_ss ?_
  | with_reducible refine ev_isN ?_
  | with_reducible refine ev_tB ?_
  | with_reducible refine ev_and ?_
  | with_reducible refine ev_or ?_
  | with_reducible refine ev_not ?_
  | with_reducible refine c_tru ?_
  | with_reducible refine tru_bl ?_
  | with_reducible refine if_nt ?_
  | with_reducible refine if_nf ?_
  | with_reducible refine tup_new ?_
  | with_reducible refine lst_new ?_
  | with_reducible refine len_ms (by assumption) (by assumption) ?_
  | with_reducible refine len_ts (by assumption) (by assumption) ?_
  | ((with_reducible refine lit_len ?_ ?_); (focus (first | decide | (simp; done) | (simp; omega))))
  | (with_reducible refine new_st (by assumption) (by assumption) ?_; intro q1 H1 hq1 he1 hn1 kp1 hS1 sm1)
  | (with_reducible refine new_same (by assumption) ?_; intro q1 H1 hq1 he1 sm1 hs1)
  | with_reducible refine if_dT rfl ?_
  | ((with_reducible refine if_dF ?_ ?_); focus (intro z; cases z; done))
  | with_reducible refine if_t ?_
  | with_reducible refine if_f ?_
  | ((with_reducible refine c_take (by assumption) (by assumption) ?_ ?_); (focus omega); intro r1 H1 hS1 kp1 h01 h11)
  | with_reducible refine ev_chain ?_
  | ((with_reducible refine c_number (by assumption) (by assumption) ?_ ?_); (focus omega); intro r1 H1 hS1 kp1 h01 h11)
  | ((with_reducible refine c_pick (by assumption) (by assumption) (by assumption) (by assumption) ?_ ?_); (focus (simp; done)); intro r1 H1 hS1 kp1 kk1 h01)
  | with_reducible refine v_bm ?_
  | with_reducible refine v_sl ?_
  | with_reducible refine s_lc1 ?_
  | with_reducible refine s_lcL ?_
  | (with_reducible refine lc_kept ?_ rfl)
  | with_reducible refine c_yes ?_
  | with_reducible refine v_nopart ?_
  | with_reducible refine v_part ?_
  | with_reducible refine part_i ?_
  | with_reducible refine ty_l (by assumption) ?_)
local macro_rules | `(tactic| walk_at "go") => `(tactic| repeat' (first | walk_at "nw" | ((with_reducible refine if_d ?_ ?_) <;> intro c1) | ((with_reducible refine if_nd ?_ ?_) <;> intro c1)))
end NW
namespace NW
open PySem PySem.Spec PyProof.Rows L2
section
variable {K : PySem.W.Frag} {C : Addr} {b : Str → Bool}
theorem oexK_ok (q : oexK K C = true) : ∃ nm q N bs bm sn sub ab col dd k0 k1 k2 k3 k5, K.lookup C = some (excClassObj nm q C N bs bm true sn sub ab col dd k0 k1 k2 k3 k5 "ValueError.__new__") ∧ PySem.HandSPX.refsVE bm = true := by
  unfold oexK at q
  split at q
  · rename_i dd cd sl ho
    split at q
    · rename_i C' bm k0 k1 k2 k3 n k5 hm hs
      simp only [Bool.and_eq_true, beq_iff_eq, Bool.not_eq_true'] at q
      obtain ⟨⟨⟨⟨rfl, rfl⟩, hdel⟩, hdi⟩, ht⟩ := q
      obtain ⟨nm, bs, mro, ns, qn, hd, sn, sub, ab, col, del⟩ := cd
      dsimp only at hm hdel hdi
      subst hm hdel hdi
      have hsl : sl = #[k0, k1, k2, k3, some (.builtin "ValueError.__new__"), k5] := by
        obtain ⟨l⟩ := sl
        simp only at hs
        rw [hs]
      subst hsl
      exact ⟨nm, qn, ns, bs, bm, sn, sub, ab, col, dd, k0, k1, k2, k3, k5, ho, ht⟩
    · cases q
  · cases q
theorem oexB_ok (h : oexB K C = true) : OexC K C := by
  obtain ⟨h1, h⟩ := He.ba h
  obtain ⟨h2, h⟩ := He.ba h
  obtain ⟨h3, h⟩ := He.ba h
  obtain ⟨h4, h5⟩ := He.ba h
  exact ⟨oexK_ok h1, He.eqO_ok h2, of_decide_eq_true h3, of_decide_eq_true h4, h5⟩
theorem kitFB_ok (h : kitFB K C b = true) : KitF K C b := by
  obtain ⟨h1, h2⟩ := He.ba h
  exact ⟨of_decide_eq_true h1, fun n hn => of_decide_eq_true (List.all_eq_true.mp h2 n hn)⟩
theorem excCB_ok (h : excCB K C = true) : ExcC K C := by
  obtain ⟨h1, h⟩ := He.ba h
  obtain ⟨h2, h⟩ := He.ba h
  obtain ⟨h3, h⟩ := He.ba h
  obtain ⟨h4, h⟩ := He.ba h
  obtain ⟨h5, h⟩ := He.ba h
  obtain ⟨h6, h⟩ := He.ba h
  obtain ⟨h7, h8⟩ := He.ba h
  exact ⟨He.eqO_ok h1, He.eqO_ok h2, of_decide_eq_true h3, h4, He.eqO_ok h5, He.eqO_ok h6, of_decide_eq_true h7, of_decide_eq_true h8⟩
theorem errFB_ok (h : errFB K C b = true) : ErrF K C b := by
  obtain ⟨h1, h⟩ := He.ba h
  obtain ⟨h2, h⟩ := He.ba h
  obtain ⟨h3, h4⟩ := He.ba h
  exact ⟨kitFB_ok h1, excCB_ok h2, xfB_ok h3, of_decide_eq_true h4⟩
theorem err1_ok {x fl q : Str} {params : Arguments} {body : List Stmt} {scope : Scope} (h : oexB K (He.ga K x) = true) (hi : iniB K (He.ga K x) = true) (hn : He.eqO (PySem.W.findIn K (.ref (He.ga K x)) fl) (some none) = true)
    (hd : ∃ fd, FunD K "__init__" q params body scope [] [] (He.ma K (He.ga K x) "__init__") fd) : Err1 K (He.ga K x) q fl params body scope := by
  obtain ⟨h1, h2⟩ := He.ba hi
  obtain ⟨fd, F⟩ := hd
  exact ⟨oexB_ok h, He.eqO_ok hn, He.ma K (He.ga K x) "__init__", fd, He.eqO_ok h1, of_decide_eq_true h2, F⟩
end
/-- the law: nothing is let out -/
theorem law_of {P : Program} {w : World} {K : PySem.W.Frag} {mg : Str → Option Value} {base : Heap} {x : Str} {params : Arguments} {body : List Stmt} {scope : Scope} {f : Addr} {fd : FuncData} {N ps : List Str} {k : Nat} {sp : Sp} {t : TS} (F : FunD K x x params body scope [] [] f fd) (S : FnScope N ps scope) (len : ∀ vs H Q E, sp vs H Q E → vs.length = ps.length)
    (d : ∀ (cdv : Value) (A : Around) (outer : List Env) (s : Shared) (H : Hp) (E : XK), Room k (A.deeper (envOfC x scope s.heap.objs.size f cdv)) → PSs (cxOf CX0 P w K mg base N x scope f cdv A outer s H E).nox body t)
    (pure_ : ∀ vs H Q E, sp vs H Q E → t { nx := fun _ H' => Q .non H', rt := Q } (start N vs) H) : FnOk P w K mg base CX0 (k + 1) f fd ps sp :=
  F.ok S len fun cdv A outer s H vs Q E hr h => ⟨t, PSs.nox (d cdv A outer s H E hr), pure_ vs H Q E h⟩
theorem ref_inj {a b : Addr} (h : some (Value.ref a) = some (Value.ref b)) : a = b := by
  cases h
  rfl
theorem okAt {l : List Bool} (h : l.all id = true) (i : Nat) {b : Bool} (e : l[i]? = some b := by rfl) : b = true := List.all_eq_true.mp h b (List.mem_of_getElem? e)
end NW
namespace NW
open PySem PySem.Spec PyProof.Rows L2 PySem.W PySem.W.KIN
theorem wp_textL {M : Model} {A : Around} {E : Value → Shared → Prop} {s : Shared} {Q : Value → Shared → Prop} {v : Value} {text : List Nat} {n : Int} (hd : s.heap.NoDigits)
    (hr : (int_private% "readNumeral") (if (text.takeWhile (· != 0)).length ≤ 640 then 0 else 4300) 10 (text.takeWhile (· != 0)) = (int_private% "Numeral.value") n)
    (ha : ((text.takeWhile (· != 0)).length == text.length) = true) (h : Q (.int n s.toks) { s with toks := s.toks + 1 }) :
    wpAny M A ((int_private% "intFromText") v text 10) Q E s := by
  by_cases hl : (text.takeWhile (· != 0)).length ≤ 640
  · rw [if_pos hl] at hr
    exact wp_text hl hr ha h
  · rw [if_neg hl] at hr
    obtain ⟨mc, hns, hnone⟩ := hd
    have lim : ∀ {R : Nat → Shared → Prop}, R 4300 s → wpAny M A Builtin.intMaxStrDigits R E s := fun {R} q => by
      unfold Builtin.intMaxStrDigits
      refine wpAny_bind (wpAny_nsGet hns ?_)
      rw [hnone]
      exact wpAny_pure q
    obtain ⟨hp, g, d, tk, os⟩ := s
    wp_step
    rw [if_neg hl]
    refine wpAny_bind (lim ?_)
    dsimp only
    rw [hr]
    dsimp only
    repeat (any_goals (first
      | assumption
      | (with_reducible refine wpAny_ite_true (decide_eq_true ha) ?_)
      | wp_step))
set_option maxHeartbeats 4000000 in
theorem call_textL {prog : Program} {w : World} {A : Around} {E : Value → Shared → Prop} {s : Shared} {Q : Value → Shared → Prop} {x : Str} {u : Tok} {n : Int} (hd : s.heap.NoDigits) (hl : x.length ≤ sizeLine) (hn : PySem.intText? x = some n)
    (h : Q (.int n s.toks) { s with toks := s.toks + 1 }) : wpAny (model prog w) A (call (.type "int") [.str x u]) Q E s := by
  have g : Meets (Builtin.«int.__new__» ⟨[.type "int", .str x u], []⟩) (fun A R s => s.heap.NoDigits ∧ R (.ok (.ret (.int n s.toks))) { s with toks := s.toks + 1 }) := .of_wp fun prog w A R s hz => by
    obtain ⟨hd, hq⟩ := hz
    obtain ⟨hp, g, d, tk, os⟩ := s
    have hd' : hp.NoDigits := hd
    have f1 := F.conv_sub_int
    have f2 := F.madeHere_int
    have f3 := str_int
    have f4 := str_idx
    have f5 := str_trunc
    have f6 : typeOf (.str x u) = pure (.type "str") := rfl
    have hr : (int_private% "readNumeral") (if (numSeenOf x).length ≤ 640 then 0 else 4300) 10 (numSeenOf x) = (int_private% "Numeral.value") n ∧ ((numSeenOf x).length == (numTextOf x).length) = true := by
      rcases readAny x hl with ⟨m, h1, h2, h3⟩ | ⟨h1, _⟩
      · rw [hn] at h1
        injection h1 with h1
        subst h1
        exact ⟨h3, h2⟩
      · rw [hn] at h1
        cases h1
    have hk := Hid.mk hr
    have hq' := Hid.mk hq
    clear hr hl hn hq hd h
    repeat (any_goals (first
      | assumption
      | ((with_reducible show wpAny _ _ ((int_private% "intFromText") _ _ _) _ _ _); refine wp_textL hd' hk.out.1 hk.out.2 ?_)
      | wp_step))
    all_goals first | exact ⟨_, rfl, hq'.out⟩ | skip
  exact call_int_1 g ⟨hd, rfl, h⟩
/-- the interpreter's own limit on digits stands as laid -/
theorem digK_ok {K : PySem.W.Frag} {h : Heap} (X : K.In h) (c : digK K = true) : h.NoDigits := by
  obtain ⟨c1, c2⟩ := He.ba c
  exact ⟨_, .of_isNs (PySem.W.isNs_of_in X c1), PySem.W.nsMap_none_of_in X c1 (He.eqO_ok c2)⟩
def rIntL : List V → Hp → VK → Prop := fun xs H Q => ∃ a n, xs = [.str a] ∧ PySem.intText? a = some n ∧ a.length ≤ sizeLine ∧ Q (.int n) H
theorem cIntL {X : Cx} (c : digK X.K = true) : CallR X (.type "int") rIntL := by
  intro pins s σ H xs us Q I rs h
  obtain ⟨a, n, rfl, hn, hl, h⟩ := h
  cases rs with
  | cons r1 rs =>
    cases rs
    obtain ⟨t, rfl⟩ := r1
    exact call_textL (digK_ok I.kIn c) hl hn ⟨.int n, H, I.tok _, ⟨_, rfl⟩, h⟩
end NW
namespace NW
open PySem PySem.Spec PyProof.Rows L2 RT
section
variable {prog : Program} {w : World} {A : Around} {E : Value → Shared → Prop} {s : Shared}
theorem ext_rev {R : Result → Shared → Prop} {it l : Addr} {items : Array Value} (hh : A.handled = none) (hit : s.heap.IsRevIter it l ((items.size : Int) - 1)) (hl : s.heap.IsList l items) (hne : l ≠ it) (hn : items.size ≤ sizeLine)
    (S : Addr) (res : Value) (c₀ : Nat) (hS : s.heap.get? S = some { cls := .type "list", data := .seq #[] c₀ }) (hSi : S ≠ it) (hSl : S ≠ l)
    (hR : ∀ h' tk acc c', (∀ b o, b ≠ S → b ≠ it → s.heap.get? b = some o → h'.get? b = some o) → h'.get? S = some { cls := .type "list", dict := none, data := .seq acc c', slots := #[] } → ItemsOf (fun i v => items[items.size - 1 - i]? = some v) acc items.size → R (.ok (.ret res)) { s with heap := h', toks := tk }) :
    wpAny (model prog w) A.in1 (Builtin.List.listExtendWith (.ref S) (.ref it) res) (fun fin s' => match fin with | .done f => R (.ok f) s' | .again c' => c'.quiet = true ∧ codeAny (model prog w) A c' R s') (fun e s' => R (.error e) s') s := by
  have Wk := (Walks.listRev (prog := prog) (w := w) (A := A.in1) hh it l hne items).toS
  have off : S ∉ [it, l] := by simp [hSi, hSl]
  have ty : s.TypeIs (.ref it) "list_reverseiterator" := hit.typeIs
  have ns : Builtin.List.listSameRef (.ref S) (.ref it) = false := by simp [Builtin.List.listSameRef, hSi]
  unfold Builtin.List.listExtendWith
  refine wpAny_bind (wpAny_typeOf ty ?_)
  rw [if_neg (by rw [ns]; decide)]
  refine wpAny_bind (wpAny_pyIter_revIter hit ?_)
  refine wpAny_bind (wpAny_holding ?_)
  unfold Builtin.List.listLengthHint
  refine wpAny_bind (wpAny_specialOf ty nolen_lri ?_)
  show wpAny _ A.in1 (specialOf (Value.ref it) (Str.ofString "__length_hint__") >>= _) _ _ _
  refine wpAny_bind (wpAny_specialOf ty hint_lri ?_)
  generalize hid : ("list_reverseiterator.__length_hint__" : String) = id0
  wp_delta
  rw [show splitId id0 = some ("list_reverseiterator", "__length_hint__") from by subst hid; decide +kernel]
  subst hid
  refine wpAny_bind (wpAny_isInstance (b := true) ty (by rw [isSubtype_type]; kernel_rfl) ?_)
  refine wpAny_pure ?_
  rw [if_neg (by decide)]
  have e0 : ((items.size : Nat) : Int) - 1 - ((0 : Nat) : Int) = (items.size : Int) - 1 := by omega
  refine wpAny_pure ⟨plainId_quiet F.plain_extend_loop _, codeAny_extend_loopS Wk hn S off res items.size 0 _ #[] c₀ rfl (Nat.zero_le _) ⟨Nat.zero_le _, by rw [e0]; exact hit, hl⟩ hS (ItemsOf.nil _) fun s' acc c' hm hS' hacc => ?_⟩
  rw [Moved.eq_with hm]
  refine hR s'.heap s'.toks acc c' (fun b o h1 h2 e => hm.heap b o (fun hmem => ?_) e) hS' hacc
  rcases List.mem_cons.mp hmem with z | z
  · exact h1 z
  · exact h2 (List.mem_singleton.mp z)
theorem call_list_rev {it l : Addr} {items : Array Value} {Q : Value → Shared → Prop} (hh : A.handled = none) (hit : s.heap.IsRevIter it l ((items.size : Int) - 1)) (hl : s.heap.IsList l items) (hne : l ≠ it) (hn : items.size ≤ sizeLine)
    (hQ : ∀ h' tk acc c', (∀ b o, b ≠ it → s.heap.get? b = some o → h'.get? b = some o) → h'.get? s.heap.objs.size = some { cls := .type "list", dict := none, data := .seq acc c', slots := #[] } → ItemsOf (fun i v => items[items.size - 1 - i]? = some v) acc items.size → Q (.ref s.heap.objs.size) { s with heap := h', toks := tk }) :
    wpAny (model prog w) A (call (.type "list") [.ref it]) Q E s := by
  have li : it < s.heap.objs.size := by
    obtain ⟨o, ho, _⟩ := hit
    exact Heap.lt_size ho
  have ll : l < s.heap.objs.size := by
    obtain ⟨o, ho, _⟩ := hl
    exact Heap.lt_size ho
  refine callType_codes (Q₁ := fun obj s₁ => obj = .ref s.heap.objs.size ∧ s₁ = { s with heap := s.heap.push { cls := .type "list", data := .seq #[] } }) F.called_list (F.typeCall_list_1 _) F.entry_list_init (code_list_new _ ⟨rfl, rfl⟩) fun obj s₁ hz => ?_
  obtain ⟨rfl, rfl⟩ := hz
  have h0 : (s.heap.push { cls := .type "list", data := .seq #[] }).get? s.heap.objs.size = some { cls := .type "list", data := .seq #[] } := Heap.get?_push_size _ rfl
  refine ⟨⟨_, h0, rfl⟩, F.args_list_init_2 _ _, ?_⟩
  show wpAny _ _ (do let old ← Builtin.List.listItems (.ref s.heap.objs.size); Builtin.List.listUpdate (.ref s.heap.objs.size) (fun _ => #[]); letGo old.toList.reverse; Builtin.List.listExtendWith (.ref s.heap.objs.size) (.ref it) .none) _ _ _
  refine wpAny_bind ?_
  unfold Builtin.List.listItems
  refine wpAny_bind (wpAny_seqItems h0 rfl (wpAny_pure ?_))
  show wpAny _ _ (updateSeq s.heap.objs.size (fun _ => #[]) >>= fun _ => letGo (#[] : Array Value).toList.reverse >>= fun _ => Builtin.List.listExtendWith (.ref s.heap.objs.size) (.ref it) .none) _ _ _
  refine wpAny_bind (wpAny_updateSeq h0 rfl ?_)
  obtain ⟨c0, h1⟩ : ∃ c0, ((s.heap.push { cls := .type "list", data := .seq #[] }).update s.heap.objs.size (Obj.mapSeq (fun _ => (#[] : Array Value)))).get? s.heap.objs.size = some { cls := .type "list", data := .seq #[] c0 } := ⟨_, Heap.get?_update_self (Obj.mapSeq (fun _ => (#[] : Array Value))) h0 rfl⟩
  have oth : ∀ b o, b ≠ s.heap.objs.size → (s.heap.push { cls := .type "list", data := .seq #[] }).get? b = some o → ((s.heap.push { cls := .type "list", data := .seq #[] }).update s.heap.objs.size (Obj.mapSeq (fun _ => (#[] : Array Value)))).get? b = some o := fun b o hb e => (Heap.get?_update_other _ _ (Ne.symm hb)).trans e
  have up : ∀ b o, s.heap.get? b = some o → ((s.heap.push { cls := .type "list", data := .seq #[] }).update s.heap.objs.size (Obj.mapSeq (fun _ => (#[] : Array Value)))).get? b = some o := fun b o e => oth b o (Nat.ne_of_lt (Heap.lt_size e)) (Heap.get?_push_of_some _ e)
  refine wpAny_bind (wpAny_letGo ?_)
  refine ext_rev (A := A.in1) (R := wants (fun r s₂ => r = Value.none ∧ Q (Value.ref s.heap.objs.size) s₂) E) (s := { s with heap := (s.heap.push { cls := .type "list", data := .seq #[] }).update s.heap.objs.size (Obj.mapSeq (fun _ => (#[] : Array Value))) }) hh (hit.at fun o e => up _ o e) ?_ hne hn _ _ _ h1 (Nat.ne_of_gt li) (Nat.ne_of_gt ll) fun h' tk acc c' hk hS' hacc => ?_
  · obtain ⟨o, ho, r⟩ := hl
    exact ⟨o, up _ _ ho, r⟩
  · exact ⟨rfl, hQ h' tk acc c' (fun b o hb e => hk b o (Nat.ne_of_lt (Heap.lt_size e)) hb (up b o e)) hS' hacc⟩
end
section
variable {X : Cx}
/-- list(reversed(x)), x a list: a new list -/
def tListRev (K : PySem.W.Frag) (te : TE) : TE := fun σ H Q => te σ H fun v H1 => ∃ (a : Addr) (xs : List V), v = .ref a ∧ SqL K H1 a xs ∧ NewR (.lst xs.reverse) H1 Q
theorem pe_listRev {e : Expr} {te : TE} {p p2 pos pos2 : Pos} (hc : X.calm = true) (hg : Gl X "list") (hm : X.mg "list" = none) (hg2 : Gl X "reversed") (hm2 : X.mg "reversed" = none) (he : PE X e te)
    (hs : starEach [e] X.env = (false, eval e X.env) :: starEach [] X.env := by rfl)
    (hs2 : starEach [.Call (.Name "reversed" p2) [e] [] pos2] X.env = (false, eval (.Call (.Name "reversed" p2) [e] [] pos2) X.env) :: starEach [] X.env := by rfl) :
    PE X (.Call (.Name "list" p) [.Call (.Name "reversed" p2) [e] [] pos2] [] pos) (tListRev X.K te) := by
  refine ⟨fun pn s0 ρ H0 Q I0 h0 => ?_⟩
  refine Call_ (ld_blt I0 hg hm (by decide +kernel) (PyProof.Rows.callWith_type1 (T := "list") (args_cons (Call_ (ld_blt I0 hg2 hm2 PyProof.Rows.boot_reversed (PyProof.Rows.callWith_type1 (args_cons (thn (he.run pn s0 ρ H0 _ I0 h0) fun u s1 hh => args_nil ?_) hs) hs rfl))) hs2) hs2 rfl))
  obtain ⟨v, H1, I1, r1, a, xs, ev, hq, q⟩ := hh
  subst ev
  obtain rfl : u = Value.ref a := r1
  obtain ⟨its, rv, pl, hz⟩ := I1.list hq
  refine call_reversed_list pl.isList (args_nil ?_)
  have k0 : ∀ b o, s1.heap.get? b = some o → (s1.heap.push (revObj a ((its.toArray.size : Int) - 1))).get? b = some o := fun b o z => Heap.get?_push_of_some _ z
  have il := pl.isList
  obtain ⟨ol, hol, _⟩ := id il
  have hne : a ≠ s1.heap.objs.size := Nat.ne_of_lt (Heap.lt_size hol)
  have hn : its.toArray.size ≤ sizeLine := by rw [List.size_toArray, ← rv.length]; exact hz
  refine call_list_rev (s := { s1 with heap := s1.heap.push (revObj a ((its.toArray.size : Int) - 1)) }) (I1.ok.hd hc) ⟨_, Heap.get?_push_size _ rfl, rfl, rfl⟩ (il.push _) hne hn fun h' tk acc c' hk hS hi => ?_
  have sz : (s1.heap.push (revObj a ((its.toArray.size : Int) - 1))).objs.size = s1.heap.objs.size + 1 := Heap.size_push _ _
  have up : s1.heap.objs.size ≤ (s1.heap.push (revObj a ((its.toArray.size : Int) - 1))).objs.size := by rw [sz]; exact Nat.le_succ _
  refine ⟨.ref _, upd H1 (s1.heap.push (revObj a ((its.toArray.size : Int) - 1))).objs.size (.lst xs.reverse), I1.laid (t' := tk) (fun b o z => hk b o (Nat.ne_of_lt (Heap.lt_size z)) (k0 b o z)) up ?_, rfl, q _ (I1.hok.fresh up)⟩
  refine ⟨by rw [List.length_reverse]; exact hz, acc.toList, c', vals_rev rv hi, ?_⟩
  rw [Array.toArray_toList]
  exact hS
end
end NW
namespace NW
open PySem PySem.Spec PyProof.Rows L2
def rMulS : R2 := fun x y H Q => ∃ (a : Str) (k : Nat), x = .str a ∧ y = .int (k : Int) ∧ k ≤ 1000000 ∧ a.length * k ≤ 1000000 ∧ ∀ b : Str, b.cps.toList = (List.replicate k a.cps.toList).flatten → Q (.str b) H
theorem fold_app : ∀ (l : List (Array Nat)) (acc : Array Nat), (l.foldl (· ++ ·) acc).toList = acc.toList ++ (l.map (·.toList)).flatten
  | [], acc => by simp
  | a :: l, acc => by
    rw [List.foldl_cons, fold_app l (acc ++ a)]
    simp
theorem oMulS {X : Cx} : OpR X (binaryOp .Mult) rMulS := by
  intro pn s ρ H x y v u Q I rx ry h
  obtain ⟨a, k, ex, ey, hk, hl, q⟩ := h
  subst ex ey
  obtain ⟨t1, e1⟩ := rx
  obtain ⟨t2, e2⟩ := ry
  subst e1 e2
  have tl : Builtin.Str.tooLong (a.length * k) = false := by
    unfold Builtin.Str.tooLong
    exact decide_eq_false (Nat.not_lt.mpr (Nat.le_trans hl (by decide)))
  refine PySem.P.mul_str (by rw [decide_eq_false (by omega), decide_eq_false (by omega)]; rfl) (fun h1 _ => ?_) (fun _ _ => by rw [Int.toNat_natCast]; exact tl) ?_
  · have hk0 : 0 < k := by omega
    have d : (2 ^ 63 - 1 : Int) / (k : Int) ≥ 1000000 := by
      rw [ge_iff_le, Int.le_ediv_iff_mul_le (by omega)]
      omega
    have e : a.length ≤ 1000000 := Nat.le_trans (Nat.le_mul_of_pos_right _ hk0) hl
    omega
  · have fin : ∀ b : Str, b.cps.toList = (List.replicate k a.cps.toList).flatten → ∀ (t' tk : Nat), EP X pn ρ Q (.str b t') { s with toks := tk } := fun b hb t' tk => ⟨.str b, H, I.tok _, ⟨_, rfl⟩, q b hb⟩
    by_cases c1 : (k : Int) < 1
    · rw [if_pos c1]
      have k0 : k = 0 := by omega
      subst k0
      exact ⟨by decide, fin _ rfl _ _⟩
    · rw [if_neg c1]
      by_cases c2 : ((k : Int) == 1 || a.length == 0) = true
      · rw [if_pos c2]
        refine fin a ?_ t1 s.toks
        rw [Bool.or_eq_true, beq_iff_eq, beq_iff_eq] at c2
        cases c2 with
        | inl z =>
          obtain rfl : k = 1 := by omega
          simp
        | inr z =>
          have z2 : a.cps.toList = [] := List.eq_nil_of_length_eq_zero (by rw [Array.length_toList]; exact z)
          rw [z2]
          simp
      · rw [if_neg c2, Int.toNat_natCast]
        refine ⟨?_, fin _ ?_ _ _⟩
        · show (List.foldl (· ++ ·) #[] (List.replicate k a.cps)).size ≤ sizeLine
          rw [← Array.length_toList, fold_app, List.map_replicate]
          simp only [List.nil_append, List.length_flatten, List.map_replicate, List.sum_replicate_nat, Array.length_toList]
          rw [Nat.mul_comm]
          exact Nat.le_trans hl (by decide)
        · rw [fold_app]
          simp
theorem digits_some {b : Str} (h : ∀ c ∈ b.cps.toList, 48 ≤ c ∧ c ≤ 57) (h1 : b.cps.toList ≠ []) (h2 : b.length ≤ 4300) : ∃ n, PySem.intText? b = some n := ⟨_, intText_digits h h1 h2⟩
end NW
namespace NW
open PySem PySem.Spec PyProof.Rows L2
/-- an error's field -/
def tXv (K : PySem.W.Frag) (n : Str) (te : TE) : TE := fun σ H Q => te σ H fun x H1 => ∃ (a dx C : Addr) (fs : List (Str × V)) (v : V), x = .ref a ∧ H1 a = some (exo a C (some dx)) ∧ H1 dx = some (exd dx fs) ∧ fs.lookup n = some v ∧ XfC K C ∧ PySem.W.findIn K (.ref C) n = some none ∧ Q v H1
end NW
namespace DS
open PySem PySem.Spec PyProof.Rows L2
def keyS (e : Int × Value) : Str := match e.2 with
  | .str k _ => k
  | _ => ""
def GoodS (w : World) (e : Int × Value) : Prop := ∃ k tk, e.2 = Value.str k tk ∧ e.1 = hashStr w k
structure TxD (w : World) (es : Array (Int × Value)) (t : SetTable) (ks : List Str) : Prop where
  g : ∀ e ∈ es.toList, GoodS w e
  p : (es.toList.map keyS).Perm ks
  n : ks.Nodup
  b : es.size < scanBound
  f : t.fits es.size = true
  r : Ris t.place.toList
  l : w.params.followText "set-order" = true ∨ t.led = true
/-- the set at a holds the texts ks -/
def SetTx (w : World) (h : Heap) (a : Addr) (ks : List Str) : Prop := ∃ o es ep t, h.get? a = some o ∧ o.ExactSet ∧ o.data = .set es ep t ∧ TxD w es t ks
section
variable {P : Program} {w : World} {h h' : Heap} {a : Addr} {ks : List Str}
theorem SetTx.at (R : SetTx w h a ks) (k : ∀ o, h.get? a = some o → h'.get? a = some o) : SetTx w h' a ks := by
  obtain ⟨o, es, ep, t, ho, r⟩ := R
  exact ⟨o, es, ep, t, k o ho, r⟩
theorem TxD.size {es : Array (Int × Value)} {t : SetTable} (D : TxD w es t ks) : es.size = ks.length := by
  rw [← D.p.length_eq, List.length_map, Array.length_toList]
end
end DS
namespace DS
open PySem PySem.Spec PyProof.Rows L2
section
variable {P : Program} {w : World} {A : Around} {E : Value → Shared → Prop} {s : Shared}
theorem ints_at : ∀ {vs : List Value} {xs : List Int}, IntsAre vs xs → ∀ (i : Nat) (v : Value), vs[i]? = some v → ∃ k t, xs[i]? = some k ∧ v = .int k t
  | _, _, .nil, i, v, h => by cases h
  | _, _, .cons x t r, 0, v, h => ⟨x, t, rfl, (Option.some.inj h).symm⟩
  | _, _, .cons x t r, i + 1, v, h => ints_at r i v h
set_option maxRecDepth 100000 in
set_option maxHeartbeats 3200000 in
theorem call_set_listI {l : Addr} {items : Array Value} (xs : List Int) {Q : Value → Shared → Prop} (hh : A.handled = none) (hl : s.heap.IsList l items) (hit : IntsAre items.toList xs) (hb : xs.length + 1 < scanBound)
    (h : ∀ (h' : Heap) (tk c : Nat), SetR w h' s.heap.objs.size (fun j => decide (j ∈ xs)) c → c ≤ xs.length → (∀ b o, s.heap.get? b = some o → h'.get? b = some o) → Q (.ref s.heap.objs.size) { s with heap := h', toks := tk }) :
    wpAny (model P w) A (call (.type "set") [.ref l]) Q E s := by
  have hisz : items.size = xs.length := by
    have q := IntsAre.length hit
    rw [Array.length_toList] at q
    exact q
  obtain ⟨c, tl, hmro⟩ := F.called_set.mro
  have hmade := F.called_set.made
  have hsub := F.called_set.sub
  refine wpAny_call (codeAny_of_tree ?_)
  show wpAny _ _ (callAny (.type "set") _) _ _ _
  refine wpAny_pure ⟨Code.quiet_builtin _ (by decide +kernel), codeAny_builtin F.entry_type_call ?_⟩
  rw [Around.under_plain (weight_type_call_type "set" [.ref l] []) rfl]
  have h1 := F.called_set.notType
  have h2 := F.called_set.canCreate
  have hct := F.typeCall_set_1 (.ref l)
  repeat (any_goals (first | assumption | wp_step))
  refine codeAny_mono (code_set_led1 (.ref l) (E := E) (Q₁ := fun obj s₁ => obj = .ref s.heap.objs.size ∧ s₁ = { s with heap := s.heap.push { cls := .type "set", dict := none, data := .set #[] 0 (.fresh 0 0 (!w.params.followText "set-order")) } }) ⟨rfl, rfl⟩) fun r s₁ hr => ?_
  cases r with
  | error e => exact hr
  | ok fl =>
    cases fl with
    | ret obj =>
      obtain ⟨rfl, rfl⟩ := hr
      have hS : (s.heap.push { cls := .type "set", dict := none, data := .set #[] 0 (.fresh 0 0 (!w.params.followText "set-order")) }).get? s.heap.objs.size = some { cls := .type "set", dict := none, data := .set #[] 0 (.fresh 0 0 (!w.params.followText "set-order")) } := Heap.get?_push_size _ rfl
      have hT : Shared.TypeIs { s with heap := (s.heap.push { cls := .type "set", dict := none, data := .set #[] 0 (.fresh 0 0 (!w.params.followText "set-order")) }) } (.ref s.heap.objs.size) "set" := ⟨_, hS, rfl⟩
      have hli := F.called_set.init.lookup
      have hbi := F.called_set.init.bind (.ref s.heap.objs.size)
      repeat (any_goals (first | assumption | wp_step))
      refine codeAny_mono (codeAny_call_builtin (R := wants (fun r s₂ => r = .none ∧ ∃ h' tk, s₂ = { s with heap := h', toks := tk } ∧ (∃ c, SetR w h' s.heap.objs.size (fun j => decide (j ∈ xs)) c ∧ c ≤ xs.length) ∧
          (∀ b o, s.heap.get? b = some o → h'.get? b = some o)) E) F.called_set.init.plain F.entry_set_init (check_set_init_1 hT ?_)) fun r₂ s₂ hr₂ => ?_
      · obtain ⟨ol, hol, hcl, nl, hdl⟩ := hl
        obtain ⟨ocls, odict, odata, oslots⟩ := ol
        simp only at hcl hdl
        subst hcl; subst hdl
        have hol' : (s.heap.push { cls := .type "set", dict := none, data := .set #[] 0 (.fresh 0 0 (!w.params.followText "set-order")) }).get? l = some { cls := .type "list", dict := odict, data := .seq items nl, slots := oslots } := Heap.get?_push_of_some _ hol
        have hsls := F.sub_list_set
        have hslf := F.sub_list_frozenset
        have hne : (Value.type "list" == Value.type "dict") = false := by decide
        have hl1 : (s.heap.push { cls := .type "set", dict := none, data := .set #[] 0 (.fresh 0 0 (!w.params.followText "set-order")) }).IsList l items := ⟨_, hol', rfl, nl, rfl⟩
        unfold Builtin.«set.__init__» noKeywords Builtin.Frozenset.updateFrom
        generalize hPI : pyIter = PI
        wp_walk
        subst hPI
        refine wpAny_pyIter_list hl1 ?_
        refine wpAny_bind (wpAny_runValue ?_)
        have hlS : l < s.heap.objs.size := Heap.lt_size hol
        have hh3 : A.in1.in1.in1.handled = none := by simp [hh]
        have hneI : l ≠ (s.heap.push { cls := .type "set", dict := none, data := .set #[] 0 (.fresh 0 0 (!w.params.followText "set-order")) }).objs.size := by
          rw [Heap.size_push]; exact Nat.ne_of_lt (Nat.lt_succ_of_lt hlS)
        have hSf : s.heap.objs.size ∉ [(s.heap.push { cls := .type "set", dict := none, data := .set #[] 0 (.fresh 0 0 (!w.params.followText "set-order")) }).objs.size, l] := by
          rw [Heap.size_push]; simp only [List.mem_cons, List.mem_singleton, List.not_mem_nil, or_false, not_or]
          exact ⟨Nat.ne_of_lt (Nat.lt_succ_self _), Nat.ne_of_gt hlS⟩
        have hval : ∀ (i : Nat) (v : Value), items[i]? = some v → ∃ k t, xs[i]? = some k ∧ v = .int k t := fun i v hv => ints_at hit i v (by rw [Array.getElem?_toList]; exact hv)
        refine set_update_ints ((Walks.list hh3 _ l hneI items).toS) s.heap.objs.size
          hSf xs hisz hb hval (items.size - 0) 0 _ (by omega) (Nat.zero_le _)
          ⟨⟨_, Heap.get?_push_size _ rfl, rfl, rfl⟩, (hl1.push _)⟩ ?hS0 ?hR
        case hS0 =>
          have hget : ((s.heap.push { cls := .type "set", dict := none, data := .set #[] 0 (.fresh 0 0 (!w.params.followText "set-order")) }).push { cls := .type "list_iterator", data := .fields #[.ref l, .int 0 0] }).get? s.heap.objs.size = some { cls := .type "set", dict := none, data := .set #[] 0 (.fresh 0 0 (!w.params.followText "set-order")) } := Heap.get?_push_of_some _ hS
          exact ⟨0, Nat.zero_le _, setR_new_at hget⟩
        case hR =>
          intro s' c hm hc hS'
          obtain ⟨h', g2, d', tk', os'⟩ := s'
          have eg : g2 = s.gens := hm.gens
          have ed : d' = s.drawn := hm.drawn
          have eo : os' = s.os := hm.os
          subst eg; subst ed; subst eo
          show wpAny _ _ _ _ _ _
          refine wpAny_pure ?_
          show wpAny _ _ (ret Value.none) _ _ _
          refine wpAny_pure ⟨rfl, h', tk', rfl, ⟨c, hS', by rw [← hisz]; exact hc⟩, fun b o e => ?_⟩
          have hb0 : b < s.heap.objs.size := Heap.lt_size e
          have hb1 : b ≠ s.heap.objs.size := Nat.ne_of_lt hb0
          have hb2 : b ≠ (s.heap.push { cls := .type "set", dict := none, data := .set #[] 0 (.fresh 0 0 (!w.params.followText "set-order")) }).objs.size := by
            rw [Heap.size_push]; exact Nat.ne_of_lt (Nat.lt_succ_of_lt hb0)
          exact hm.heap b o (by simp only [List.mem_cons, List.mem_singleton, List.not_mem_nil, or_false, not_or]; exact ⟨hb1, hb2⟩) (Heap.get?_push_of_some _ (Heap.get?_push_of_some _ e))
      · cases r₂ with
        | error e => exact hr₂
        | ok fl₂ =>
          cases fl₂ with
          | ret r =>
            obtain ⟨rfl, h', tk, rfl, ⟨c, hS', hc'⟩, hk'⟩ := hr₂
            repeat (any_goals (first | assumption | wp_step))
            exact h _ _ c hS' hc' hk'
          | _ => exact hr₂.elim
    | _ => exact hr.elim
theorem sorted_setI {a : Addr} {S : Int → Bool} {n : Nat} {Q : Value → Shared → Prop} (R : SetR w s.heap a S n) (hh : A.handled = none)
    (hQ : ∀ s' p (out : Array Value) (c : Nat) (ns : List Int), (∀ b o, s.heap.get? b = some o → s'.heap.get? b = some o) → s'.gens = s.gens → s'.os = s.os → s.heap.objs.size ≤ p →
      s'.heap.get? p = some (seqObj "list" out c) → IntsAre out.toList ns → ns.Pairwise (· < ·) → (∀ k, k ∈ ns ↔ S k = true) → ns.length = n → Q (.ref p) s') :
    wpAny (model P w) A (call (.builtin "sorted") [.ref a]) Q E s := by
  obtain ⟨o, es, ep, t, ho, hex, hd, g, nd, hm, hb, hf, hn, hr, hl⟩ := R
  refine Calls.call_function_entry kind_sorted plain_sorted entry_sorted (args_sorted1 _) ?_
  unfold Builtin.«sorted»
  refine wpAny_bind (m := checkCount "sorted" 1 1 _) (wpAny_pure ?_)
  refine wpAny_bind (collect_set (A := A.in1) hh ⟨o, ho, hex.1, hd⟩ hf hb hr hl fun s1 vs k1 hz g1 o1 pm => ?_)
  have hvl : vs.length = n := by rw [pm.length_eq, List.length_map, Array.length_toList]; exact hn
  have hI : IntsAre vs (vs.map Builtin.Re.reRawOf) := ints_of vs fun v hv => by
    obtain ⟨e, he, q⟩ := List.mem_map.mp (pm.mem_iff.mp hv)
    obtain ⟨k, tk, h1, _⟩ := g e he
    exact ⟨k, tk, by rw [← q]; exact h1⟩
  have pk : (vs.map Builtin.Re.reRawOf).Perm (es.toList.map keyOf) := by
    have q := pm.map Builtin.Re.reRawOf
    rw [List.map_map] at q
    exact q
  have hls : vs.length ≤ sizeLine := by rw [hvl, ← hn]; exact fits_of_scanBound hb
  refine wpAny_bind (wpAny_newList ?_ hls)
  have hoL : (s1.heap.push (seqObj "list" vs.toArray 0)).get? s1.heap.objs.size = some (seqObj "list" vs.toArray 0) := Heap.get?_push_size _ rfl
  refine wpAny_bind (wpAny_holding (wpAny_call_entry slot_list_sort ⟨_, hoL, rfl⟩ entry_list_sort (SrtO.list_sort_ord SrtO.swo_int hoL hls (fun h2 => SrtO.ints_sortable hI h2) fun out h1 h2 => ⟨_, rfl, ?_⟩) (args_list_sort _)))
  obtain ⟨a1, k2, k3⟩ := SrtO.ints_out hI h1 h2
  obtain ⟨c, hc⟩ := sortedHeap_at (vs := vs) (out := out.toArray) hoL
  have pn : (out.map SrtO.iv).Perm (es.toList.map keyOf) := k2.trans pk
  refine wpAny_pure ⟨_, rfl, hQ _ s1.heap.objs.size out.toArray c _ (fun b u e => ?_) g1 o1 hz hc a1 (lt_of_le_nodup _ k3 (pn.nodup_iff.mpr nd)) (fun k => by rw [pn.mem_iff, ← hm k]) ?_⟩
  · have q := k1 b u e
    have hlt := Heap.lt_size q
    show (sortedHeap (s1.heap.push (seqObj "list" vs.toArray 0)) s1.heap.objs.size vs out.toArray).get? b = some u
    rw [sortedHeap_old (Nat.ne_of_lt hlt) (by rw [size_push']; exact Nat.lt_succ_of_lt hlt)]
    exact Heap.get?_push_of_some _ q
  · rw [pn.length_eq, List.length_map, Array.length_toList]; exact hn
end
section
variable {X : Cx}
/-- sorted(set(xs)), xs a list of ints -/
def tSortSetI (K : PySem.W.Frag) (ta : TE) : TE := fun σ H Q => ta σ H fun x H1 => ∃ l, ∃ xs : List Int, x = .ref l ∧ SqL K H1 l (xs.map V.int) ∧ xs.length ≤ 2000 ∧
  ∀ (ys : List Int) (p : Addr), ys.Pairwise (· < ·) → (∀ k, k ∈ ys ↔ k ∈ xs) → ys.length ≤ xs.length → H1 p = none → Q (.ref p) (upd H1 p (.lst (ys.map V.int)))
theorem pe_sortSetI {a : Expr} {ta : TE} {p p2 q pos : Pos} (hc : X.calm = true) (hg : Gl X "sorted") (hm : X.mg "sorted" = none) (hg2 : Gl X "set") (hm2 : X.mg "set" = none) (ha : PE X a ta)
    (na : starEach [a] X.env = (false, eval a X.env) :: starEach [] X.env := by rfl) : PE X (.Call (.Name "sorted" p) [.Call (.Name "set" p2) [a] [] q] [] pos) (tSortSetI X.K ta) := by
  refine ⟨fun pins s σ H Q I h => ?_⟩
  refine Call_ (ld_blt I hg hm PyProof.Rows.boot_sorted ?_)
  refine PyProof.Rows.callWith_builtin1 (PyProof.Rows.args_cons ?_ rfl) rfl rfl
  refine Call_ (ld_blt I hg2 hm2 PyProof.Rows.boot_set ?_)
  refine PyProof.Rows.callWith_type1 (PyProof.Rows.args_cons (thn (ha.run pins s σ H _ I h) fun v s1 ⟨x, H1, I1, r1, q1⟩ => PyProof.Rows.args_nil ?_) na) na rfl
  obtain ⟨l, xs, rfl, hq, h1, q1⟩ := q1
  cases r1
  have hd := I1.ok.hd hc
  obtain ⟨its, r, pl, hz⟩ := I1.list hq
  refine call_set_listI xs hd pl.isList (by simpa using r.ints) (by unfold scanBound; omega) fun h' tk c R hcl hk => ?_
  refine PyProof.Rows.args_nil ?_
  have I2 : Inv X pins σ H1 { s1 with heap := h', toks := tk } := I1.kept hk
  refine sorted_setI (s := { s1 with heap := h', toks := tk }) R hd fun s' p out c ys k g o hp hgt hi hs hm hl => ?_
  have hlen : (ys.map V.int).length ≤ sizeLine := by
    rw [List.length_map, hl, sizeLine_eq]; omega
  have hn : H1 p = none := I2.hok.fresh hp
  have J : Inv X pins σ (upd H1 p (.lst (ys.map V.int))) s' := I2.call' (ch := []) o (Un.laid k hp hn) (I2.hok.laid k hp ⟨hlen, out.toList, c, vals_of_ints hi, hgt⟩) (by rw [g]; exact I2.bare) (fun _ z => nomatch z)
  exact ⟨.ref p, _, J, rfl, q1 ys p hs (fun k => by rw [hm k]; exact decide_eq_true_iff) (by rw [hl]; exact hcl) hn⟩
end
end DS
namespace DL
open PySem PySem.Spec PyProof.Rows L2 NW
inductive DV where
  | non
  | bl (b : Bool)
  | int (i : Int)
  | str (s : Str)
  | lst (xs : List DV)
  | tup (xs : List DV)
  | dic (ks : List Key) (xs : List DV)
  | obj (C : Addr) (ns : List Str) (xs : List DV)
  | ktu (K : PySem.W.Frag)
  | cls (C : Addr)
  | err (C : Addr) (ns : List Str) (xs : List DV)
  | hote (a C d : Addr) (ns : List Str) (xs : List DV)
  | sto
/-- the empty tuple of the written part -/
def KTu (K : PySem.W.Frag) (a : Addr) : Prop := ∃ (o : Obj) (its : Array Value) (n : Nat), K.lookup a = some o ∧ o.cls = .type "tuple" ∧ o.data = .seq its n ∧ its.size ≤ sizeLine ∧ Vals [] its.toList
/-- the store of draws, what nobody may reach, the error that is handled (its address, its class, its dict) -/
structure Wd where
  st : Option Addr
  hid : Addr → Prop
def Wd.ok (W : Wd) (a : Addr) : Prop := W.st ≠ some a ∧ ¬ W.hid a
def Kp (st : Option Addr) (H H' : Hp) : Prop := match st with
  | none => Same H H'
  | some a => Keep a H H'
def StoW (st : Option Addr) (H : Hp) : Prop := match st with
  | none => True
  | some a => Sto H a
structure Wd.Ok (W : Wd) (H : Hp) : Prop where
  s : StoW W.st H
  h : ∀ a, W.hid a → (∃ o, H a = some o) ∧ W.st ≠ some a
section
variable {st : Option Addr} {H H1 H2 : Hp} {b p : Addr} {ob : HO}
theorem Kp.o (k : Kp st H H1) (h : H b = some ob) (n : st ≠ some b) : H1 b = some ob := by
  cases st with
  | none => exact k b ob h
  | some a => exact Keep.o k b ob h fun e => n (by rw [e])
theorem Kp.refl (st : Option Addr) (H : Hp) : Kp st H H := by
  cases st with
  | none => exact fun _ _ z => z
  | some a => exact Keep.refl a H
theorem Kp.trans (a : Kp st H H1) (b : Kp st H1 H2) : Kp st H H2 := by
  cases st with
  | none => exact fun c o z => b c o (a c o z)
  | some x => exact Keep.trans a b
theorem Kp.same (s : Same H H1) : Kp st H H1 := by
  cases st with
  | none => exact s
  | some a => exact Keep.same s
theorem Kp.new (a : Kp st H H1) (hp : H1 p = none) : Kp st H (upd H1 p ob) := a.trans (Kp.same (same_new hp))
theorem Kp.own (a : Kp st H H1) (hp : H p = none) (hn : st ≠ some p) : Kp st H (upd H1 p ob) := by
  cases st with
  | none =>
    intro c u z
    have e : c ≠ p := ne_of_none z hp
    rw [upd_ne e]; exact a c u z
  | some x => exact Keep.own a hp fun e => hn (by rw [e])
theorem StoW.same (s : Same H H1) (h : StoW st H) : StoW st H1 := by
  cases st with
  | none => trivial
  | some a => exact Sto.mono s h
theorem StoW.ne (h : StoW st H) (hp : H p = none) : st ≠ some p := by
  cases st with
  | none => intro e; cases e
  | some a => exact fun e => Sto.ne h hp (Option.some.inj e).symm
end
section
variable {W : Wd} {H H1 : Hp} {p : Addr} {o : HO}
theorem Wd.Ok.mono (h : W.Ok H) (k : Kp W.st H H1) (s : StoW W.st H1) : W.Ok H1 := ⟨s, fun a ha => ⟨by
  obtain ⟨⟨o, ho⟩, n⟩ := h.h a ha
  exact ⟨o, k.o ho n⟩, (h.h a ha).2⟩⟩
theorem Wd.Ok.same (h : W.Ok H) (s : Same H H1) : W.Ok H1 := h.mono (Kp.same s) (h.s.same s)
theorem Wd.Ok.new (h : W.Ok H) (hp : H p = none) : W.Ok (upd H p o) := h.same (same_new hp)
theorem Wd.Ok.fresh (h : W.Ok H) (hp : H p = none) : W.ok p := ⟨h.s.ne hp, fun z => by
  obtain ⟨⟨o, ho⟩, _⟩ := h.h p z
  rw [hp] at ho; cases ho⟩
end
mutual
inductive Is (W : Wd) (H : Hp) : V → DV → Prop where
  | non : Is W H .non .non
  | bl (b : Bool) : Is W H (.bl b) (.bl b)
  | int (i : Int) : Is W H (.int i) (.int i)
  | str (s : Str) : Is W H (.str s) (.str s)
  | lst {a : Addr} {vs : List V} {xs : List DV} : H a = some (.lst vs) → W.ok a → vs.length ≤ 1000000 → Iss W H vs xs → Is W H (.ref a) (.lst xs)
  | tup {a : Addr} {vs : List V} {xs : List DV} : H a = some (.tup vs) → W.ok a → vs.length ≤ 1000000 → Iss W H vs xs → Is W H (.ref a) (.tup xs)
  | dic {a : Addr} {kvs : List (Key × V)} {ks : List Key} {xs : List DV} : Rd H a (.dK kvs) → W.ok a → kvs.length ≤ 1000000 → kvs.map (·.1) = ks → ks.Nodup → Iss W H (kvs.map (·.2)) xs → Is W H (.ref a) (.dic ks xs)
  | obj {a dx : Addr} {C : Addr} {fs : List (Str × V)} {ns : List Str} {xs : List DV} : H a = some (.ins C dx fs) → W.ok a → fs.map (·.1) = ns → Iss W H (fs.map (·.2)) xs → Is W H (.ref a) (.obj C ns xs)
  | err {a dx : Addr} {C : Addr} {fs : List (Str × V)} {ns : List Str} {xs : List DV} : H a = some (exo a C (some dx)) → H dx = some (exd dx fs) → W.ok a → W.ok dx → fs.map (·.1) = ns → Iss W H (fs.map (·.2)) xs → Is W H (.ref a) (.err C ns xs)
  | err0 {a C : Addr} : H a = some (exo a C none) → W.ok a → Is W H (.ref a) (.err C [] [])
  | hot {a dx : Addr} {C : Addr} {fs : List (Str × V)} {ns : List Str} {xs : List DV} : H dx = some (.xd fs) → W.ok dx → fs.map (·.1) = ns → Iss W H (fs.map (·.2)) xs → Is W H (.ref a) (.hote a C dx ns xs)
  | sto {a : Addr} : W.st = some a → Is W H (.ref a) .sto
  | ktu {a : Addr} {K : PySem.W.Frag} : KTu K a → Is W H (.ref a) (.ktu K)
  | cls {C : Addr} : Is W H (.ref C) (.cls C)
inductive Iss (W : Wd) (H : Hp) : List V → List DV → Prop where
  | nil : Iss W H [] []
  | cons {v : V} {vs : List V} {x : DV} {xs : List DV} : Is W H v x → Iss W H vs xs → Iss W H (v :: vs) (x :: xs)
end
theorem rd_tr {W W' : Wd} {H H' : Hp} {a : Addr} {u : HO} (k : ∀ b o, W.ok b → H b = some o → W'.ok b ∧ H' b = some o) (o : W.ok a) (h : Rd H a u) : W'.ok a ∧ Rd H' a u := by
  rcases h with h | ⟨ob, h⟩
  · exact ⟨(k _ _ o h).1, .inl (k _ _ o h).2⟩
  · exact ⟨(k _ _ o h).1, .inr ⟨ob, (k _ _ o h).2⟩⟩
section
variable {W W' : Wd} {H H' : Hp}
mutual
theorem Is.tr (e1 : W'.st = W.st) (k : ∀ b o, W.ok b → H b = some o → W'.ok b ∧ H' b = some o) : ∀ {v : V} {d : DV}, Is W H v d → Is W' H' v d
  | _, _, .non => .non
  | _, _, .bl b => .bl b
  | _, _, .int i => .int i
  | _, _, .str x => .str x
  | _, _, .lst h o l t => .lst (k _ _ o h).2 (k _ _ o h).1 l (Iss.tr e1 k t)
  | _, _, .tup h o l t => .tup (k _ _ o h).2 (k _ _ o h).1 l (Iss.tr e1 k t)
  | _, _, .dic h o l e n t => .dic (rd_tr k o h).2 (rd_tr k o h).1 l e n (Iss.tr e1 k t)
  | _, _, .obj h o e t => .obj (k _ _ o h).2 (k _ _ o h).1 e (Iss.tr e1 k t)
  | _, _, .err h h2 o o2 e t => .err (k _ _ o h).2 (k _ _ o2 h2).2 (k _ _ o h).1 (k _ _ o2 h2).1 e (Iss.tr e1 k t)
  | _, _, .err0 h o => .err0 (k _ _ o h).2 (k _ _ o h).1
  | _, _, .hot h o e t => .hot (k _ _ o h).2 (k _ _ o h).1 e (Iss.tr e1 k t)
  | _, _, .sto z => .sto (e1.trans z)
  | _, _, .ktu z => .ktu z
  | _, _, .cls => .cls
theorem Iss.tr (e1 : W'.st = W.st) (k : ∀ b o, W.ok b → H b = some o → W'.ok b ∧ H' b = some o) : ∀ {vs : List V} {ds : List DV}, Iss W H vs ds → Iss W' H' vs ds
  | _, _, .nil => .nil
  | _, _, .cons a t => .cons (Is.tr e1 k a) (Iss.tr e1 k t)
end
theorem Is.mono (k : Kp W.st H H') {v : V} {d : DV} (h : Is W H v d) : Is W H' v d := h.tr rfl fun _ _ o z => ⟨o, k.o z o.1⟩
theorem Iss.mono (k : Kp W.st H H') {vs : List V} {ds : List DV} (h : Iss W H vs ds) : Iss W H' vs ds := h.tr rfl fun _ _ o z => ⟨o, k.o z o.1⟩
/-- an object that nobody reaches is changed -/
theorem Is.off {a : Addr} {u : HO} (n : ¬ W.ok a) {v : V} {d : DV} (h : Is W H v d) : Is W (upd H a u) v d := h.tr rfl fun b o k z => ⟨k, by rw [upd_ne (fun e => n (by rw [← e]; exact k))]; exact z⟩
theorem Iss.off {a : Addr} {u : HO} (n : ¬ W.ok a) {vs : List V} {ds : List DV} (h : Iss W H vs ds) : Iss W (upd H a u) vs ds := h.tr rfl fun b o k z => ⟨k, by rw [upd_ne (fun e => n (by rw [← e]; exact k))]; exact z⟩
end
section
variable {W : Wd} {H : Hp}
theorem Iss.len : ∀ {vs : List V} {xs : List DV}, Iss W H vs xs → vs.length = xs.length
  | _, _, .nil => rfl
  | _, _, .cons _ t => congrArg (· + 1) (Iss.len t)
theorem Iss.get : ∀ {vs : List V} {xs : List DV} {i : Nat} {x : DV}, Iss W H vs xs → xs[i]? = some x → ∃ v, vs[i]? = some v ∧ Is W H v x
  | _, _, _, _, .nil, h => by simp at h
  | _, _, 0, _, .cons a _, h => ⟨_, rfl, by
    have e := Option.some.inj h
    rw [← e]; exact a⟩
  | _, _, i + 1, x, .cons _ t, h => Iss.get (i := i) t h
theorem Iss.get' : ∀ {vs : List V} {xs : List DV} {i : Nat} {v : V}, Iss W H vs xs → vs[i]? = some v → ∃ x, xs[i]? = some x ∧ Is W H v x
  | _, _, _, _, .nil, h => by simp at h
  | _, _, 0, _, .cons a _, h => ⟨_, rfl, by
    have e := Option.some.inj h
    rw [← e]; exact a⟩
  | _, _, i + 1, x, .cons _ t, h => Iss.get' (i := i) t h
theorem Iss.app : ∀ {vs ws : List V} {xs ys : List DV}, Iss W H vs xs → Iss W H ws ys → Iss W H (vs ++ ws) (xs ++ ys)
  | _, _, _, _, .nil, h => h
  | _, _, _, _, .cons a t, h => .cons a (Iss.app t h)
theorem Iss.take : ∀ {vs : List V} {xs : List DV} (n : Nat), Iss W H vs xs → Iss W H (vs.take n) (xs.take n)
  | _, _, 0, _ => .nil
  | _, _, _ + 1, .nil => .nil
  | _, _, n + 1, .cons a t => .cons a (Iss.take n t)
theorem Iss.drop : ∀ {vs : List V} {xs : List DV} (n : Nat), Iss W H vs xs → Iss W H (vs.drop n) (xs.drop n)
  | _, _, 0, h => h
  | _, _, _ + 1, .nil => .nil
  | _, _, n + 1, .cons _ t => Iss.drop n t
theorem Iss.rev {vs : List V} {xs : List DV} (h : Iss W H vs xs) : Iss W H vs.reverse xs.reverse := by
  induction vs generalizing xs with
  | nil => cases h; exact .nil
  | cons v vs ih =>
    cases h with
    | cons a t =>
      rw [List.reverse_cons, List.reverse_cons]
      exact (ih t).app (.cons a .nil)
theorem Iss.set {v : V} {x : DV} (hv : Is W H v x) : ∀ {vs : List V} {xs : List DV} (n : Nat), Iss W H vs xs → Iss W H (vs.set n v) (xs.set n x)
  | _, _, _, .nil => .nil
  | _, _, 0, .cons _ t => .cons hv t
  | _, _, n + 1, .cons a t => .cons a (Iss.set hv n t)
theorem Iss.erase : ∀ {vs : List V} {xs : List DV} (n : Nat), Iss W H vs xs → Iss W H (vs.eraseIdx n) (xs.eraseIdx n)
  | _, _, _, .nil => .nil
  | _, _, 0, .cons _ t => t
  | _, _, n + 1, .cons a t => .cons a (Iss.erase n t)
end
inductive Sl where
  | un
  | dt (d : DV)
  | ow (xs : List DV)
  | od (ks : List Key) (xs : List DV)
  | oi (A C : Addr) (ns : List Str) (xs : List DV)
abbrev Env := List Sl
structure IsE (W : Wd) (own : Nat → Option Addr) (H : Hp) (σ : L2.St) (ρ : Env) : Prop where
  len : σ.length = ρ.length
  dt : ∀ (i : Nat) (d : DV), ρ[i]? = some (Sl.dt d) → ∃ v, σ[i]? = some (some v) ∧ Is W H v d
  ow : ∀ (i : Nat) (xs : List DV), ρ[i]? = some (Sl.ow xs) → ∃ a vs, own i = some a ∧ σ[i]? = some (some (.ref a)) ∧ H a = some (.lst vs) ∧ vs.length ≤ 1000000 ∧ Iss W H vs xs
  od : ∀ (i : Nat) (ks : List Key) (xs : List DV), ρ[i]? = some (Sl.od ks xs) → ∃ a kvs, own i = some a ∧ σ[i]? = some (some (.ref a)) ∧ H a = some (.dK kvs) ∧ (kvs.length ≤ 1000000 ∧ kvs.map (·.1) = ks ∧ ks.Nodup) ∧ Iss W H (kvs.map (·.2)) xs
  oi : ∀ (i : Nat) (A C : Addr) (ns : List Str) (xs : List DV), ρ[i]? = some (Sl.oi A C ns xs) → ∃ a fs, own i = some a ∧ σ[i]? = some (some (.ref a)) ∧ (∃ dx, H a = some (.ins C dx fs)) ∧ (fs.length ≤ 500 ∧ fs.map (·.1) = ns ∧ ns.Nodup ∧ a = A) ∧ Iss W H (fs.map (·.2)) xs
  hd : ∀ (i : Nat) (a : Addr), own i = some a → W.hid a
/-- a value that is read at once: data, or a list of the def's own -/
def IsP (W : Wd) (own : Nat → Option Addr) (H : Hp) (v : V) (d : DV) : Prop := Is W H v d ∨ ∃ (i : Nat) (a : Addr) (vs : List V) (xs : List DV), own i = some a ∧ W.hid a ∧ v = .ref a ∧ d = .lst xs ∧ H a = some (.lst vs) ∧ vs.length ≤ 1000000 ∧ Iss W H vs xs
section
variable {W : Wd} {own : Nat → Option Addr} {H H' : Hp} {σ : L2.St} {ρ : Env}
theorem IsE.mono (h : IsE W own H σ ρ) (o : W.Ok H) (k : Kp W.st H H') : IsE W own H' σ ρ := ⟨h.len, fun i d e => by
  obtain ⟨v, a, b⟩ := h.dt i d e
  exact ⟨v, a, b.mono k⟩, fun i xs e => by
  obtain ⟨a, vs, h1, h2, h3, h4, h5⟩ := h.ow i xs e
  exact ⟨a, vs, h1, h2, k.o h3 (o.h a (h.hd i a h1)).2, h4, h5.mono k⟩, fun i ks xs e => by
  obtain ⟨a, kvs, h1, h2, h3, h4, h5⟩ := h.od i ks xs e
  exact ⟨a, kvs, h1, h2, k.o h3 (o.h a (h.hd i a h1)).2, h4, h5.mono k⟩, fun i A C ns xs e => by
  obtain ⟨a, fs, h1, h2, ⟨dx, h3⟩, h4, h5⟩ := h.oi i A C ns xs e
  exact ⟨a, fs, h1, h2, ⟨dx, k.o h3 (o.h a (h.hd i a h1)).2⟩, h4, h5.mono k⟩, h.hd⟩
theorem IsP.mono {v : V} {d : DV} (h : IsP W own H v d) (o : W.Ok H) (k : Kp W.st H H') : IsP W own H' v d := by
  rcases h with h | ⟨i, a, vs, xs, h1, h2, h3, h4, h5, h6, h7⟩
  · exact .inl (h.mono k)
  · exact .inr ⟨i, a, vs, xs, h1, h2, h3, h4, k.o h5 (o.h a h2).2, h6, h7.mono k⟩
theorem IsP.lst {v : V} {xs : List DV} (h : IsP W own H v (.lst xs)) : ∃ a vs, v = .ref a ∧ H a = some (.lst vs) ∧ vs.length ≤ 1000000 ∧ Iss W H vs xs := by
  rcases h with h | ⟨i, a, vs, ys, h1, h2, h3, h4, h5, h6, h7⟩
  · cases h with
    | lst a b c d => exact ⟨_, _, rfl, a, c, d⟩
  · cases h4
    exact ⟨a, vs, h3, h5, h6, h7⟩
theorem IsP.is {v : V} {d : DV} (h : IsP W own H v d) (n : ∀ xs, d ≠ .lst xs) : Is W H v d := by
  rcases h with h | ⟨i, a, vs, ys, h1, h2, h3, h4, h5, h6, h7⟩
  · exact h
  · exact absurd h4 (n ys)
theorem IsP.int {v : V} {i : Int} (h : IsP W own H v (.int i)) : v = .int i := by
  cases h.is (fun _ e => nomatch e); rfl
theorem IsP.bl {v : V} {i : Bool} (h : IsP W own H v (.bl i)) : v = .bl i := by
  cases h.is (fun _ e => nomatch e); rfl
theorem IsP.str {v : V} {i : Str} (h : IsP W own H v (.str i)) : v = .str i := by
  cases h.is (fun _ e => nomatch e); rfl
theorem IsP.non {v : V} (h : IsP W own H v .non) : v = .non := by
  cases h.is (fun _ e => nomatch e); rfl
theorem IsP.tup {v : V} {xs : List DV} (h : IsP W own H v (.tup xs)) : ∃ a vs, v = .ref a ∧ H a = some (.tup vs) ∧ vs.length ≤ 1000000 ∧ Iss W H vs xs := by
  cases h.is (fun _ e => nomatch e) with
  | tup a b c d => exact ⟨_, _, rfl, a, c, d⟩
end
abbrev WE := Env → (DV → Prop) → Prop
abbrev WT := Env → (Bool → Prop) → Prop
abbrev WA := Env → (List DV → Prop) → Prop
def Fin (W : Wd) (H : Hp) (R : DV → Prop) (Q : VK) : Prop := ∀ d v H', R d → Kp W.st H H' → W.Ok H' → Is W H' v d → Q v H'
def FinP (W : Wd) (own : Nat → Option Addr) (H : Hp) (R : DV → Prop) (Q : VK) : Prop := ∀ d v H', R d → Kp W.st H H' → W.Ok H' → IsP W own H' v d → Q v H'
def lift (w : WE) : TE := fun σ H Q => ∃ W own ρ R, W.Ok H ∧ IsE W own H σ ρ ∧ w ρ R ∧ Fin W H R Q
def liftP (w : WE) : TE := fun σ H Q => ∃ W own ρ R, W.Ok H ∧ IsE W own H σ ρ ∧ w ρ R ∧ FinP W own H R Q
def liftT (w : WT) : TT := fun σ H Q => ∃ W own ρ R, W.Ok H ∧ IsE W own H σ ρ ∧ w ρ R ∧ ∀ b H', R b → Kp W.st H H' → W.Ok H' → Q b H'
def liftA (w : WA) : TA := fun σ H Q => ∃ W own ρ R, W.Ok H ∧ IsE W own H σ ρ ∧ w ρ R ∧ ∀ ds vs H', R ds → Kp W.st H H' → W.Ok H' → Iss W H' vs ds → Q vs H'
def liftB (w : WA) : TA := fun σ H Q => ∃ W own ρ R, W.Ok H ∧ IsE W own H σ ρ ∧ w ρ R ∧ ∀ ds vs H', R ds → Kp W.st H H' → W.Ok H' → Paired (IsP W own H') vs ds → Q vs H'
section
variable {W : Wd} {own : Nat → Option Addr} {H H' : Hp} {R : DV → Prop} {Q : VK}
theorem FinP.p (h : FinP W own H R Q) : Fin W H R Q := fun d v H' r k o i => h d v H' r k o (.inl i)
theorem Fin.at (f : Fin W H R Q) (o : W.Ok H) {v : V} {d : DV} (i : Is W H v d) (r : R d) : Q v H := f d v H r (Kp.refl _ _) o i
theorem Fin.int (f : Fin W H R Q) (o : W.Ok H) {i : Int} (r : R (.int i)) : Q (.int i) H := f.at o (.int i) r
theorem Fin.bl (f : Fin W H R Q) (o : W.Ok H) {i : Bool} (r : R (.bl i)) : Q (.bl i) H := f.at o (.bl i) r
theorem Fin.str (f : Fin W H R Q) (o : W.Ok H) {i : Str} (r : R (.str i)) : Q (.str i) H := f.at o (.str i) r
theorem Fin.non (f : Fin W H R Q) (o : W.Ok H) (r : R .non) : Q .non H := f.at o .non r
theorem Fin.lst (f : Fin W H R Q) (o : W.Ok H) {vs : List V} {xs : List DV} (l : vs.length ≤ 1000000) (i : Iss W H vs xs) (r : R (.lst xs)) : NewR (.lst vs) H Q := fun q hq =>
  f (.lst xs) (.ref q) _ r (Kp.same (same_new hq)) (o.new hq) (.lst upd_same (o.fresh hq) l (i.mono (Kp.same (same_new hq))))
theorem Fin.tup (f : Fin W H R Q) (o : W.Ok H) {vs : List V} {xs : List DV} (l : vs.length ≤ 1000000) (i : Iss W H vs xs) (r : R (.tup xs)) : NewR (.tup vs) H Q := fun q hq =>
  f (.tup xs) (.ref q) _ r (Kp.same (same_new hq)) (o.new hq) (.tup upd_same (o.fresh hq) l (i.mono (Kp.same (same_new hq))))
theorem Fin.mono (f : Fin W H R Q) (k : Kp W.st H H') : Fin W H' R Q := fun d v H2 r k2 o i => f d v H2 r (k.trans k2) o i
theorem FinP.mono (f : FinP W own H R Q) (k : Kp W.st H H') : FinP W own H' R Q := fun d v H2 r k2 o i => f d v H2 r (k.trans k2) o i
end
section
variable {X : Cx} {e a b c : Expr} {w wa wb wc : WE} {pos : Pos}
theorem dp (h : PE X e (lift w)) : PE X e (liftP w) := pe_weak h fun σ H Q q => by
  obtain ⟨W, own, ρ, R, o, i, z, f⟩ := q
  exact ⟨W, own, ρ, R, o, i, z, f.p⟩
def atV (R : DV → Prop) : Option Sl → Prop
  | some (.dt d) => R d
  | _ => False
theorem atV_ex {R : DV → Prop} {o : Option Sl} (h : atV R o) : ∃ d, o = some (.dt d) ∧ R d := by
  unfold atV at h
  split at h
  · exact ⟨_, rfl, h⟩
  · exact h.elim
def atP (R : DV → Prop) : Option Sl → Prop
  | some (.dt d) => R d
  | some (.ow xs) => R (.lst xs)
  | _ => False
theorem atP_ex {R : DV → Prop} {o : Option Sl} (h : atP R o) : (∃ d, o = some (.dt d) ∧ R d) ∨ ∃ xs, o = some (.ow xs) ∧ R (.lst xs) := by
  unfold atP at h
  split at h
  · exact .inl ⟨_, rfl, h⟩
  · exact .inr ⟨_, rfl, h⟩
  · exact h.elim
def wV (i : Nat) : WE := fun ρ R => atV R ρ[i]?
/-- a name that is read at once -/
def wVP (i : Nat) : WE := fun ρ R => atP R ρ[i]?
theorem dv {e : Expr} (i : Nat) (h : PE X e (tVar i)) : PE X e (lift (wV i)) := pe_weak h fun σ H Q q => by
  obtain ⟨W, own, ρ, R, o, i', z, f⟩ := q
  obtain ⟨d, z, r⟩ := atV_ex z
  obtain ⟨v, hv, hi⟩ := i'.dt _ _ z
  exact ⟨v, hv, f.at o hi r⟩
theorem dvP {e : Expr} (i : Nat) (h : PE X e (tVar i)) : PE X e (liftP (wVP i)) := pe_weak h fun σ H Q q => by
  obtain ⟨W, own, ρ, R, o, i', z, f⟩ := q
  rcases atP_ex z with ⟨d, z, r⟩ | ⟨xs, z, r⟩
  · obtain ⟨v, hv, hi⟩ := i'.dt _ _ z
    exact ⟨v, hv, f _ _ _ r (Kp.refl _ _) o (.inl hi)⟩
  · obtain ⟨a, vs, h1, h2, h3, h4, h5⟩ := i'.ow _ _ z
    exact ⟨_, h2, f _ _ _ r (Kp.refl _ _) o (.inr ⟨i, a, vs, xs, h1, i'.hd _ _ h1, rfl, rfl, h3, h4, h5⟩)⟩
def wC (d : DV) : WE := fun _ R => R d
theorem dc {v : V} {d : DV} (h : PE X e (tC v)) (i : ∀ W H, Is W H v d) : PE X e (lift (wC d)) := pe_weak h fun σ H Q q => by
  obtain ⟨W, own, ρ, R, o, _, r, f⟩ := q
  exact f.at o (i W H) r
theorem dc_int {i : Int} {k} : PE X (.Constant (.int i) k pos) (lift (wC (.int i))) := dc pe_int fun _ _ => .int _
theorem dc_bl {i : Bool} {k} : PE X (.Constant (.bool i) k pos) (lift (wC (.bl i))) := dc pe_bl fun _ _ => .bl _
theorem dc_str {i : Str} {k} : PE X (.Constant (.str i) k pos) (lift (wC (.str i))) := dc pe_str fun _ _ => .str _
theorem dc_non {k} : PE X (.Constant .none k pos) (lift (wC .non)) := dc pe_non fun _ _ => .non
def aN : WA := fun _ R => R []
def aC (w : WE) (r : WA) : WA := fun ρ R => w ρ fun d => r ρ fun ds => R (d :: ds)
variable {es : List Expr} {r : WA}
theorem pa_weak {t t' : TA} (h : PA X es t) (w : ∀ σ H Q, t' σ H Q → t σ H Q) : PA X es t' := ⟨fun p pins s σ H Q I q => h.run p pins s σ H Q I (w σ H Q q)⟩
theorem dan : PA X [] (liftA aN) := pa_weak pa_nil fun σ H Q q => by
  obtain ⟨W, own, ρ, R, o, _, r, f⟩ := q
  exact f _ _ _ r (Kp.refl _ _) o .nil
theorem dac (ha : PE X a (lift w)) (hr : PA X es (liftA r)) (he : starEach (a :: es) X.env = (false, eval a X.env) :: starEach es X.env := by rfl) : PA X (a :: es) (liftA (aC w r)) := pa_weak (pa_cons ha hr he) fun σ H Q q => by
  obtain ⟨W, own, ρ, R, o, i, z, f⟩ := q
  refine ⟨W, own, ρ, _, o, i, z, fun d v H1 r1 k1 o1 i1 => ⟨W, own, ρ, _, o1, i.mono o k1, r1, fun ds vs H2 r2 k2 o2 i2 => ?_⟩⟩
  exact f _ _ _ r2 (k1.trans k2) o2 (.cons (i1.mono k2) i2)
theorem dbn : PA X [] (liftB aN) := pa_weak pa_nil fun σ H Q q => by
  obtain ⟨W, own, ρ, R, o, _, r, f⟩ := q
  exact f _ _ _ r (Kp.refl _ _) o .nil
theorem dbc (ha : PE X a (liftP w)) (hr : PA X es (liftB r)) (he : starEach (a :: es) X.env = (false, eval a X.env) :: starEach es X.env := by rfl) : PA X (a :: es) (liftB (aC w r)) := pa_weak (pa_cons ha hr he) fun σ H Q q => by
  obtain ⟨W, own, ρ, R, o, i, z, f⟩ := q
  refine ⟨W, own, ρ, _, o, i, z, fun d v H1 r1 k1 o1 i1 => ⟨W, own, ρ, _, o1, i.mono o k1, r1, fun ds vs H2 r2 k2 o2 i2 => ?_⟩⟩
  exact f _ _ _ r2 (k1.trans k2) o2 (.cons (i1.mono o1 k2) i2)
def wL (r : WA) : WE := fun ρ R => r ρ fun ds => ds.length ≤ 1000000 ∧ R (.lst ds)
def wTu (r : WA) : WE := fun ρ R => r ρ fun ds => ds.length ≤ 1000000 ∧ R (.tup ds)
theorem dlst (h : PA X es (liftA r)) : PE X (.List es pos) (lift (wL r)) := pe_weak (pe_lst h) fun σ H Q q => by
  obtain ⟨W, own, ρ, R, o, i, z, f⟩ := q
  refine ⟨W, own, ρ, _, o, i, z, fun ds vs H1 r1 k1 o1 i1 => ⟨?_, ?_⟩⟩
  · rw [i1.len]; exact Nat.le_trans r1.1 (by decide)
  · exact (f.mono k1).lst o1 (by rw [i1.len]; exact r1.1) i1 r1.2
theorem dtup {c1} (h : PA X es (liftA r)) : PE X (.Tuple es c1 pos) (lift (wTu r)) := pe_weak (pe_tup h) fun σ H Q q => by
  obtain ⟨W, own, ρ, R, o, i, z, f⟩ := q
  refine ⟨W, own, ρ, _, o, i, z, fun ds vs H1 r1 k1 o1 i1 => ⟨?_, ?_⟩⟩
  · rw [i1.len]; exact Nat.le_trans r1.1 (by decide)
  · exact (f.mono k1).tup o1 (by rw [i1.len]; exact r1.1) i1 r1.2
end
section
variable {X : Cx} {a b c : Expr} {w wa wb wc : WE} {pos : Pos}
abbrev D2 := DV → DV → (DV → Prop) → Prop
def wOp (d : D2) (wa wb : WE) : WE := fun ρ R => wa ρ fun x => wb ρ fun y => d x y R
/-- the reading r serves the data's d -/
def Op (r : R2) (d : D2) : Prop := ∀ W own H x y a b R Q, W.Ok H → IsP W own H x a → IsP W own H y b → d a b R → Fin W H R Q → r x y H Q
theorem op_tr {r : R2} {d : D2} (h : Op r d) {ta tb : TE} {wa wb : WE} (ea : ta = liftP wa) (eb : tb = liftP wb) : ∀ σ H Q, lift (wOp d wa wb) σ H Q → tOp r ta tb σ H Q := fun σ H Q q => by
  obtain ⟨W, own, ρ, R, o, i, z, f⟩ := q
  subst ea eb
  refine ⟨W, own, ρ, _, o, i, z, fun x v H1 r1 k1 o1 i1 => ⟨W, own, ρ, _, o1, i.mono o k1, r1, fun y u H2 r2 k2 o2 i2 => ?_⟩⟩
  exact h W own H2 v u x y R Q o2 (i1.mono o1 k2) i2 r2 (f.mono (k1.trans k2))
end
end DL
namespace DL
open PySem PySem.Spec PyProof.Rows L2 NW
theorem le_line {n : Nat} (h : n ≤ 1000000) : n ≤ sizeLine := Nat.le_trans h (by decide)
theorem lt_line {n : Nat} (h : n < 1000000) : n < sizeLine := Nat.lt_of_lt_of_le h (by decide)
/-- behind it stands a list of its own: nobody else holds it -/
def FinF (W : Wd) (H : Hp) (R : List DV → Prop) (Q : VK) : Prop := ∀ (xs : List DV) (vs : List V) (q : Addr) (H1 : Hp), R xs → Kp W.st H H1 → W.Ok H1 → Iss W H1 vs xs → vs.length ≤ 1000000 → H1 q = none → Q (.ref q) (upd H1 q (.lst vs))
abbrev WF := Env → (List DV → Prop) → Prop
def liftF (w : WF) : TE := fun σ H Q => ∃ W own ρ R, W.Ok H ∧ IsE W own H σ ρ ∧ w ρ R ∧ FinF W H R Q
def wF (w : WF) : WE := fun ρ R => w ρ fun xs => R (.lst xs)
section
variable {W : Wd} {own : Nat → Option Addr} {H H' : Hp} {R : List DV → Prop} {Q : VK}
theorem FinF.new (f : FinF W H R Q) (o : W.Ok H) {vs : List V} {xs : List DV} (l : vs.length ≤ 1000000) (i : Iss W H vs xs) (r : R xs) : NewR (.lst vs) H Q := fun q hq => f xs vs q H r (Kp.refl _ _) o i l hq
theorem FinF.mono (f : FinF W H R Q) (k : Kp W.st H H') : FinF W H' R Q := fun xs vs q H1 r k1 => f xs vs q H1 r (k.trans k1)
theorem Fin.f {R : DV → Prop} (f : Fin W H R Q) : FinF W H (fun xs => R (.lst xs)) Q := fun xs vs q H1 r k o i l hq =>
  f (.lst xs) (.ref q) _ r (k.trans (Kp.same (same_new hq))) (o.new hq) (.lst upd_same (o.fresh hq) l (i.mono (Kp.same (same_new hq))))
end
section
variable {X : Cx} {e a b c : Expr} {w wa wb wc : WE} {pos : Pos}
theorem df {f : WF} (h : PE X e (liftF f)) : PE X e (lift (wF f)) := pe_weak h fun σ H Q q => by
  obtain ⟨W, own, ρ, R, o, i, z, g⟩ := q
  exact ⟨W, own, ρ, _, o, i, z, g.f⟩
def fL (r : WA) : WF := fun ρ R => r ρ fun ds => ds.length ≤ 1000000 ∧ R ds
theorem dlstF {es : List Expr} {r : WA} (h : PA X es (liftA r)) : PE X (.List es pos) (liftF (fL r)) := pe_weak (pe_lst h) fun σ H Q q => by
  obtain ⟨W, own, ρ, R, o, i, z, f⟩ := q
  refine ⟨W, own, ρ, _, o, i, z, fun ds vs H1 r1 k1 o1 i1 => ⟨?_, ?_⟩⟩
  · rw [i1.len]; exact le_line r1.1
  · exact (f.mono k1).new o1 (by rw [i1.len]; exact r1.1) i1 r1.2
end
def dAdd : D2 := fun a b R => match a, b with
  | .int i, .int j => R (.int (i + j))
  | .str i, .str j => i.length + j.length ≤ 1000000 ∧ R (.str (i ++ j))
  | .lst xs, .lst ys => xs.length + ys.length ≤ 1000000 ∧ R (.lst (xs ++ ys))
  | _, _ => False
theorem opAdd : Op aAdd dAdd := by
  intro W own H x y a b R Q o hx hy hd f
  unfold dAdd at hd
  split at hd
  · cases hx.int; cases hy.int
    exact add_ii (f.int o hd)
  · cases hx.str; cases hy.str
    exact add_ss hd.1 (f.str o hd.2)
  · obtain ⟨p, vs, rfl, h1, h2, h3⟩ := hx.lst
    obtain ⟨q, us, rfl, g1, g2, g3⟩ := hy.lst
    have l : vs.length + us.length ≤ 1000000 := by rw [h3.len, g3.len]; exact hd.1
    exact add_ll h1 g1 l (f.f.new o (by rw [List.length_append]; exact l) (h3.app g3) hd.2)
  · exact hd.elim
/-- xs + ys, a new list -/
def fCat (wa wb : WE) : WF := fun ρ R => wa ρ fun x => wb ρ fun y => match x, y with
  | .lst xs, .lst ys => xs.length + ys.length ≤ 1000000 ∧ R (xs ++ ys)
  | _, _ => False
def dSub : D2 := fun a b R => match a, b with
  | .int i, .int j => R (.int (i - j))
  | _, _ => False
theorem opSub : Op aSub dSub := by
  intro W own H x y a b R Q o hx hy hd f
  unfold dSub at hd
  split at hd
  · cases hx.int; cases hy.int
    exact sub_ii (f.int o hd)
  · exact hd.elim
def dMul : D2 := fun a b R => match a, b with
  | .int i, .int j => ((-(2 ^ 64) < i ∧ i < 2 ^ 64) ∨ (-(2 ^ 64) < j ∧ j < 2 ^ 64)) ∧ R (.int (i * j))
  | _, _ => False
/-- a text so many times -/
def repS (a : Str) (k : Nat) : Str := ⟨((List.replicate k a.cps.toList).flatten).toArray⟩
def dMulS : D2 := fun a b R => match a, b with
  | .str i, .int j => 0 ≤ j ∧ j ≤ 1000000 ∧ i.length * j.toNat ≤ 1000000 ∧ R (.str (repS i j.toNat))
  | _, _ => False
theorem opMulS : Op rMulS dMulS := by
  intro W own H x y a b R Q o hx hy hd f
  unfold dMulS at hd
  split at hd
  · rename_i i j
    cases hx.str; cases hy.int
    obtain ⟨h0, h1, h2, r⟩ := hd
    refine ⟨i, j.toNat, rfl, ?_, by omega, h2, fun b hb => ?_⟩
    · rw [Int.toNat_of_nonneg h0]
    · have e : b = repS i j.toNat := by
        obtain ⟨cps⟩ := b
        unfold repS
        rw [← hb]
      rw [e]; exact f.str o r
  · exact hd.elim
def dMulL : D2 := fun a b R => match a, b with
  | .lst xs, .int j => j ≤ 1000000 ∧ -1000000 ≤ j ∧ xs.length * j.toNat ≤ 1000000 ∧ R (.lst (List.replicate j.toNat xs).flatten)
  | _, _ => False
theorem iss_rep {W : Wd} {H : Hp} {vs : List V} {xs : List DV} (h : Iss W H vs xs) : ∀ n : Nat, Iss W H (List.replicate n vs).flatten (List.replicate n xs).flatten
  | 0 => .nil
  | n + 1 => by
    rw [List.replicate_succ, List.replicate_succ, List.flatten_cons, List.flatten_cons]
    exact h.app (iss_rep h n)
theorem opMulL : Op rRep dMulL := by
  intro W own H x y a b R Q o hx hy hd f
  unfold dMulL at hd
  split at hd
  · rename_i xs j
    obtain ⟨p, vs, rfl, h1, h2, h3⟩ := hx.lst
    cases hy.int
    obtain ⟨g1, g2, g3, r⟩ := hd
    have l : vs.length * j.toNat ≤ 1000000 := by rw [h3.len]; exact g3
    refine ⟨p, j, vs, rfl, rfl, h1, by omega, by omega, le_line l, f.f.new o ?_ (iss_rep h3 _) r⟩
    rw [List.length_flatten, List.map_replicate, List.sum_replicate_nat, Nat.mul_comm]
    exact l
  · exact hd.elim
def dDiv : D2 := fun a b R => match a, b with
  | .int i, .int j => (0 < j ∧ j < 2 ^ 300) ∧ R (.int (i / j))
  | _, _ => False
def dMod : D2 := fun a b R => match a, b with
  | .int i, .int j => 0 < j ∧ R (.int (i % j))
  | _, _ => False
def ltS (a b : Str) : Bool := decide (a.cps.toList < b.cps.toList)
def dLt : D2 := fun a b R => match a, b with
  | .int i, .int j => R (.bl (decide (i < j)))
  | .str i, .str j => R (.bl (ltS i j))
  | _, _ => False
def dLe : D2 := fun a b R => match a, b with
  | .int i, .int j => R (.bl (decide (i ≤ j)))
  | .str i, .str j => R (.bl (!ltS j i))
  | _, _ => False
def dGt : D2 := fun a b R => match a, b with
  | .int i, .int j => R (.bl (decide (j < i)))
  | .str i, .str j => R (.bl (ltS j i))
  | _, _ => False
def dGe : D2 := fun a b R => match a, b with
  | .int i, .int j => R (.bl (decide (j ≤ i)))
  | .str i, .str j => R (.bl (!ltS i j))
  | _, _ => False
def rLtS : R2 := fun x y H Q => ∃ i j, x = .str i ∧ y = .str j ∧ Q (.bl (decide (i.cps.toList < j.cps.toList))) H
def rLeS : R2 := fun x y H Q => ∃ i j, x = .str i ∧ y = .str j ∧ Q (.bl (!decide (j.cps.toList < i.cps.toList))) H
def rGtS : R2 := fun x y H Q => ∃ i j, x = .str i ∧ y = .str j ∧ Q (.bl (decide (j.cps.toList < i.cps.toList))) H
def bLt : R2 := fun x y H Q => aLt x y H Q ∨ rLtS x y H Q
def bLe : R2 := fun x y H Q => aLe x y H Q ∨ rLeS x y H Q
def bGt : R2 := fun x y H Q => aGt x y H Q ∨ rGtS x y H Q
theorem kLt {X : Cx} : OpR X (compareOp .Lt) bLt := orOp oLt op_lt_str
theorem kLe {X : Cx} : OpR X (compareOp .LtE) bLe := orOp oLe op_le_str
theorem kGt {X : Cx} : OpR X (compareOp .Gt) bGt := orOp oGt op_gt_str
theorem opLt : Op bLt dLt := by
  intro W own H x y a b R Q o hx hy hd f
  unfold dLt at hd
  split at hd
  · cases hx.int; cases hy.int
    exact .inl (lt_ii (f.bl o hd))
  · cases hx.str; cases hy.str
    exact .inr ⟨_, _, rfl, rfl, f.bl o hd⟩
  · exact hd.elim
theorem opLe : Op bLe dLe := by
  intro W own H x y a b R Q o hx hy hd f
  unfold dLe at hd
  split at hd
  · cases hx.int; cases hy.int
    exact .inl (le_ii (f.bl o hd))
  · cases hx.str; cases hy.str
    exact .inr ⟨_, _, rfl, rfl, f.bl o hd⟩
  · exact hd.elim
theorem opGt : Op bGt dGt := by
  intro W own H x y a b R Q o hx hy hd f
  unfold dGt at hd
  split at hd
  · cases hx.int; cases hy.int
    exact .inl (gt_ii (f.bl o hd))
  · cases hx.str; cases hy.str
    exact .inr ⟨_, _, rfl, rfl, f.bl o hd⟩
  · exact hd.elim
/-- == of scalars -/
def eqD (a b : DV) (R : Bool → Prop) : Prop := match a, b with
  | .int i, .int j => R (decide (i = j))
  | .str i, .str j => R (decide (i = j))
  | .bl i, .bl j => R (decide (i = j))
  | _, _ => False
def dEq : D2 := fun a b R => eqD a b fun k => R (.bl k)
def dNe : D2 := fun a b R => eqD a b fun k => R (.bl (!k))
theorem eqD_sc {W : Wd} {own : Nat → Option Addr} {H : Hp} {x y : V} {a b : DV} {R : Bool → Prop} (hx : IsP W own H x a) (hy : IsP W own H y b) (h : eqD a b R) : scal x y = true ∧ R (decide (x = y)) := by
  unfold eqD at h
  split at h
  · cases hx.int; cases hy.int
    refine ⟨rfl, ?_⟩
    rw [dec_int, Bool.beq_eq_decide_eq]; exact h
  · rename_i i j
    cases hx.str; cases hy.str
    refine ⟨rfl, ?_⟩
    have e : decide (V.str i = V.str j) = decide (i = j) := decide_eq_decide.mpr ⟨fun z => V.str.inj z, fun z => by rw [z]⟩
    rw [e]; exact h
  · cases hx.bl; cases hy.bl
    refine ⟨rfl, ?_⟩
    rw [dec_bl, Bool.beq_eq_decide_eq]; exact h
  · exact h.elim
theorem opEq : Op aEq dEq := by
  intro W own H x y a b R Q o hx hy hd f
  obtain ⟨h1, h2⟩ := eqD_sc hx hy hd
  exact eq_sc h1 (f.bl o h2)
theorem opNe : Op aNe dNe := by
  intro W own H x y a b R Q o hx hy hd f
  obtain ⟨h1, h2⟩ := eqD_sc hx hy hd
  exact ne_sc h1 (f.bl o h2)
def inD (a b : DV) (R : Bool → Prop) : Prop := match a, b with
  | .str s, .str t => ∃ c, s = ⟨#[c]⟩ ∧ R (decide (c ∈ t.cps.toList))
  | .str s, .lst xs => ∃ ss : List Str, xs = ss.map DV.str ∧ R (decide (s ∈ ss))
  | .str s, .tup xs => ∃ ss : List Str, xs = ss.map DV.str ∧ R (decide (s ∈ ss))
  | .int s, .lst xs => ∃ ss : List Int, xs = ss.map DV.int ∧ R (decide (s ∈ ss))
  | .int s, .tup xs => ∃ ss : List Int, xs = ss.map DV.int ∧ R (decide (s ∈ ss))
  | _, _ => False
def dIn : D2 := fun a b R => inD a b fun k => R (.bl k)
def dNi : D2 := fun a b R => inD a b fun k => R (.bl (!k))
def rInSg (n : Bool) : R2 := fun x y H Q => ∃ (c : Nat) (z : Str), x = .str ⟨#[c]⟩ ∧ y = .str z ∧ Q (.bl (if n then !decide (c ∈ z.cps.toList) else decide (c ∈ z.cps.toList))) H
def bIn (K : PySem.W.Frag) (n : Bool) : R2 := fun x y H Q => rIn K n x y H Q ∨ rInSg n x y H Q
theorem kIn {X : Cx} : OpR X (compareOp .In) (bIn X.K false) := orOp op_in_seq op_in_sign
theorem iss_int {W : Wd} {H : Hp} : ∀ {ss : List Int} {vs : List V}, Iss W H vs (ss.map DV.int) → vs = ss.map V.int
  | [], _, .nil => rfl
  | s :: ss, _, .cons (.int _) t => by rw [iss_int t]; rfl
theorem str_iss {W : Wd} {H : Hp} : ∀ ss : List Str, Iss W H (ss.map V.str) (ss.map DV.str)
  | [] => .nil
  | s :: ss => .cons (.str s) (str_iss ss)
theorem int_iss {W : Wd} {H : Hp} : ∀ ss : List Int, Iss W H (ss.map V.int) (ss.map DV.int)
  | [] => .nil
  | s :: ss => .cons (.int s) (int_iss ss)
def dIx : D2 := fun a b R => match a, b with
  | .lst xs, .int i => ∃ d, atI xs i = some d ∧ R d
  | .tup xs, .int i => ∃ d, atI xs i = some d ∧ R d
  | .str s, .int i => s.length ≤ 1000000 ∧ ∃ c, atI s.cps.toList i = some c ∧ R (.str ⟨#[c]⟩)
  | _, _ => False
theorem iss_at {W : Wd} {H : Hp} {vs : List V} {xs : List DV} {i : Int} {d : DV} (h : Iss W H vs xs) (e : atI xs i = some d) : ∃ v, atI vs i = some v ∧ Is W H v d := by
  unfold atI at e ⊢
  rw [h.len]
  cases z : ixN xs.length i with
  | none => rw [z] at e; cases e
  | some j =>
    rw [z] at e
    exact h.get e
theorem opIx {K : PySem.W.Frag} : Op (aIx K) dIx := by
  intro W own H x y a b R Q o hx hy hd f
  unfold dIx at hd
  split at hd
  · obtain ⟨d, e, r⟩ := hd
    obtain ⟨p, vs, rfl, h1, h2, h3⟩ := hx.lst
    cases hy.int
    obtain ⟨v, hv, hi⟩ := iss_at h3 e
    exact ix_m h1 hv (f.at o hi r)
  · obtain ⟨d, e, r⟩ := hd
    obtain ⟨p, vs, rfl, h1, h2, h3⟩ := hx.tup
    cases hy.int
    obtain ⟨v, hv, hi⟩ := iss_at h3 e
    exact ix_t (SqT.of h1) hv (f.at o hi r)
  · obtain ⟨l, c, e, r⟩ := hd
    cases hx.str; cases hy.int
    exact .inr (.inr ⟨_, _, c, rfl, rfl, le_line l, e, f.str o r⟩)
  · exact hd.elim
section
variable {X : Cx} {e a b c : Expr} {w wa wb wc : WE} {t : WT} {pos : Pos}
theorem dop {op : Operator} {r : R2} {d : D2} (ho : OpR X (binaryOp op) r) (h : Op r d) (ha : PE X a (liftP wa)) (hb : PE X b (liftP wb)) : PE X (.BinOp a op b pos) (lift (wOp d wa wb)) := pe_weak (pe_op ho ha hb) (op_tr h rfl rfl)
theorem dcmp {op : CmpOp} {r : R2} {d : D2} (ho : OpR X (compareOp op) r) (h : Op r d) (ha : PE X a (liftP wa)) (hb : PE X b (liftP wb)) (hm : behindInMarks op b = false) : PE X (.Compare a [op] [b] pos) (lift (wOp d wa wb)) := pe_weak (pe_cmpR ho ha hb hm) (op_tr h rfl rfl)
theorem dix {r : R2} {d : D2} (ho : IxR X r) (h : Op r d) (ha : PE X a (liftP wa)) (hb : PE X b (liftP wb)) (hs : PlainIx b) : PE X (.Subscript a b pos) (lift (wOp d wa wb)) := pe_weak (pe_ix ho ha hb hs) (op_tr h rfl rfl)
/-- a test of a comparison -/
def wTB (w : WE) : WT := fun ρ R => w ρ fun d => match d with
  | .bl k => R k
  | _ => False
theorem pt_weak {e : Expr} {t t' : TT} (h : PT X e t) (w : ∀ σ H Q, t' σ H Q → t σ H Q) : PT X e t' := ⟨fun pins s σ H Q I q => h.run pins s σ H Q I (w σ H Q q)⟩
theorem dtcmp {op : CmpOp} {r : R2} {d : D2} (ho : OpR X (compareOp op) r) (h : Op r d) (ha : PE X a (liftP wa)) (hb : PE X b (liftP wb)) (hm : behindInMarks op b = false) : PT X (.Compare a [op] [b] pos) (liftT (wTB (wOp d wa wb))) := pt_weak (pt_cmpR ho ha hb hm) fun σ H Q q => by
  obtain ⟨W, own, ρ, R, o, i, z, f⟩ := q
  refine op_tr h rfl rfl σ H _ ⟨W, own, ρ, _, o, i, z, fun d v H' r k o' i' => ?_⟩
  split at r
  · cases i'
    exact ⟨_, rfl, f _ _ r k o'⟩
  · exact r.elim
def isNon : DV → Bool
  | .non => true
  | _ => false
def wIsN (w : WE) : WE := fun ρ R => w ρ fun d => R (.bl (isNon d))
theorem is_non {W : Wd} {own : Nat → Option Addr} {H : Hp} {v : V} {d : DV} (h : IsP W own H v d) : decide (v = .non) = isNon d := by
  rcases h with h | ⟨i, a, vs, xs, h1, h2, h3, h4, _⟩
  · cases h <;> first | exact decide_eq_true rfl | exact decide_eq_false (fun z => nomatch z)
  · subst h3 h4; exact decide_eq_false (fun z => nomatch z)
theorem disn (ha : PE X a (liftP wa)) (h : ∀ t, PE X a t → PE X e (tIsN t)) : PE X e (lift (wIsN wa)) := pe_weak (h _ ha) fun σ H Q q => by
  obtain ⟨W, own, ρ, R, o, i, z, f⟩ := q
  refine ⟨W, own, ρ, _, o, i, z, fun x v H1 r1 k1 o1 i1 => ?_⟩
  show Q (.bl (decide (v = .non))) H1
  rw [is_non i1]
  exact (f.mono k1).bl o1 r1
/-- truth -/
def dTru (d : DV) (R : Bool → Prop) : Prop := match d with
  | .non => R false
  | .bl k => R k
  | .int i => R (i != 0)
  | .str s => s.length ≤ 1000000 ∧ R ((s.length : Int) != 0)
  | .lst xs => R (!xs.isEmpty)
  | .tup xs => R (!xs.isEmpty)
  | _ => False
def wTru (w : WE) : WT := fun ρ R => w ρ fun d => dTru d R
theorem emp_len {α β : Type} {a : List α} {b : List β} (h : a.length = b.length) : a.isEmpty = b.isEmpty := by
  cases a <;> cases b <;> first | rfl | cases h
theorem tru_ok {K : PySem.W.Frag} {W : Wd} {own : Nat → Option Addr} {H : Hp} {v : V} {d : DV} {R : Bool → Prop} (h : IsP W own H v d) (r : dTru d R) : ∃ k, TruV K v H k ∧ R k := by
  cases d with
  | non => cases h.non; exact ⟨false, rfl, r⟩
  | bl k => cases h.bl; exact ⟨k, rfl, r⟩
  | int i => cases h.int; exact ⟨_, rfl, r⟩
  | str s => cases h.str; exact ⟨_, ⟨le_line r.1, rfl⟩, r.2⟩
  | lst xs =>
    obtain ⟨p, vs, rfl, h1, h2, h3⟩ := h.lst
    exact ⟨!vs.isEmpty, .inl ⟨vs, SqL.of h1, rfl⟩, by rw [emp_len h3.len]; exact r⟩
  | tup xs =>
    obtain ⟨p, vs, rfl, h1, h2, h3⟩ := h.tup
    exact ⟨!vs.isEmpty, .inr (.inl ⟨vs, SqT.of h1, rfl⟩), by rw [emp_len h3.len]; exact r⟩
  | _ => exact r.elim
theorem dtru (ha : PE X a (liftP wa)) (he : ∀ whole, isTrue a X.env whole = (do let v ← whole; standAt a.pos; holding [v] (truthy v)) := by exact fun _ => rfl) : PT X a (liftT (wTru wa)) := pt_weak (pt_truth ha he) fun σ H Q q => by
  obtain ⟨W, own, ρ, R, o, i, z, f⟩ := q
  refine ⟨W, own, ρ, _, o, i, z, fun d v H' r k o' i' => ?_⟩
  obtain ⟨b, h1, h2⟩ := tru_ok i' r
  exact ⟨b, h1, f _ _ h2 k o'⟩
def wAnd (a b : WT) : WT := fun ρ R => a ρ fun k => if k = true then b ρ R else R false
def wOr (a b : WT) : WT := fun ρ R => a ρ fun k => if k = true then R true else b ρ R
def wNot (a : WT) : WT := fun ρ R => a ρ fun k => R (!k)
variable {ta tb : WT} {rest : List Expr}
theorem pw_weak {e : Expr} {t t' : TT} (h : PW X e t) (w : ∀ σ H Q, t' σ H Q → t σ H Q) : PW X e t' := ⟨fun wh pins s σ H Q I q => h.run wh pins s σ H Q I (w σ H Q q)⟩
theorem dand1 (ha : PT X a (liftT ta)) : PW X (.BoolOp .And [a] pos) (liftT ta) := pw_and1 ha
theorem dor1 (ha : PT X a (liftT ta)) : PW X (.BoolOp .Or [a] pos) (liftT ta) := pw_or1 ha
theorem dand (ha : PT X a (liftT ta)) (hb : PW X (.BoolOp .And (b :: rest) pos) (liftT tb)) : PW X (.BoolOp .And (a :: b :: rest) pos) (liftT (wAnd ta tb)) := pw_weak (pw_and ha hb) fun σ H Q q => by
  obtain ⟨W, own, ρ, R, o, i, z, f⟩ := q
  refine ⟨W, own, ρ, _, o, i, z, fun k H' r kk o' => ?_⟩
  cases k with
  | true => exact ⟨W, own, ρ, R, o', i.mono o kk, r, fun b H2 r2 k2 o2 => f b H2 r2 (kk.trans k2) o2⟩
  | false => exact f _ _ r kk o'
theorem dor (ha : PT X a (liftT ta)) (hb : PW X (.BoolOp .Or (b :: rest) pos) (liftT tb)) : PW X (.BoolOp .Or (a :: b :: rest) pos) (liftT (wOr ta tb)) := pw_weak (pw_or ha hb) fun σ H Q q => by
  obtain ⟨W, own, ρ, R, o, i, z, f⟩ := q
  refine ⟨W, own, ρ, _, o, i, z, fun k H' r kk o' => ?_⟩
  cases k with
  | false => exact ⟨W, own, ρ, R, o', i.mono o kk, r, fun b H2 r2 k2 o2 => f b H2 r2 (kk.trans k2) o2⟩
  | true => exact f _ _ r kk o'
theorem dnot (ha : PT X a (liftT ta)) : PT X (.UnaryOp .Not a pos) (liftT (wNot ta)) := pt_weak (pt_not ha) fun σ H Q q => by
  obtain ⟨W, own, ρ, R, o, i, z, f⟩ := q
  exact ⟨W, own, ρ, _, o, i, z, fun k H' r kk o' => f _ _ r kk o'⟩
/-- values of and, or, not: truth values -/
def wAndV (wa wb : WE) : WE := fun ρ R => wa ρ fun d => match d with
  | .bl k => if k = true then wb ρ R else R (.bl false)
  | _ => False
def wOrV (wa wb : WE) : WE := fun ρ R => wa ρ fun d => match d with
  | .bl k => if k = true then R (.bl true) else wb ρ R
  | _ => False
def wNotV (wa : WE) : WE := fun ρ R => wa ρ fun d => dTru d fun k => R (.bl (!k))
theorem done {op} (h : PE X a (lift wa)) : PE X (.BoolOp op [a] pos) (lift wa) := pe_one h
theorem dandV (ha : PE X a (lift wa)) (hb : PE X (.BoolOp .And (b :: rest) pos) (lift wb)) : PE X (.BoolOp .And (a :: b :: rest) pos) (lift (wAndV wa wb)) := pe_weak (pe_and ha hb) fun σ H Q q => by
  obtain ⟨W, own, ρ, R, o, i, z, f⟩ := q
  refine ⟨W, own, ρ, _, o, i, z, fun d v H1 r1 k1 o1 i1 => ?_⟩
  split at r1
  · rename_i k
    cases i1
    refine ⟨k, rfl, ?_⟩
    cases k with
    | true => exact ⟨W, own, ρ, R, o1, i.mono o k1, r1, f.mono k1⟩
    | false => exact (f.mono k1).bl o1 r1
  · exact r1.elim
theorem dnotV (ha : PE X a (liftP wa)) : PE X (.UnaryOp .Not a pos) (lift (wNotV wa)) := pe_weak (pe_notT ha) fun σ H Q q => by
  obtain ⟨W, own, ρ, R, o, i, z, f⟩ := q
  refine ⟨W, own, ρ, _, o, i, z, fun d v H1 r1 k1 o1 i1 => ?_⟩
  obtain ⟨b, h1, h2⟩ := tru_ok i1 r1
  exact ⟨b, h1, (f.mono k1).bl o1 h2⟩
def wIf (t : WT) (wa wb : WE) : WE := fun ρ R => t ρ fun k => if k = true then wa ρ R else wb ρ R
/-- a < b < c -/
def wChain (d d' : D2) (wa wb wc : WE) : WE := fun ρ R => wa ρ fun x => wb ρ fun y => d x y fun z => match z with
  | .bl k => if k = true then wc ρ fun z' => d' y z' R else R (.bl false)
  | _ => False
theorem chain_tr {r r' : R2} {d d' : D2} (h : Op r d) (h' : Op r' d') : ∀ σ H Q, lift (wChain d d' wa wb wc) σ H Q → tChain r r' (liftP wa) (liftP wb) (liftP wc) σ H Q := fun σ H Q q => by
  obtain ⟨W, own, ρ, R, o, i, z, f⟩ := q
  refine ⟨W, own, ρ, _, o, i, z, fun x v H1 r1 k1 o1 i1 => ⟨W, own, ρ, _, o1, i.mono o k1, r1, fun y u H2 r2 k2 o2 i2 => ?_⟩⟩
  refine h W own H2 v u x y _ _ o2 (i1.mono o1 k2) i2 r2 fun z zv H3 r3 k3 o3 i3 => ?_
  have k13 := (k1.trans k2).trans k3
  split at r3
  · rename_i k
    cases i3
    refine ⟨k, rfl, ?_⟩
    cases k with
    | true => exact ⟨W, own, ρ, _, o3, i.mono o k13, r3, fun z' zv H4 r4 k4 o4 i4 => h' W own H4 u zv y z' R Q o4 (i2.mono o2 (k3.trans k4)) i4 r4 (f.mono (k13.trans k4))⟩
    | false => exact (f.mono k13).bl o3 r3
  · exact r3.elim
abbrev DA := List DV → (DV → Prop) → Prop
def Cl (r : List V → Hp → VK → Prop) (d : DA) : Prop := ∀ W own H vs ds R Q, W.Ok H → Paired (IsP W own H) vs ds → d ds R → Fin W H R Q → r vs H Q
def wCB (d : DA) (wa : WA) : WE := fun ρ R => wa ρ fun ds => d ds R
theorem cb_tr {r : List V → Hp → VK → Prop} {d : DA} (h : Cl r d) {wa : WA} : ∀ σ H Q, lift (wCB d wa) σ H Q → tCB r (liftB wa) σ H Q := fun σ H Q q => by
  obtain ⟨W, own, ρ, R, o, i, z, f⟩ := q
  exact ⟨W, own, ρ, _, o, i, z, fun ds vs H1 r1 k1 o1 i1 => h W own H1 vs ds R Q o1 i1 r1 (f.mono k1)⟩
end
end DL
namespace DL
open PySem PySem.Spec PyProof.Rows L2 NW
structure WEnds where
  nx : Env → Prop
  rt : DV → Prop
  bk : Env → Prop := fun _ => False
  ct : Env → Prop := fun _ => False
  xc : DV → Env → Prop := fun _ _ => False
abbrev WS := WEnds → Env → Prop
/-- what stands fast through a def: the store, what nobody may reach, the heap at the def's entry -/
structure Bs where
  st : Option Addr
  hid : Addr → Prop
  H0 : Hp
def Bs.w (B : Bs) (own : Nat → Option Addr) : Wd := ⟨B.st, fun a => B.hid a ∨ ∃ i, own i = some a⟩
def Bs.w0 (B : Bs) : Wd := ⟨B.st, B.hid⟩
structure Ctx (B : Bs) (own : Nat → Option Addr) (H : Hp) (σ : L2.St) (ρ : Env) : Prop where
  s0 : StoW B.st B.H0
  k : Kp B.st B.H0 H
  ok : (B.w own).Ok H
  e : IsE (B.w own) own H σ ρ
  o : ∀ i a, own i = some a → B.H0 a = none ∧ ¬ B.hid a
  inj : ∀ i j a, own i = some a → own j = some a → i = j
structure Dl (B : Bs) (E : WEnds) (D : Ends) (Ex : L2.WX) : Prop where
  nx : ∀ own ρ σ H, E.nx ρ → Ctx B own H σ ρ → D.nx σ H
  bk : ∀ own ρ σ H, E.bk ρ → Ctx B own H σ ρ → D.bk σ H
  ct : ∀ own ρ σ H, E.ct ρ → Ctx B own H σ ρ → D.ct σ H
  rt : ∀ d v H, E.rt d → Kp B.st B.H0 H → B.w0.Ok H → Is B.w0 H v d → D.rt v H
  xc : ∀ own ρ σ H C ns xs dd fs, E.xc (.err C ns xs) ρ → Ctx B own H σ ρ → H dd = some (.xd fs) → (B.w own).ok dd → fs.map (·.1) = ns → Iss (B.w own) H (fs.map (·.2)) xs → Ex (.ref C) (some dd) σ H
def liftS (Ex : L2.WX) (w : WS) : TS := fun D σ H => ∃ B own ρ E, Ctx B own H σ ρ ∧ w E ρ ∧ Dl B E D Ex
section
variable {B : Bs} {own own' : Nat → Option Addr} {H H' : Hp} {σ : L2.St} {ρ : Env}
/-- less is hidden -/
theorem Is.less {W W' : Wd} (e1 : W'.st = W.st) (s : ∀ a, W'.hid a → W.hid a) {v : V} {d : DV} (h : Is W H v d) : Is W' H v d := h.tr e1 fun b _ k z => ⟨⟨by rw [e1]; exact k.1, fun q => k.2 (s b q)⟩, z⟩
theorem Iss.less {W W' : Wd} (e1 : W'.st = W.st) (s : ∀ a, W'.hid a → W.hid a) {v : List V} {d : List DV} (h : Iss W H v d) : Iss W' H v d := h.tr e1 fun b _ k z => ⟨⟨by rw [e1]; exact k.1, fun q => k.2 (s b q)⟩, z⟩
theorem ok_less {W W' : Wd} (e1 : W'.st = W.st) (s : ∀ a, W'.hid a → W.hid a) (h : W.Ok H) : W'.Ok H := ⟨by rw [e1]; exact h.s, fun a ha => by rw [e1]; exact h.h a (s a ha)⟩
theorem Ctx.mono (c : Ctx B own H σ ρ) (k : Kp B.st H H') (o : (B.w own).Ok H') : Ctx B own H' σ ρ := ⟨c.s0, c.k.trans k, o, c.e.mono c.ok k, c.o, c.inj⟩
theorem w0_sub : ∀ a, B.w0.hid a → (B.w own).hid a := fun _ h => .inl h
theorem Ctx.ok0 (c : Ctx B own H σ ρ) : B.w0.Ok H := ok_less (W := B.w own) (W' := B.w0) rfl w0_sub c.ok
/-- own names let go -/
theorem Ctx.sub (c : Ctx B own H σ ρ) (s : ∀ i a, own' i = some a → own i = some a) {σ' : L2.St} {ρ' : Env} (e : IsE (B.w own') own' H σ' ρ') : Ctx B own' H σ' ρ' :=
  ⟨c.s0, c.k, ok_less (W := B.w own) (W' := B.w own') rfl (fun a h => h.elim .inl fun ⟨i, z⟩ => .inr ⟨i, s i a z⟩) c.ok, e, fun i a z => c.o i a (s i a z), fun i j a z z' => c.inj i j a (s i a z) (s j a z')⟩
def cut (own : Nat → Option Addr) (i : Nat) : Nat → Option Addr := fun j => if j = i then none else own j
theorem cut_sub {i : Nat} : ∀ j a, cut own i j = some a → own j = some a := fun j a h => by
  unfold cut at h
  split at h
  · cases h
  · exact h
theorem cut_ne {i j : Nat} (n : j ≠ i) : cut own i j = own j := if_neg n
theorem hid_cut {i : Nat} : ∀ a, (B.w (cut own i)).hid a → (B.w own).hid a := fun a h => h.elim .inl fun ⟨j, z⟩ => .inr ⟨j, cut_sub j a z⟩
theorem get_set {α : Type} {l : List α} {i j : Nat} {x y : α} (h : (l.set i x)[j]? = some y) : (j = i ∧ i < l.length ∧ y = x) ∨ (j ≠ i ∧ l[j]? = some y) := by
  rw [List.getElem?_set] at h
  split at h
  · rename_i e
    split at h
    · rename_i e2
      exact .inl ⟨e.symm, e2, (Option.some.inj h).symm⟩
    · cases h
  · rename_i e
    exact .inr ⟨fun z => e z.symm, h⟩
theorem Is.cut {i : Nat} {v : V} {d : DV} (h : Is (B.w own) H v d) : Is (B.w (DL.cut own i)) H v d := Is.less (W := B.w own) (W' := B.w (DL.cut own i)) rfl hid_cut h
theorem Iss.cut {i : Nat} {v : List V} {d : List DV} (h : Iss (B.w own) H v d) : Iss (B.w (DL.cut own i)) H v d := Iss.less (W := B.w own) (W' := B.w (DL.cut own i)) rfl hid_cut h
theorem Is.w0 {v : V} {d : DV} (h : Is (B.w own) H v d) : Is B.w0 H v d := Is.less (W := B.w own) (W' := B.w0) rfl w0_sub h
theorem Iss.w0 {v : List V} {d : List DV} (h : Iss (B.w own) H v d) : Iss B.w0 H v d := Iss.less (W := B.w own) (W' := B.w0) rfl w0_sub h
/-- a name gets data -/
theorem Ctx.set (c : Ctx B own H σ ρ) (i : Nat) {v : V} {d : DV} (h : Is (B.w own) H v d) : Ctx B (cut own i) H (σ.set i (some v)) (ρ.set i (.dt d)) := by
  refine c.sub cut_sub ⟨?_, fun j x e => ?_, fun j xs e => ?_, fun j ks xs e => ?_, fun j A C ns xs e => ?_, fun j a z => .inr ⟨j, z⟩⟩
  · rw [List.length_set, List.length_set]; exact c.e.len
  · rcases get_set e with ⟨rfl, l, z⟩ | ⟨n, z⟩
    · cases z
      refine ⟨v, ?_, h.cut⟩
      rw [List.getElem?_set_self (by rw [c.e.len]; exact l)]
    · obtain ⟨u, h1, h2⟩ := c.e.dt j x z
      exact ⟨u, by rw [List.getElem?_set_ne (Ne.symm n)]; exact h1, h2.cut⟩
  · rcases get_set e with ⟨rfl, l, z⟩ | ⟨n, z⟩
    · cases z
    · obtain ⟨a, vs, h1, h2, h3, h4, h5⟩ := c.e.ow j xs z
      exact ⟨a, vs, by rw [cut_ne n]; exact h1, by rw [List.getElem?_set_ne (Ne.symm n)]; exact h2, h3, h4, h5.cut⟩
  · rcases get_set e with ⟨rfl, l, z⟩ | ⟨n, z⟩
    · cases z
    · obtain ⟨a, vs, h1, h2, h3, h4, h5⟩ := c.e.od j ks xs z
      exact ⟨a, vs, by rw [cut_ne n]; exact h1, by rw [List.getElem?_set_ne (Ne.symm n)]; exact h2, h3, h4, h5.cut⟩
  · rcases get_set e with ⟨rfl, l, z⟩ | ⟨n, z⟩
    · cases z
    · obtain ⟨a, vs, h1, h2, h3, h4, h5⟩ := c.e.oi j A C ns xs z
      exact ⟨a, vs, by rw [cut_ne n]; exact h1, by rw [List.getElem?_set_ne (Ne.symm n)]; exact h2, h3, h4, h5.cut⟩
def owi (own : Nat → Option Addr) (i : Nat) (q : Addr) : Nat → Option Addr := fun j => if j = i then some q else own j
/-- a name gets a fresh list of its own -/
theorem Ctx.setO (c : Ctx B own H σ ρ) (i : Nat) {q : Addr} {vs : List V} {xs : List DV} (hq : H q = none) (l : vs.length ≤ 1000000) (h : Iss (B.w own) H vs xs) : Ctx B (owi own i q) (upd H q (.lst vs)) (σ.set i (some (.ref q))) (ρ.set i (.ow xs)) := by
  have fr := c.ok.fresh hq
  have s := same_new (o := .lst vs) hq
  have hide : ∀ a, (B.w (owi own i q)).hid a → (B.w own).hid a ∨ a = q := fun a h => by
    rcases h with h | ⟨j, z⟩
    · exact .inl (.inl h)
    · unfold owi at z
      split at z
      · exact .inr (Option.some.inj z).symm
      · exact .inl (.inr ⟨j, z⟩)
  have is2 : ∀ {v : V} {d : DV}, Is (B.w own) H v d → Is (B.w (owi own i q)) (upd H q (.lst vs)) v d := fun h => Is.tr (W := B.w own) (W' := B.w (owi own i q)) rfl (fun b o k z => ⟨⟨k.1, fun w => (hide b w).elim k.2 fun e => ne_of_none z hq e⟩, s b o z⟩) h
  have iss2 : ∀ {v : List V} {d : List DV}, Iss (B.w own) H v d → Iss (B.w (owi own i q)) (upd H q (.lst vs)) v d := fun h => Iss.tr (W := B.w own) (W' := B.w (owi own i q)) rfl (fun b o k z => ⟨⟨k.1, fun w => (hide b w).elim k.2 fun e => ne_of_none z hq e⟩, s b o z⟩) h
  have h0 : B.H0 q = none := by
    cases e : B.H0 q with
    | none => rfl
    | some o =>
      have z := c.k.o e fr.1
      rw [hq] at z; cases z
  refine ⟨c.s0, c.k.trans (Kp.same s), ⟨c.ok.s.same s, fun a ha => ?_⟩, ⟨?_, fun j x e => ?_, fun j ys e => ?_, fun j ks ys e => ?_, fun j A C ns ys e => ?_, fun j a z => .inr ⟨j, z⟩⟩, fun j a z => ?_, fun j k a z z' => ?_⟩
  · rcases hide a ha with ha | rfl
    · obtain ⟨⟨o, ho⟩, n⟩ := c.ok.h a ha
      exact ⟨⟨o, s _ _ ho⟩, n⟩
    · exact ⟨⟨_, upd_same⟩, fr.1⟩
  · rw [List.length_set, List.length_set]; exact c.e.len
  · rcases get_set e with ⟨rfl, l, z⟩ | ⟨n, z⟩
    · cases z
    · obtain ⟨u, h1, h2⟩ := c.e.dt j x z
      exact ⟨u, by rw [List.getElem?_set_ne (Ne.symm n)]; exact h1, is2 h2⟩
  · rcases get_set e with ⟨rfl, l2, z⟩ | ⟨n, z⟩
    · cases z
      refine ⟨q, vs, if_pos rfl, ?_, upd_same, l, iss2 h⟩
      rw [List.getElem?_set_self (by rw [c.e.len]; exact l2)]
    · obtain ⟨a, us, h1, h2, h3, h4, h5⟩ := c.e.ow j ys z
      exact ⟨a, us, by unfold owi; rw [if_neg n]; exact h1, by rw [List.getElem?_set_ne (Ne.symm n)]; exact h2, s _ _ h3, h4, iss2 h5⟩
  · rcases get_set e with ⟨rfl, l2, z⟩ | ⟨n, z⟩
    · cases z
    · obtain ⟨a, us, h1, h2, h3, h4, h5⟩ := c.e.od j ks ys z
      exact ⟨a, us, by unfold owi; rw [if_neg n]; exact h1, by rw [List.getElem?_set_ne (Ne.symm n)]; exact h2, s _ _ h3, h4, iss2 h5⟩
  · rcases get_set e with ⟨rfl, l2, z⟩ | ⟨n, z⟩
    · cases z
    · obtain ⟨a, us, h1, h2, ⟨dx, h3⟩, h4, h5⟩ := c.e.oi j A C ns ys z
      exact ⟨a, us, by unfold owi; rw [if_neg n]; exact h1, by rw [List.getElem?_set_ne (Ne.symm n)]; exact h2, ⟨dx, s _ _ h3⟩, h4, iss2 h5⟩
  · unfold owi at z
    split at z
    · cases z
      exact ⟨h0, fun w => fr.2 (.inl w)⟩
    · exact c.o j a z
  · unfold owi at z z'
    split at z <;> split at z'
    · rename_i e1 e2; rw [e1, e2]
    · cases z
      obtain ⟨⟨o, ho⟩, _⟩ := c.ok.h _ (.inr ⟨k, z'⟩)
      rw [hq] at ho; cases ho
    · cases z'
      obtain ⟨⟨o, ho⟩, _⟩ := c.ok.h _ (.inr ⟨j, z⟩)
      rw [hq] at ho; cases ho
    · exact c.inj j k a z z'
/-- a list of one's own changes -/
theorem Ctx.updO (c : Ctx B own H σ ρ) (i : Nat) {a : Addr} {vs : List V} {xs ys : List DV} (h : own i = some a) (r : ρ[i]? = some (.ow xs)) (l : vs.length ≤ 1000000) (is : Iss (B.w own) H vs ys) : Ctx B own (upd H a (.lst vs)) σ (ρ.set i (.ow ys)) := by
  have nk : ¬ (B.w own).ok a := fun k => k.2 (.inr ⟨i, h⟩)
  have na := (c.ok.h a (.inr ⟨i, h⟩)).2
  have h0 := (c.o i a h).1
  have hl : i < ρ.length := (List.getElem?_eq_some_iff.mp r).1
  obtain ⟨a', vs', g1, g2, g3, g4, g5⟩ := c.e.ow i xs r
  rw [h] at g1; cases g1
  refine ⟨c.s0, c.k.own h0 na, ⟨?_, fun b hb => ?_⟩, ⟨?_, fun j x e => ?_, fun j zs e => ?_, fun j ks zs e => ?_, fun j A C ns zs e => ?_, c.e.hd⟩, c.o, c.inj⟩
  · have s := c.ok.s
    have kk := c.k
    show StoW B.st _
    have s : StoW B.st H := s
    cases e : B.st with
    | none => trivial
    | some st =>
      rw [e] at s kk
      have n1 : a ≠ st := fun z => na (by show B.st = _; rw [e, z])
      have s0 := c.s0
      rw [e] at s0
      obtain ⟨cl, ns, q1, q2, q3, q4, q5, w1, w2, w3⟩ := s0
      obtain ⟨r', hr⟩ := Keep.h kk _ _ w1
      exact Sto.own s hr n1 fun z => by rw [z, w2] at h0; cases h0
  · obtain ⟨⟨o, ho⟩, n⟩ := c.ok.h b hb
    by_cases e : b = a
    · rw [e]; exact ⟨⟨_, upd_same⟩, na⟩
    · exact ⟨⟨o, by rw [upd_ne e]; exact ho⟩, n⟩
  · rw [List.length_set]; exact c.e.len
  · rcases get_set e with ⟨rfl, l, z⟩ | ⟨n, z⟩
    · cases z
    · obtain ⟨u, h1, h2⟩ := c.e.dt j x z
      exact ⟨u, h1, h2.off nk⟩
  · rcases get_set e with ⟨rfl, l2, z⟩ | ⟨n, z⟩
    · cases z
      exact ⟨a, vs, h, g2, upd_same, l, is.off nk⟩
    · obtain ⟨b, us, h1, h2, h3, h4, h5⟩ := c.e.ow j zs z
      have nb : b ≠ a := fun e => n (c.inj j i a (by rw [← e]; exact h1) h)
      exact ⟨b, us, h1, h2, by rw [upd_ne nb]; exact h3, h4, h5.off nk⟩
  · rcases get_set e with ⟨rfl, l2, z⟩ | ⟨n, z⟩
    · cases z
    · obtain ⟨b, us, h1, h2, h3, h4, h5⟩ := c.e.od j ks zs z
      have nb : b ≠ a := fun e => n (c.inj j i a (by rw [← e]; exact h1) h)
      exact ⟨b, us, h1, h2, by rw [upd_ne nb]; exact h3, h4, h5.off nk⟩
  · rcases get_set e with ⟨rfl, l2, z⟩ | ⟨n, z⟩
    · cases z
    · obtain ⟨b, us, h1, h2, ⟨dx, h3⟩, h4, h5⟩ := c.e.oi j A C ns zs z
      have nb : b ≠ a := fun e => n (c.inj j i a (by rw [← e]; exact h1) h)
      exact ⟨b, us, h1, h2, ⟨dx, by rw [upd_ne nb]; exact h3⟩, h4, h5.off nk⟩
/-- a name gets a fresh dict of its own -/
theorem Ctx.setD (c : Ctx B own H σ ρ) (i : Nat) {q : Addr} {kv : List (Key × V)} {kk : List Key} {xs : List DV} (hq : H q = none) (l : kv.length ≤ 1000000 ∧ kv.map (·.1) = kk ∧ kk.Nodup) (h : Iss (B.w own) H (kv.map (·.2)) xs) : Ctx B (owi own i q) (upd H q (.dK kv)) (σ.set i (some (.ref q))) (ρ.set i (.od kk xs)) := by
  have fr := c.ok.fresh hq
  have s := same_new (o := .dK kv) hq
  have hide : ∀ a, (B.w (owi own i q)).hid a → (B.w own).hid a ∨ a = q := fun a h => by
    rcases h with h | ⟨j, z⟩
    · exact .inl (.inl h)
    · unfold owi at z
      split at z
      · exact .inr (Option.some.inj z).symm
      · exact .inl (.inr ⟨j, z⟩)
  have is2 : ∀ {v : V} {d : DV}, Is (B.w own) H v d → Is (B.w (owi own i q)) (upd H q (.dK kv)) v d := fun h => Is.tr (W := B.w own) (W' := B.w (owi own i q)) rfl (fun b o k z => ⟨⟨k.1, fun w => (hide b w).elim k.2 fun e => ne_of_none z hq e⟩, s b o z⟩) h
  have iss2 : ∀ {v : List V} {d : List DV}, Iss (B.w own) H v d → Iss (B.w (owi own i q)) (upd H q (.dK kv)) v d := fun h => Iss.tr (W := B.w own) (W' := B.w (owi own i q)) rfl (fun b o k z => ⟨⟨k.1, fun w => (hide b w).elim k.2 fun e => ne_of_none z hq e⟩, s b o z⟩) h
  have h0 : B.H0 q = none := by
    cases e : B.H0 q with
    | none => rfl
    | some o =>
      have z := c.k.o e fr.1
      rw [hq] at z; cases z
  refine ⟨c.s0, c.k.trans (Kp.same s), ⟨c.ok.s.same s, fun a ha => ?_⟩, ⟨?_, fun j x e => ?_, fun j ys e => ?_, fun j ks ys e => ?_, fun j A C ns ys e => ?_, fun j a z => .inr ⟨j, z⟩⟩, fun j a z => ?_, fun j k a z z' => ?_⟩
  · rcases hide a ha with ha | rfl
    · obtain ⟨⟨o, ho⟩, n⟩ := c.ok.h a ha
      exact ⟨⟨o, s _ _ ho⟩, n⟩
    · exact ⟨⟨_, upd_same⟩, fr.1⟩
  · rw [List.length_set, List.length_set]; exact c.e.len
  · rcases get_set e with ⟨rfl, l, z⟩ | ⟨n, z⟩
    · cases z
    · obtain ⟨u, h1, h2⟩ := c.e.dt j x z
      exact ⟨u, by rw [List.getElem?_set_ne (Ne.symm n)]; exact h1, is2 h2⟩
  · rcases get_set e with ⟨rfl, l2, z⟩ | ⟨n, z⟩
    · cases z
    · obtain ⟨a, us, h1, h2, h3, h4, h5⟩ := c.e.ow j ys z
      exact ⟨a, us, by unfold owi; rw [if_neg n]; exact h1, by rw [List.getElem?_set_ne (Ne.symm n)]; exact h2, s _ _ h3, h4, iss2 h5⟩
  · rcases get_set e with ⟨rfl, l2, z⟩ | ⟨n, z⟩
    · cases z
      refine ⟨q, kv, if_pos rfl, ?_, upd_same, l, iss2 h⟩
      rw [List.getElem?_set_self (by rw [c.e.len]; exact l2)]
    · obtain ⟨a, us, h1, h2, h3, h4, h5⟩ := c.e.od j ks ys z
      exact ⟨a, us, by unfold owi; rw [if_neg n]; exact h1, by rw [List.getElem?_set_ne (Ne.symm n)]; exact h2, s _ _ h3, h4, iss2 h5⟩
  · rcases get_set e with ⟨rfl, l2, z⟩ | ⟨n, z⟩
    · cases z
    · obtain ⟨a, us, h1, h2, ⟨dx, h3⟩, h4, h5⟩ := c.e.oi j A C ns ys z
      exact ⟨a, us, by unfold owi; rw [if_neg n]; exact h1, by rw [List.getElem?_set_ne (Ne.symm n)]; exact h2, ⟨dx, s _ _ h3⟩, h4, iss2 h5⟩
  · unfold owi at z
    split at z
    · cases z
      exact ⟨h0, fun w => fr.2 (.inl w)⟩
    · exact c.o j a z
  · unfold owi at z z'
    split at z <;> split at z'
    · rename_i e1 e2; rw [e1, e2]
    · cases z
      obtain ⟨⟨o, ho⟩, _⟩ := c.ok.h _ (.inr ⟨k, z'⟩)
      rw [hq] at ho; cases ho
    · cases z'
      obtain ⟨⟨o, ho⟩, _⟩ := c.ok.h _ (.inr ⟨j, z⟩)
      rw [hq] at ho; cases ho
    · exact c.inj j k a z z'
/-- a dict of one's own changes -/
theorem Ctx.updD (c : Ctx B own H σ ρ) (i : Nat) {a : Addr} {kv : List (Key × V)} {kk kk' : List Key} {xs ys : List DV} (h : own i = some a) (r : ρ[i]? = some (.od kk xs)) (l : kv.length ≤ 1000000 ∧ kv.map (·.1) = kk' ∧ kk'.Nodup) (is : Iss (B.w own) H (kv.map (·.2)) ys) : Ctx B own (upd H a (.dK kv)) σ (ρ.set i (.od kk' ys)) := by
  have nk : ¬ (B.w own).ok a := fun k => k.2 (.inr ⟨i, h⟩)
  have na := (c.ok.h a (.inr ⟨i, h⟩)).2
  have h0 := (c.o i a h).1
  have hl : i < ρ.length := (List.getElem?_eq_some_iff.mp r).1
  obtain ⟨a', vs', g1, g2, g3, g4, g5⟩ := c.e.od i kk xs r
  rw [h] at g1; cases g1
  refine ⟨c.s0, c.k.own h0 na, ⟨?_, fun b hb => ?_⟩, ⟨?_, fun j x e => ?_, fun j zs e => ?_, fun j ks zs e => ?_, fun j A C ns zs e => ?_, c.e.hd⟩, c.o, c.inj⟩
  · have s := c.ok.s
    have kk := c.k
    show StoW B.st _
    have s : StoW B.st H := s
    cases e : B.st with
    | none => trivial
    | some st =>
      rw [e] at s kk
      have n1 : a ≠ st := fun z => na (by show B.st = _; rw [e, z])
      have s0 := c.s0
      rw [e] at s0
      obtain ⟨cl, ns, q1, q2, q3, q4, q5, w1, w2, w3⟩ := s0
      obtain ⟨r', hr⟩ := Keep.h kk _ _ w1
      exact Sto.own s hr n1 fun z => by rw [z, w2] at h0; cases h0
  · obtain ⟨⟨o, ho⟩, n⟩ := c.ok.h b hb
    by_cases e : b = a
    · rw [e]; exact ⟨⟨_, upd_same⟩, na⟩
    · exact ⟨⟨o, by rw [upd_ne e]; exact ho⟩, n⟩
  · rw [List.length_set]; exact c.e.len
  · rcases get_set e with ⟨rfl, l, z⟩ | ⟨n, z⟩
    · cases z
    · obtain ⟨u, h1, h2⟩ := c.e.dt j x z
      exact ⟨u, h1, h2.off nk⟩
  · rcases get_set e with ⟨rfl, l2, z⟩ | ⟨n, z⟩
    · cases z
    · obtain ⟨b, us, h1, h2, h3, h4, h5⟩ := c.e.ow j zs z
      have nb : b ≠ a := fun e => n (c.inj j i a (by rw [← e]; exact h1) h)
      exact ⟨b, us, h1, h2, by rw [upd_ne nb]; exact h3, h4, h5.off nk⟩
  · rcases get_set e with ⟨rfl, l2, z⟩ | ⟨n, z⟩
    · cases z
      exact ⟨a, kv, h, g2, upd_same, l, is.off nk⟩
    · obtain ⟨b, us, h1, h2, h3, h4, h5⟩ := c.e.od j ks zs z
      have nb : b ≠ a := fun e => n (c.inj j i a (by rw [← e]; exact h1) h)
      exact ⟨b, us, h1, h2, by rw [upd_ne nb]; exact h3, h4, h5.off nk⟩
  · rcases get_set e with ⟨rfl, l2, z⟩ | ⟨n, z⟩
    · cases z
    · obtain ⟨b, us, h1, h2, ⟨dx, h3⟩, h4, h5⟩ := c.e.oi j A C ns zs z
      have nb : b ≠ a := fun e => n (c.inj j i a (by rw [← e]; exact h1) h)
      exact ⟨b, us, h1, h2, ⟨dx, by rw [upd_ne nb]; exact h3⟩, h4, h5.off nk⟩
/-- an instance of one's own changes -/
theorem Ctx.updI (c : Ctx B own H σ ρ) (i : Nat) {a : Addr} {A C dx : Addr} {kv : List (Str × V)} {kk kk' : List Str} {xs ys : List DV} (h : own i = some a) (r : ρ[i]? = some (.oi A C kk xs)) (l : kv.length ≤ 500 ∧ kv.map (·.1) = kk' ∧ kk'.Nodup ∧ a = A) (is : Iss (B.w own) H (kv.map (·.2)) ys) : Ctx B own (upd H a (.ins C dx kv)) σ (ρ.set i (.oi A C kk' ys)) := by
  have nk : ¬ (B.w own).ok a := fun k => k.2 (.inr ⟨i, h⟩)
  have na := (c.ok.h a (.inr ⟨i, h⟩)).2
  have h0 := (c.o i a h).1
  have hl : i < ρ.length := (List.getElem?_eq_some_iff.mp r).1
  obtain ⟨a', vs', g1, g2, g3, g4, g5⟩ := c.e.oi i A C kk xs r
  rw [h] at g1; cases g1
  refine ⟨c.s0, c.k.own h0 na, ⟨?_, fun b hb => ?_⟩, ⟨?_, fun j x e => ?_, fun j zs e => ?_, fun j ks zs e => ?_, fun j A' C' ns zs e => ?_, c.e.hd⟩, c.o, c.inj⟩
  · have s := c.ok.s
    have kk := c.k
    show StoW B.st _
    have s : StoW B.st H := s
    cases e : B.st with
    | none => trivial
    | some st =>
      rw [e] at s kk
      have n1 : a ≠ st := fun z => na (by show B.st = _; rw [e, z])
      have s0 := c.s0
      rw [e] at s0
      obtain ⟨cl, ns, q1, q2, q3, q4, q5, w1, w2, w3⟩ := s0
      obtain ⟨r', hr⟩ := Keep.h kk _ _ w1
      exact Sto.own s hr n1 fun z => by rw [z, w2] at h0; cases h0
  · obtain ⟨⟨o, ho⟩, n⟩ := c.ok.h b hb
    by_cases e : b = a
    · rw [e]; exact ⟨⟨_, upd_same⟩, na⟩
    · exact ⟨⟨o, by rw [upd_ne e]; exact ho⟩, n⟩
  · rw [List.length_set]; exact c.e.len
  · rcases get_set e with ⟨rfl, l, z⟩ | ⟨n, z⟩
    · cases z
    · obtain ⟨u, h1, h2⟩ := c.e.dt j x z
      exact ⟨u, h1, h2.off nk⟩
  · rcases get_set e with ⟨rfl, l2, z⟩ | ⟨n, z⟩
    · cases z
    · obtain ⟨b, us, h1, h2, h3, h4, h5⟩ := c.e.ow j zs z
      have nb : b ≠ a := fun e => n (c.inj j i a (by rw [← e]; exact h1) h)
      exact ⟨b, us, h1, h2, by rw [upd_ne nb]; exact h3, h4, h5.off nk⟩
  · rcases get_set e with ⟨rfl, l2, z⟩ | ⟨n, z⟩
    · cases z
    · obtain ⟨b, us, h1, h2, h3, h4, h5⟩ := c.e.od j ks zs z
      have nb : b ≠ a := fun e => n (c.inj j i a (by rw [← e]; exact h1) h)
      exact ⟨b, us, h1, h2, by rw [upd_ne nb]; exact h3, h4, h5.off nk⟩
  · rcases get_set e with ⟨rfl, l2, z⟩ | ⟨n, z⟩
    · cases z
      exact ⟨a, kv, h, g2, ⟨dx, upd_same⟩, l, is.off nk⟩
    · obtain ⟨b, us, h1, h2, ⟨dx, h3⟩, h4, h5⟩ := c.e.oi j A' C' ns zs z
      have nb : b ≠ a := fun e => n (c.inj j i a (by rw [← e]; exact h1) h)
      exact ⟨b, us, h1, h2, ⟨dx, by rw [upd_ne nb]; exact h3⟩, h4, h5.off nk⟩
end
end DL
namespace DL
open PySem PySem.Spec PyProof.Rows L2 NW
def frz1 : Sl → Sl
  | .ow xs => .dt (.lst xs)
  | .od ks xs => .dt (.dic ks xs)
  | .oi _ C ns xs => .dt (.obj C ns xs)
  | s => s
def frzE (ρ : Env) : Env := ρ.map frz1
section
variable {Ex : L2.WX}
variable {B : Bs} {own : Nat → Option Addr} {H H' : Hp} {σ : L2.St} {ρ : Env}
theorem Ctx.frz (c : Ctx B own H σ ρ) : IsE B.w0 (fun _ => none) H σ (frzE ρ) := by
  refine ⟨?_, fun i d e => ?_, fun i xs e => ?_, fun i ks xs e => ?_, fun i A C ns xs e => ?_, fun _ _ z => nomatch z⟩
  · unfold frzE; rw [List.length_map]; exact c.e.len
  · unfold frzE at e
    rw [List.getElem?_map] at e
    cases z : ρ[i]? with
    | none => rw [z] at e; cases e
    | some s =>
      rw [z] at e
      have e : frz1 s = .dt d := Option.some.inj e
      cases s with
      | un => cases e
      | dt d' =>
        cases e
        obtain ⟨v, h1, h2⟩ := c.e.dt i d z
        exact ⟨v, h1, h2.w0⟩
      | ow xs =>
        cases e
        obtain ⟨a, vs, h1, h2, h3, h4, h5⟩ := c.e.ow i xs z
        exact ⟨_, h2, .lst h3 ⟨(c.ok.h a (.inr ⟨i, h1⟩)).2, (c.o i a h1).2⟩ h4 h5.w0⟩
      | od ks xs =>
        cases e
        obtain ⟨a, kvs, h1, h2, h3, h4, h5⟩ := c.e.od i ks xs z
        exact ⟨_, h2, .dic (.inl h3) ⟨(c.ok.h a (.inr ⟨i, h1⟩)).2, (c.o i a h1).2⟩ h4.1 h4.2.1 h4.2.2 h5.w0⟩
      | oi A C ns xs =>
        cases e
        obtain ⟨a, fs, h1, h2, ⟨dx, h3⟩, h4, h5⟩ := c.e.oi i A C ns xs z
        exact ⟨_, h2, .obj h3 ⟨(c.ok.h a (.inr ⟨i, h1⟩)).2, (c.o i a h1).2⟩ h4.2.1 h5.w0⟩
  · unfold frzE at e
    rw [List.getElem?_map] at e
    cases z : ρ[i]? with
    | none => rw [z] at e; cases e
    | some s =>
      rw [z] at e
      cases s <;> cases (Option.some.inj e)
  · unfold frzE at e
    rw [List.getElem?_map] at e
    cases z : ρ[i]? with
    | none => rw [z] at e; cases e
    | some s =>
      rw [z] at e
      cases s <;> cases (Option.some.inj e)
  · unfold frzE at e
    rw [List.getElem?_map] at e
    cases z : ρ[i]? with
    | none => rw [z] at e; cases e
    | some s =>
      rw [z] at e
      cases s <;> cases (Option.some.inj e)
theorem w_none : B.w (fun _ => none) = B.w0 := by
  unfold Bs.w Bs.w0
  have e : (fun a => B.hid a ∨ ∃ i : Nat, (none : Option Addr) = some a) = B.hid := by
    funext a
    exact propext ⟨fun h => h.elim (fun z => z) (fun ⟨_, z⟩ => nomatch z), fun h => Or.inl h⟩
  rw [e]
theorem Ctx.frzC (c : Ctx B own H σ ρ) : Ctx B (fun _ => none) H σ (frzE ρ) :=
  ⟨c.s0, c.k, by rw [w_none]; exact c.ok0, by rw [w_none]; exact c.frz, (fun _ _ z => nomatch z), (fun _ _ _ z => nomatch z)⟩
end
/-- all that stands is taken for the def's base, its own lists left out -/
noncomputable def Bs.base (B : Bs) (own : Nat → Option Addr) (H : Hp) : Bs := { B with H0 := fun b => @ite _ (∃ i, own i = some b) (Classical.propDecidable _) none (H b) }
section
variable {Ex : L2.WX}
variable {B : Bs} {own own' : Nat → Option Addr} {H H' : Hp} {σ σ' : L2.St} {ρ ρ' : Env} {E : WEnds} {D : Ends}
theorem base_get {a : Addr} {o : HO} (h : (B.w own).ok a) (e : H a = some o) : (B.base own H).H0 a = some o := by
  show @ite _ (∃ i, own i = some a) (Classical.propDecidable _) none (H a) = _
  rw [if_neg fun z => h.2 (.inr z)]; exact e
theorem Ctx.base_of (c : Ctx B own H σ ρ) {b : Addr} {o : HO} (e : B.H0 b = some o) (n : B.st ≠ some b) : (B.base own H).H0 b = some o := by
  show @ite _ (∃ i, own i = some b) (Classical.propDecidable _) none (H b) = _
  rw [if_neg fun ⟨i, z⟩ => by rw [(c.o i b z).1] at e; cases e]
  exact c.k.o e n
theorem Ctx.base (c : Ctx B own H σ ρ) : Ctx (B.base own H) own H σ ρ := by
  have sub : ∀ b o, (B.base own H).H0 b = some o → H b = some o := fun b o e => by
    have e : @ite _ (∃ i, own i = some b) (Classical.propDecidable _) none (H b) = some o := e
    split at e
    · cases e
    · exact e
  refine ⟨?_, Kp.same sub, c.ok, c.e, fun i a z => ⟨if_pos ⟨i, z⟩, (c.o i a z).2⟩, c.inj⟩
  have s0 := c.s0
  have kk := c.k
  have so := c.ok.s
  have no : ∀ i a, own i = some a → B.st ≠ some a := fun i a z => (c.ok.h a (.inr ⟨i, z⟩)).2
  show StoW B.st (B.base own H).H0
  have so : StoW B.st H := so
  cases e : B.st with
  | none => trivial
  | some st =>
    rw [e] at s0 so kk
    obtain ⟨cl, ns, q1, q2, q3, q4, q5, w1, w2, w3⟩ := so
    obtain ⟨cl0, ns0, p1, p2, p3, p4, p5, v1, v2, v3⟩ := s0
    obtain ⟨r', hr⟩ := Keep.h kk _ _ v1
    rw [w1] at hr
    have ecl : cl = cl0 := by
      injection hr with hr
      injection hr with hr
      injection hr with hr
      injection hr
    refine ⟨cl, ns, q1, q2, q3, q4, q5, ?_, ?_, w3⟩
    · show @ite _ (∃ i, own i = some st) (Classical.propDecidable _) none (H st) = _
      rw [if_neg fun ⟨i, z⟩ => no i st z e]; exact w1
    · show @ite _ (∃ i, own i = some cl) (Classical.propDecidable _) none (H cl) = _
      rw [if_neg fun ⟨i, z⟩ => by rw [ecl] at z; rw [(c.o i _ z).1] at v2; cases v2]; exact w2
theorem Ctx.kp_base (c : Ctx B own H σ ρ) (k : Kp B.st (B.base own H).H0 H') : Kp B.st B.H0 H' := by
  have s0 := c.s0
  have b0 := fun b o e n => c.base_of (b := b) (o := o) e n
  have ck := c.k
  have no : ∀ i a, own i = some a → B.st ≠ some a := fun i a z => (c.ok.h a (.inr ⟨i, z⟩)).2
  cases e : B.st with
  | none =>
    rw [e] at k b0
    exact fun b o z => k b o (b0 b o z (fun w => nomatch w))
  | some st =>
    rw [e] at k b0 ck
    refine ⟨fun b o z n => Keep.o k b o (b0 b o z fun w => n (Option.some.inj w).symm) n, fun v r z => ?_⟩
    obtain ⟨r1, h1⟩ := Keep.h ck v r z
    refine Keep.h k v r1 ?_
    show @ite _ (∃ i, own i = some st) (Classical.propDecidable _) none (H st) = _
    rw [if_neg fun ⟨i, w⟩ => no i st w e]; exact h1
theorem Ctx.of_base (c : Ctx B own H σ ρ) (c2 : Ctx (B.base own H) own' H' σ' ρ') : Ctx B own' H' σ' ρ' := by
  refine ⟨c.s0, c.kp_base c2.k, c2.ok, c2.e, fun i a z => ⟨?_, (c2.o i a z).2⟩, c2.inj⟩
  cases e : B.H0 a with
  | none => rfl
  | some o =>
    have n : B.st ≠ some a := (c2.ok.h a (.inr ⟨i, z⟩)).2
    have g := c.base_of e n
    rw [(c2.o i a z).1] at g
    cases g
theorem Dl.base (d : Dl B E D Ex) (c : Ctx B own H σ ρ) : Dl (B.base own H) E D Ex :=
  ⟨fun o r s h z cc => d.nx o r s h z (c.of_base cc), fun o r s h z cc => d.bk o r s h z (c.of_base cc), fun o r s h z cc => d.ct o r s h z (c.of_base cc), fun x v h z k o i => d.rt x v h z (c.kp_base k) o i, fun o r s h cc ns xs dd fs z c2 g1 g2 g3 g4 => d.xc o r s h cc ns xs dd fs z (c.of_base c2) g1 g2 g3 g4⟩
end
section
variable {Ex : L2.WX}
variable {X : Cx} {e a b c : Expr} {w wa wb : WE} {s s' : WS} {t : WT} {pos : Pos} {st : Stmt} {rest bs cs : List Stmt}
theorem ps_weak {t t' : TS} (h : PS X st t) (w : ∀ D σ H, t' D σ H → t D σ H) : PS X st t' := ⟨fun pins s σ H D I q => h.run pins s σ H D I (w D σ H q)⟩
theorem pss_weak {t t' : TS} (h : PSs X bs t) (w : ∀ D σ H, t' D σ H → t D σ H) : PSs X bs t' := ⟨fun pins s σ H D I q => h.run pins s σ H D I (w D σ H q)⟩
def wSeq (s s' : WS) : WS := fun E ρ => s { E with nx := fun ρ' => s' E ρ' } ρ
def wCut (s s' : WS) : WS := fun E ρ => ∃ M : Env → Prop, s { E with nx := M } ρ ∧ ∀ ρ', M ρ' → s' E ρ'
def wNx : WS := fun E ρ => E.nx ρ
theorem dss0 : PSs X [] (liftS Ex wNx) := pss_weak pss_nil fun D σ H q => by
  obtain ⟨B, own, ρ, E, c, h, d⟩ := q
  exact d.nx _ _ _ _ h c
theorem dss1 (h : PS X st (liftS Ex s)) : PSs X [st] (liftS Ex s) := pss_one h
theorem dss (h : PS X st (liftS Ex s)) (h2 : PSs X rest (liftS Ex s')) : PSs X (st :: rest) (liftS Ex (wSeq s s')) := pss_weak (pss_cons h h2) fun D σ H q => by
  obtain ⟨B, own, ρ, E, c, h, d⟩ := q
  exact ⟨B, own, ρ, _, c, h, ⟨fun own' ρ' σ' H' z c' => ⟨B, own', ρ', E, c', z, d⟩, d.bk, d.ct, d.rt, d.xc⟩⟩
theorem dsc (h : PS X st (liftS Ex s)) (h2 : PSs X rest (liftS Ex s')) : PSs X (st :: rest) (liftS Ex (wCut s s')) := pss_weak (pss_cons h h2) fun D σ H q => by
  obtain ⟨B, own, ρ, E, c, ⟨M, h, hM⟩, d⟩ := q
  exact ⟨B, own, ρ, _, c, h, ⟨fun own' ρ' σ' H' z c' => ⟨B, own', ρ', E, c', hM _ z, d⟩, d.bk, d.ct, d.rt, d.xc⟩⟩
/-- all lists of one's own are let go ahead of it -/
def wFz (s : WS) : WS := fun E ρ => s E (frzE ρ)
theorem dfz (h : PSs X bs (liftS Ex s)) : PSs X bs (liftS Ex (wFz s)) := pss_weak h fun D σ H q => by
  obtain ⟨B, own, ρ, E, c, h, d⟩ := q
  exact ⟨B, _, _, E, c.frzC, h, d⟩
def wAsg (i : Nat) (w : WE) : WS := fun E ρ => w ρ fun d => E.nx (ρ.set i (.dt d))
theorem asg_tr (i : Nat) {D : Ends} {σ : L2.St} {H : Hp} (q : liftS Ex (wAsg i w) D σ H) : tAsg (lift w) (gName i) D σ H := by
  obtain ⟨B, own, ρ, E, c, h, d⟩ := q
  exact ⟨B.w own, own, ρ, _, c.ok, c.e, h, fun x v H1 r k o i1 => d.nx _ _ _ _ r ((c.mono k o).set i i1)⟩
theorem dasg (i : Nat) (h : ∀ te, PE X e te → PS X st (tAsg te (gName i))) (he : PE X e (lift w)) : PS X st (liftS Ex (wAsg i w)) := ps_weak (h _ he) fun _ _ _ => asg_tr i
def wAsgO (i : Nat) (w : WF) : WS := fun E ρ => w ρ fun xs => E.nx (ρ.set i (.ow xs))
theorem asgO_tr {w : WF} (i : Nat) {D : Ends} {σ : L2.St} {H : Hp} (q : liftS Ex (wAsgO i w) D σ H) : tAsg (liftF w) (gName i) D σ H := by
  obtain ⟨B, own, ρ, E, c, h, d⟩ := q
  exact ⟨B.w own, own, ρ, _, c.ok, c.e, h, fun xs vs q H1 r k o i1 l hq => d.nx _ _ _ _ r ((c.mono k o).setO i hq l i1)⟩
theorem dasgO {w : WF} (i : Nat) (h : ∀ te, PE X e te → PS X st (tAsg te (gName i))) (he : PE X e (liftF w)) : PS X st (liftS Ex (wAsgO i w)) := ps_weak (h _ he) fun _ _ _ => asgO_tr i
def wDrop (w : WE) : WS := fun E ρ => w ρ fun _ => E.nx ρ
def wRet (w : WE) : WS := fun E ρ => w (frzE ρ) E.rt
theorem dret (he : PE X e (lift w)) : PS X (.Return (some e) pos) (liftS Ex (wRet w)) := ps_weak (ps_ret he) fun D σ H q => by
  obtain ⟨B, own, ρ, E, c, h, d⟩ := q
  exact ⟨B.w0, _, _, _, c.ok0, c.frz, h, fun x v H1 r k o i1 => d.rt x v H1 r (c.k.trans k) o i1⟩
def wIfS (t : WT) (s s' : WS) : WS := fun E ρ => t ρ fun k => if k = true then s E ρ else s' E ρ
theorem difS (ht : PT X e (liftT t)) (ha : PSs X bs (liftS Ex s)) (hb : PSs X cs (liftS Ex s')) : PS X (.If e bs cs pos) (liftS Ex (wIfS t s s')) := ps_weak (ps_if ht ha hb) fun D σ H q => by
  obtain ⟨B, own, ρ, E, c, h, d⟩ := q
  refine ⟨B.w own, own, ρ, _, c.ok, c.e, h, fun k H1 r kk o => ?_⟩
  cases k with
  | true => exact ⟨B, own, ρ, E, c.mono kk o, r, d⟩
  | false => exact ⟨B, own, ρ, E, c.mono kk o, r, d⟩
def wPass : WS := fun E ρ => E.nx ρ
def wBk : WS := fun E ρ => E.bk ρ
def wCt : WS := fun E ρ => E.ct ρ
/-- x op= e -/
def wAug (i : Nat) (d : D2) (w : WE) : WS := fun E ρ => atV (fun x => w ρ fun y => d x y fun z => E.nx (ρ.set i (.dt z))) ρ[i]?
/-- x.append(e) of a list of one's own -/
def atO (R : List DV → Prop) : Option Sl → Prop
  | some (.ow xs) => R xs
  | _ => False
theorem atO_ex {R : List DV → Prop} {o : Option Sl} (h : atO R o) : ∃ xs, o = some (.ow xs) ∧ R xs := by
  unfold atO at h
  split at h
  · exact ⟨_, rfl, h⟩
  · exact h.elim
def wApp (i : Nat) (w : WE) : WS := fun E ρ => atO (fun xs => w ρ fun d => xs.length < 1000000 ∧ E.nx (ρ.set i (.ow (xs ++ [d])))) ρ[i]?
theorem app_tr {K : PySem.W.Frag} (i : Nat) {D : Ends} {σ : L2.St} {H : Hp} (q : liftS Ex (wApp i w) D σ H) : tDrop (tBM K "list" rAppend (tVar i) (tCons (lift w) tNil)) D σ H := by
  obtain ⟨B, own, ρ, E, c, hx, d⟩ := q
  obtain ⟨xs, hx, h1⟩ := atO_ex hx
  obtain ⟨a, vs, g1, g2, g3, g4, g5⟩ := c.e.ow i xs hx
  refine ⟨_, g2, .inl ⟨rfl, vs, SqL.of g3⟩, B.w own, own, ρ, _, c.ok, c.e, h1, fun y u H1 r1 k1 o1 i1 => ?_⟩
  have g3' := k1.o g3 (c.ok.h a (.inr ⟨i, g1⟩)).2
  have l : vs.length < 1000000 := by rw [g5.len]; exact r1.1
  refine ⟨a, vs, u, rfl, rfl, g3', lt_line l, d.nx _ _ _ _ r1.2 ((c.mono k1 o1).updO i g1 hx ?_ ((g5.mono k1).app (.cons i1 .nil)))⟩
  rw [List.length_append]; exact l
theorem dapp {K : PySem.W.Frag} (i : Nat) (h : ∀ te, PE X e te → PS X st (tDrop (tBM K "list" rAppend (tVar i) (tCons te tNil)))) (he : PE X e (lift w)) : PS X st (liftS Ex (wApp i w)) := ps_weak (h _ he) fun _ _ _ => app_tr i
/-- x.append(y.pop(e)), both lists of one's own -/
def wAppPop (i j : Nat) (w : WE) : WS := fun E ρ => atO (fun xs => atO (fun ys => w ρ fun d => i ≠ j ∧ xs.length < 1000000 ∧ ∃ k : Nat, d = .int k ∧ ∃ y, ys[k]? = some y ∧ E.nx ((ρ.set j (.ow (ys.eraseIdx k))).set i (.ow (xs ++ [y])))) ρ[j]?) ρ[i]?
theorem appPop_tr {K : PySem.W.Frag} (i j : Nat) {D : Ends} {σ : L2.St} {H : Hp} (q : liftS Ex (wAppPop i j w) D σ H) : tDrop (tBM K "list" rAppend (tVar i) (tCons (tBM K "list" rPopAt (tVar j) (tCons (lift w) tNil)) tNil)) D σ H := by
  obtain ⟨B, own, ρ, E, c, hx, d⟩ := q
  obtain ⟨xs, hx, h1⟩ := atO_ex hx
  obtain ⟨ys, hy, h1⟩ := atO_ex h1
  obtain ⟨a, vs, g1, g2, g3, g4, g5⟩ := c.e.ow i xs hx
  obtain ⟨b, us, f1, f2, f3, f4, f5⟩ := c.e.ow j ys hy
  refine ⟨_, g2, .inl ⟨rfl, vs, SqL.of g3⟩, _, f2, .inl ⟨rfl, us, SqL.of f3⟩, B.w own, own, ρ, _, c.ok, c.e, h1, fun y u H1 r1 k1 o1 i1 => ?_⟩
  obtain ⟨nij, lx, k, rfl, y, hk, r1⟩ := r1
  cases i1
  have f3' := k1.o f3 (c.ok.h b (.inr ⟨j, f1⟩)).2
  have g3' := k1.o g3 (c.ok.h a (.inr ⟨i, g1⟩)).2
  have fi := f5.mono k1
  have gi := g5.mono k1
  obtain ⟨v, hv, iv⟩ := fi.get hk
  have hkl : k < us.length := (List.getElem?_eq_some_iff.mp hv).1
  have ab : a ≠ b := fun e => nij (c.inj i j a g1 (by rw [e]; exact f1))
  have nkb : ¬ (B.w own).ok b := fun k => k.2 (.inr ⟨j, f1⟩)
  refine pop_l f3' rfl hkl f4 fun y' e => ?_
  rw [hv] at e; cases e
  have c1 := (c.mono k1 o1).updO j f1 hy (vs := us.eraseIdx k) (by rw [List.length_eraseIdx]; split <;> omega) (fi.erase k)
  have hx' : (ρ.set j (.ow (ys.eraseIdx k)))[i]? = some (.ow xs) := by rw [List.getElem?_set_ne (Ne.symm nij)]; exact hx
  have g3'' : upd H1 b (.lst (us.eraseIdx k)) a = some (.lst vs) := by rw [upd_ne ab]; exact g3'
  have l : vs.length < 1000000 := by rw [g5.len]; exact lx
  refine ⟨a, vs, v, rfl, rfl, g3'', lt_line l, d.nx _ _ _ _ r1 (c1.updO i g1 hx' ?_ ((gi.off nkb).app (.cons (iv.off nkb) .nil)))⟩
  rw [List.length_append]; exact l
theorem dappPop {K : PySem.W.Frag} (i j : Nat) (h : ∀ te, PE X e te → PS X st (tDrop (tBM K "list" rAppend (tVar i) (tCons (tBM K "list" rPopAt (tVar j) (tCons te tNil)) tNil)))) (he : PE X e (lift w)) : PS X st (liftS Ex (wAppPop i j w)) := ps_weak (h _ he) fun _ _ _ => appPop_tr i j
abbrev WG := DV → Env → (Env → Prop) → Prop
def gN (i : Nat) : WG := fun d ρ K => K (ρ.set i (.dt d))
/-- the target's reading serves the data's -/
def Tg (g : TG) (gg : WG) : Prop := ∀ (B : Bs) (own : Nat → Option Addr) (H : Hp) (σ : L2.St) (ρ : Env) (v : V) (d : DV) (K : Env → Prop) (Q : L2.St → Hp → Prop), Ctx B own H σ ρ → Is (B.w own) H v d → gg d ρ K → (∀ own' ρ' σ', K ρ' → Ctx B own' H σ' ρ' → Q σ' H) → g v σ H Q
theorem tgN (i : Nat) : Tg (gName i) (gN i) := fun B own H σ ρ v d K Q c h k q => q _ _ _ k (c.set i h)
def forL (g : WG) (s : WS) (E : WEnds) : List DV → Env → Prop
  | [], ρ => E.nx ρ
  | x :: xs, ρ => g x ρ fun ρ' => s { E with nx := forL g s E xs, ct := forL g s E xs, bk := E.nx } ρ'
end
end DL
namespace DL
open PySem PySem.Spec PyProof.Rows L2 NW
/-- the iterator gives xs, one by one, whatever else happens over the heap Hb -/
structure Wks (J : It) (W : Wd) (Hb : Hp) (xs : List DV) : Prop where
  go : ∀ n H', Kp W.st Hb H' → n < xs.length → J.go n H'
  stop : ∀ n H', Kp W.st Hb H' → n = xs.length → J.stop n H'
  yl : ∀ n H' v H2, Kp W.st Hb H' → J.yld n H' v H2 → n < xs.length → Same H' H2 ∧ ∃ x, xs[n]? = some x ∧ ∀ W2 : Wd, W2.st = W.st → W2.Ok H' → (∀ b o, W.ok b → Hb b = some o → W2.ok b) → Is W2 H2 v x
/-- the iterator makes nothing new -/
theorem Wks.old {J : It} {W : Wd} {Hb : Hp} {xs : List DV} (go : ∀ n H', Kp W.st Hb H' → n < xs.length → J.go n H') (stop : ∀ n H', Kp W.st Hb H' → n = xs.length → J.stop n H')
    (yl : ∀ n H' v H2, Kp W.st Hb H' → J.yld n H' v H2 → n < xs.length → H2 = H' ∧ ∃ x, xs[n]? = some x ∧ Is W Hb v x) : Wks J W Hb xs := ⟨go, stop, fun n H' v H2 k y l => by
  obtain ⟨rfl, x, hx, ix⟩ := yl n H' v H2 k y l
  exact ⟨fun _ _ z => z, x, hx, fun W2 e o h => ix.tr e fun b o' k' z => ⟨h b o' k' z, k.o z k'.1⟩⟩⟩
abbrev WI := Env → (List DV → Prop) → Prop
def Thr (W : Wd) (H Hb : Hp) : Prop := ∀ b o, W.ok b → H b = some o → Hb b = some o
def liftI (w : WI) : TI := fun σ H R => ∃ W own ρ Rd, W.Ok H ∧ IsE W own H σ ρ ∧ w ρ Rd ∧ ∀ J xs H1, Rd xs → Kp W.st H H1 → W.Ok H1 → (∀ Hb, Thr W H1 Hb → Wks J W Hb xs) → R J H1
section
variable {Ex : L2.WX}
variable {W : Wd} {H Hb : Hp} {K : PySem.W.Frag}
theorem wks_list {a : Addr} {vs : List V} {xs : List DV} (h1 : H a = some (.lst vs)) (h2 : W.ok a) (h4 : Iss W H vs xs) (t : Thr W H Hb) : Wks (Itl K a) W Hb xs := by
  have hb := t a _ h2 h1
  have i2 : Iss W Hb vs xs := h4.tr rfl fun b o k z => ⟨k, t b o k z⟩
  refine Wks.old (fun n H' k l => ?_) (fun n H' k l => ?_) (fun n H' v H2 k y l => ?_)
  · rw [← i2.len] at l
    exact ⟨vs, vs[n], SqL.of (k.o hb h2.1), List.getElem?_eq_getElem l⟩
  · exact ⟨vs, SqL.of (k.o hb h2.1), by rw [i2.len, l]; exact Nat.le_refl _⟩
  · obtain ⟨e, z⟩ := y
    have zz := z vs (SqL.of (k.o hb h2.1))
    obtain ⟨x, hx, ix⟩ := i2.get' zz
    exact ⟨e, x, hx, ix⟩
theorem wks_tup {a : Addr} {vs : List V} {xs : List DV} (h1 : H a = some (.tup vs)) (h2 : W.ok a) (h4 : Iss W H vs xs) (t : Thr W H Hb) : Wks (Itt K a) W Hb xs := by
  have hb := t a _ h2 h1
  have i2 : Iss W Hb vs xs := h4.tr rfl fun b o k z => ⟨k, t b o k z⟩
  refine Wks.old (fun n H' k l => ?_) (fun n H' k l => ?_) (fun n H' v H2 k y l => ?_)
  · rw [← i2.len] at l
    exact ⟨vs, vs[n], SqT.of (k.o hb h2.1), List.getElem?_eq_getElem l⟩
  · exact ⟨vs, SqT.of (k.o hb h2.1), by rw [i2.len, l]; exact Nat.le_refl _⟩
  · obtain ⟨e, z⟩ := y
    have zz := z vs (SqT.of (k.o hb h2.1))
    obtain ⟨x, hx, ix⟩ := i2.get' zz
    exact ⟨e, x, hx, ix⟩
/-- lo, lo + 1, .. -/
def intL (lo : Int) (n : Nat) : List DV := (List.range n).map fun k => .int (lo + (k : Nat))
theorem intL_len (lo : Int) (n : Nat) : (intL lo n).length = n := by unfold intL; rw [List.length_map, List.length_range]
theorem wks_rng {lo : Int} {n : Nat} : Wks (Itr lo n) W Hb (intL lo n) := by
  refine Wks.old (fun k H' _ l => by rw [intL_len] at l; exact l) (fun k H' _ l => by rw [l, intL_len]; exact Nat.le_refl _) (fun k H' v H2 _ y l => ?_)
  obtain ⟨e, z⟩ := y
  subst z
  rw [intL_len] at l
  refine ⟨e, .int (lo + k), ?_, .int _⟩
  unfold intL
  rw [List.getElem?_map, List.getElem?_range l]
  rfl
def signs (s : Str) : List DV := s.cps.toList.map fun c => .str ⟨#[c]⟩
end
section
variable {Ex : L2.WX}
variable {X : Cx} {e a b c tg : Expr} {w : WE} {pos : Pos}
theorem pi_weak {t t' : TI} (h : PI X tg e t) (w : ∀ σ H Q, t' σ H Q → t σ H Q) : PI X tg e t' := ⟨fun pins s σ H Q I q => h.run pins s σ H Q I (w σ H Q q)⟩
def iL (w : WE) : WI := fun ρ R => w ρ fun d => ∃ xs, d = .lst xs ∧ R xs
theorem diL (h : PE X e (lift w)) : PI X tg e (liftI (iL w)) := pi_weak (pi_list h) fun σ H R q => by
  obtain ⟨W, own, ρ, Rd, o, i, z, f⟩ := q
  refine ⟨W, own, ρ, _, o, i, z, fun d v H1 r k o1 i1 => ?_⟩
  obtain ⟨xs, rfl, r⟩ := r
  cases i1 with
  | @lst p vs _ h1 h2 h3 h4 => exact ⟨p, rfl, ⟨vs, SqL.of h1⟩, f _ _ _ r k o1 fun Hb t => wks_list h1 h2 h4 t⟩
def iT (w : WE) : WI := fun ρ R => w ρ fun d => ∃ xs, d = .tup xs ∧ R xs
/-- a name that holds a list or a tuple -/
def iV (i : Nat) : WI := fun ρ R => atV (fun d => ∃ xs, (d = .lst xs ∨ d = .tup xs) ∧ R xs) ρ[i]?
def iS (w : WE) : WI := fun ρ R => w ρ fun d => ∃ s, d = .str s ∧ R (signs s)
variable {r : WA}
def iR1 (r : WA) : WI := fun ρ R => r ρ fun ds => ∃ j, ds = [.int j] ∧ -(2 ^ 62) ≤ j ∧ j < 2 ^ 62 ∧ R (intL 0 j.toNat)
theorem diR1 (hp : ∀ ta, PA X [a] ta → PI X tg e (iRng1 ta)) (h : PA X [a] (liftA r)) : PI X tg e (liftI (iR1 r)) := pi_weak (hp _ h) fun σ H R q => by
  obtain ⟨W, own, ρ, Rd, o, i, z, f⟩ := q
  refine ⟨W, own, ρ, _, o, i, z, fun ds vs H1 r k o1 i1 => ?_⟩
  obtain ⟨j, rfl, h1, h2, r⟩ := r
  cases i1 with
  | cons x y =>
    cases x; cases y
    exact ⟨j, rfl, h1, h2, f _ _ _ r k o1 fun Hb t => wks_rng⟩
def iR2 (r : WA) : WI := fun ρ R => r ρ fun ds => ∃ l j, ds = [.int l, .int j] ∧ (-(2 ^ 62) ≤ l ∧ l < 2 ^ 62 ∧ -(2 ^ 62) ≤ j ∧ j < 2 ^ 62) ∧ R (intL l (j - l).toNat)
theorem loop_wks {J : It} {g : TG} {gg : WG} {s : WS} (hg : Tg g gg) {B : Bs} {own : Nat → Option Addr} {ρ : Env} {E : WEnds} {D : Ends} {σ : L2.St} {H : Hp} {xs : List DV} (c : Ctx B own H σ ρ) (hw : Wks J (B.w own) (B.base own H).H0 xs) (hf : forL gg s E xs ρ) (d : Dl B E D Ex) : LoopI J g (liftS Ex s) D σ H := by
  have d' := d.base c
  have c' := c.base
  refine ⟨fun n m σ' H' => m = xs.length - n ∧ n ≤ xs.length ∧ ∃ own' ρ', Ctx (B.base own H) own' H' σ' ρ' ∧ forL gg s E (xs.drop n) ρ', ⟨_, rfl, Nat.zero_le _, own, ρ, c', hf⟩, ?_⟩
  rintro n m σ' H' ⟨rfl, hn, own', ρ', c2, hf⟩
  by_cases hlt : n < xs.length
  · refine .inr ⟨hw.go n H' c2.k hlt, fun σ' H' => ∃ own' ρ', Ctx (B.base own H) own' H' σ' ρ' ∧ forL gg s E (xs.drop (n + 1)) ρ', fun σ' H' z => ⟨xs.length - (n + 1), by omega, rfl, hlt, z⟩, fun x H2 y => ?_⟩
    obtain ⟨sm, y, hy, iy⟩ := hw.yl n H' x H2 c2.k y hlt
    have c3 := c2.mono (Kp.same sm) (c2.ok.same sm)
    rw [List.drop_eq_getElem_cons (List.getElem?_eq_some_iff.mp hy).1, (List.getElem?_eq_some_iff.mp hy).2] at hf
    have iy2 : Is ((B.base own H).w own') H2 x y := iy ((B.base own H).w own') rfl c2.ok fun b o k g => ⟨k.1, fun w => w.elim (fun q => k.2 (.inl q)) fun ⟨j, q⟩ => by rw [(c2.o j b q).1] at g; cases g⟩
    exact hg _ _ _ _ _ _ _ _ _ c3 iy2 hf fun own3 ρ3 σ3 h3 c3 => ⟨_, own3, ρ3, _, c3, h3, ⟨fun o r s h z cc => ⟨o, r, cc, z⟩, fun o r s h z cc => d'.nx o r s h z cc, fun o r s h z cc => ⟨o, r, cc, z⟩, d'.rt, d'.xc⟩⟩
  · have e : n = xs.length := by omega
    subst e
    rw [List.drop_length] at hf
    exact .inl ⟨hw.stop _ H' c2.k rfl, d'.nx _ _ _ _ hf c2⟩
def wFor (w : WI) (g : WG) (s : WS) : WS := fun E ρ => w ρ fun xs => forL g s E xs ρ
theorem for_tr {g : TG} {gg : WG} {s : WS} {wi : WI} (hg : Tg g gg) {D : Ends} {σ : L2.St} {H : Hp} (q : liftS Ex (wFor wi gg s) D σ H) : tFor (liftI wi) g (liftS Ex s) D σ H := by
  obtain ⟨B, own, ρ, E, c, h, d⟩ := q
  refine ⟨B.w own, own, ρ, _, c.ok, c.e, h, fun J xs H1 r k o hw => ?_⟩
  have c1 := c.mono k o
  exact loop_wks hg c1 (hw _ fun b o k z => base_get k z) r d
variable {g : TG} {gg : WG} {s : WS} {wi : WI} {body : List Stmt}
theorem dfor (hp : PassesOwn (model X.prog X.w) X.A X.env X.xe) (hc : X.calm = true) (hi : PI X tg e (liftI wi)) (hg : PG X tg g) (hgg : Tg g gg) (hb : PSs X body (liftS Ex s)) (hs : ∀ x, foldedSetIterable e X.env x = pure x := by intro _; rfl) : PS X (.For tg e body [] pos) (liftS Ex (wFor wi gg s)) := ps_weak (ps_for hp hc hi hg hb hs) fun _ _ _ => for_tr hgg
end
end DL
namespace DL
open PySem PySem.Spec PyProof.Rows L2 NW
def lcL (g : WG) (t : WT) (w : WE) : List DV → Env → List DV → (List DV → Prop) → Prop
  | [], _, acc, R => R acc
  | x :: xs, ρ, acc, R => g x ρ fun ρ' => t ρ' fun k => if k = true then w ρ' fun y => lcL g t w xs ρ (acc ++ [y]) R else lcL g t w xs ρ acc R
def wiL (ρ : Env) : List Nat → Env
  | [] => ρ
  | v :: vs => (wiL ρ vs).set v .un
/-- a comprehension's target: it stores the names vs alone -/
def Tc (g : TG) (gg : WG) (vs : List Nat) : Prop := ∀ (W : Wd) (own : Nat → Option Addr) (H : Hp) (σ : L2.St) (ρ : Env) (v : V) (d : DV) (K : Env → Prop) (Q : L2.St → Hp → Prop), W.Ok H → IsE W own H (wipe σ vs) (wiL ρ vs) → Is W H v d → gg d (wiL ρ vs) K → (∀ ρ' σ', K ρ' → IsE W own H σ' ρ' → wipe σ' vs = wipe σ vs → Q σ' H) → g v (wipe σ vs) H Q
section
variable {W : Wd} {own : Nat → Option Addr} {H H' : Hp} {σ : L2.St} {ρ : Env}
theorem IsE.un (h : IsE W own H σ ρ) (i : Nat) : IsE W own H (σ.set i none) (ρ.set i .un) := by
  refine ⟨?_, fun j x e => ?_, fun j xs e => ?_, fun j ks xs e => ?_, fun j A C ns xs e => ?_, h.hd⟩
  · rw [List.length_set, List.length_set]; exact h.len
  · rcases get_set e with ⟨rfl, l, z⟩ | ⟨n, z⟩
    · cases z
    · obtain ⟨u, h1, h2⟩ := h.dt j x z
      exact ⟨u, by rw [List.getElem?_set_ne (Ne.symm n)]; exact h1, h2⟩
  · rcases get_set e with ⟨rfl, l, z⟩ | ⟨n, z⟩
    · cases z
    · obtain ⟨a, vs, h1, h2, h3⟩ := h.ow j xs z
      exact ⟨a, vs, h1, by rw [List.getElem?_set_ne (Ne.symm n)]; exact h2, h3⟩
  · rcases get_set e with ⟨rfl, l, z⟩ | ⟨n, z⟩
    · cases z
    · obtain ⟨a, vs, h1, h2, h3⟩ := h.od j ks xs z
      exact ⟨a, vs, h1, by rw [List.getElem?_set_ne (Ne.symm n)]; exact h2, h3⟩
  · rcases get_set e with ⟨rfl, l, z⟩ | ⟨n, z⟩
    · cases z
    · obtain ⟨a, vs, h1, h2, h3⟩ := h.oi j A C ns xs z
      exact ⟨a, vs, h1, by rw [List.getElem?_set_ne (Ne.symm n)]; exact h2, h3⟩
theorem IsE.set (h : IsE W own H σ ρ) (i : Nat) {v : V} {d : DV} (x : Is W H v d) : IsE W own H (σ.set i (some v)) (ρ.set i (.dt d)) := by
  refine ⟨?_, fun j x e => ?_, fun j xs e => ?_, fun j ks xs e => ?_, fun j A C ns xs e => ?_, h.hd⟩
  · rw [List.length_set, List.length_set]; exact h.len
  · rcases get_set e with ⟨rfl, l, z⟩ | ⟨n, z⟩
    · cases z
      exact ⟨v, by rw [List.getElem?_set_self (by rw [h.len]; exact l)], x⟩
    · obtain ⟨u, h1, h2⟩ := h.dt j _ z
      exact ⟨u, by rw [List.getElem?_set_ne (Ne.symm n)]; exact h1, h2⟩
  · rcases get_set e with ⟨rfl, l, z⟩ | ⟨n, z⟩
    · cases z
    · obtain ⟨a, vs, h1, h2, h3⟩ := h.ow j xs z
      exact ⟨a, vs, h1, by rw [List.getElem?_set_ne (Ne.symm n)]; exact h2, h3⟩
  · rcases get_set e with ⟨rfl, l, z⟩ | ⟨n, z⟩
    · cases z
    · obtain ⟨a, vs, h1, h2, h3⟩ := h.od j ks xs z
      exact ⟨a, vs, h1, by rw [List.getElem?_set_ne (Ne.symm n)]; exact h2, h3⟩
  · rcases get_set e with ⟨rfl, l, z⟩ | ⟨n, z⟩
    · cases z
    · obtain ⟨a, vs, h1, h2, h3⟩ := h.oi j A C ns xs z
      exact ⟨a, vs, h1, by rw [List.getElem?_set_ne (Ne.symm n)]; exact h2, h3⟩
theorem IsE.wipe : ∀ vs : List Nat, IsE W own H σ ρ → IsE W own H (wipe σ vs) (wiL ρ vs)
  | [], h => h
  | v :: vs, h => (IsE.wipe vs h).un v
theorem tcN (i : Nat) : Tc (gName i) (gN i) [i] := fun W own H σ ρ v d K Q o e h k q => by
  refine q _ _ k (e.set i h) ?_
  show (((σ.set i none).set i (some v)).set i none) = σ.set i none
  rw [List.set_set, List.set_set]
end
noncomputable def mns (H : Hp) (D : Addr) : Hp := fun b => if b = D then none else H b
section
variable {H H1 : Hp} {D b : Addr} {o : HO} {st : Option Addr}
theorem mns_same : mns H D D = none := if_pos rfl
theorem mns_ne (h : b ≠ D) : mns H D b = H b := if_neg h
theorem mns_upd (h : H D = some o) : upd (mns H D) D o = H := by
  funext b
  by_cases e : b = D
  · rw [e, upd_same, h]
  · rw [upd_ne e, mns_ne e]
theorem Kp.mns (k : Kp st H1 H) (h : H1 D = none) (n : st ≠ some D) : Kp st H1 (DL.mns H D) := by
  cases st with
  | none => exact fun b o z => by rw [mns_ne fun e => by rw [e, h] at z; cases z]; exact k b o z
  | some a => exact ⟨fun b o z q => by rw [mns_ne fun e => by rw [e, h] at z; cases z]; exact Keep.o k b o z q, fun v r z => by
      obtain ⟨r', h'⟩ := Keep.h k v r z
      exact ⟨r', by rw [mns_ne fun e => n (by rw [e])]; exact h'⟩⟩
theorem StoW.cl (s0 : StoW st H1) (k : Kp st H1 H) (s : StoW st H) (h : H1 D = none) (a : Addr) (e : st = some a) : ∃ (cl : Addr) (r : List V), H a = some (.lst (.ref cl :: r)) ∧ cl ≠ D ∧ Sto H a := by
  subst e
  obtain ⟨cl, ns, q1, q2, q3, q4, q5, w1, w2, w3⟩ := s0
  obtain ⟨r', hr⟩ := Keep.h k _ _ w1
  exact ⟨cl, r', hr, (fun z => by rw [z, h] at w2; cases w2), s⟩
theorem StoW.own (s0 : StoW st H1) (k : Kp st H1 H) (s : StoW st H) (h : H1 D = none) (n : st ≠ some D) : StoW st (upd H D o) := by
  cases e : st with
  | none => trivial
  | some a =>
    obtain ⟨cl, r, h1, h2, h3⟩ := StoW.cl s0 k s h a e
    exact Sto.own h3 h1 (fun z => n (by rw [e, z])) (Ne.symm h2)
theorem StoW.mns (s0 : StoW st H1) (k : Kp st H1 H) (s : StoW st H) (h : H1 D = none) (n : st ≠ some D) : StoW st (DL.mns H D) := by
  cases e : st with
  | none => trivial
  | some a =>
    obtain ⟨cl, r, h1, h2, h3⟩ := StoW.cl s0 k s h a e
    obtain ⟨cl', ns, q1, q2, q3, q4, q5, w1, w2, w3⟩ := h3
    have ec : cl' = cl := by
      rw [w1] at h1
      injection h1 with h1
      injection h1 with h1
      injection h1 with h1
      injection h1
    exact ⟨cl', ns, q1, q2, q3, q4, q5, by rw [mns_ne fun z => n (by rw [e, z])]; exact w1, by rw [mns_ne (by rw [ec]; exact h2)]; exact w2, w3⟩
end
def wYes : WT := fun _ R => R true
section
variable {X : Cx} {e : Expr} {wi : WI} {t : WT} {w : WE} {g : TG} {gg : WG} {vs : List Nat}
/-- [w for .. in wi if t] -/
def fLc (wi : WI) (gg : WG) (t : WT) (w : WE) (vs : List Nat) : WF := fun ρ R => wi ρ fun xs => xs.length ≤ 1000000 ∧ lcL gg t w xs (wiL ρ vs) [] R
theorem lc_wks (hg : Tc g gg vs) {tt : TT} (ht : ∀ σ H Q, liftT t σ H Q → tt σ H Q) {σ : L2.St} {H1 : Hp} {Q : VK} {W : Wd} {own : Nat → Option Addr} {ρ : Env} {R : List DV → Prop} {J : It} {xs : List DV} (o1 : W.Ok H1) (i1 : IsE W own H1 σ ρ) (wk : Wks J W H1 xs) (lx : xs.length ≤ 1000000)
    (r : lcL gg t w xs (wiL ρ vs) [] R) (f : FinF W H1 R Q) : tLc (fun _ H R => R J H) g tt (lift w) vs σ H1 Q := by
  intro D hD
  have sD := same_new (o := .lst []) hD
  have okD := o1.fresh hD
  -- the world in which the new list is hidden
  let W2 : Wd := ⟨W.st, fun a => W.hid a ∨ a = D⟩
  have e2 : IsE W own H1 (wipe σ vs) (wiL ρ vs) := i1.wipe vs
  have hideI : ∀ {v : V} {d : DV}, Is W H1 v d → Is W2 H1 v d := fun {v d} h => Is.tr (W := W) (W' := W2) rfl (fun b o k z => ⟨⟨k.1, fun w => w.elim k.2 fun e => ne_of_none z hD e⟩, z⟩) h
  have hideL : ∀ {v : List V} {d : List DV}, Iss W H1 v d → Iss W2 H1 v d := fun {v d} h => Iss.tr (W := W) (W' := W2) rfl (fun b o k z => ⟨⟨k.1, fun w => w.elim k.2 fun e => ne_of_none z hD e⟩, z⟩) h
  have e3 : ∀ {H' : Hp}, Kp W.st H1 H' → IsE W2 own H' (wipe σ vs) (wiL ρ vs) := fun {H'} k => ⟨e2.len, fun i d z => by
    obtain ⟨v, a, b⟩ := e2.dt i d z
    exact ⟨v, a, Is.mono (W := W2) k (hideI b)⟩, fun i xs z => by
    obtain ⟨a, us, h1, h2, h3, h4, h5⟩ := e2.ow i xs z
    exact ⟨a, us, h1, h2, k.o h3 (o1.h a (e2.hd i a h1)).2, h4, Iss.mono (W := W2) k (hideL h5)⟩, fun i ks xs z => by
    obtain ⟨a, us, h1, h2, h3, h4, h5⟩ := e2.od i ks xs z
    exact ⟨a, us, h1, h2, k.o h3 (o1.h a (e2.hd i a h1)).2, h4, Iss.mono (W := W2) k (hideL h5)⟩, fun i A C ns xs z => by
    obtain ⟨a, us, h1, h2, ⟨dx, h3⟩, h4, h5⟩ := e2.oi i A C ns xs z
    exact ⟨a, us, h1, h2, ⟨dx, k.o h3 (o1.h a (e2.hd i a h1)).2⟩, h4, Iss.mono (W := W2) k (hideL h5)⟩, fun i a z => .inl (e2.hd i a z)⟩
  have nD : W.st ≠ some D := okD.1
  have nkD : ¬ W2.ok D := fun k => k.2 (.inr rfl)
  have ok2 : ∀ {H' : Hp}, W2.Ok H' → W.Ok H' := fun h => ⟨h.s, fun a z => h.h a (.inl z)⟩
  refine ⟨fun n m H' => m = xs.length - n ∧ n ≤ xs.length ∧ ∃ (acc : List DV) (us : List V), H' D = some (.lst us) ∧ Kp W.st H1 H' ∧ W2.Ok H' ∧ Iss W2 H' us acc ∧ acc.length ≤ n ∧ lcL gg t w (xs.drop n) (wiL ρ vs) acc R, ?_, ?_⟩
  · refine ⟨_, rfl, Nat.zero_le _, [], [], upd_same, Kp.same sD, ⟨o1.s.same sD, fun a ha => ?_⟩, .nil, Nat.le_refl _, r⟩
    rcases ha with ha | rfl
    · obtain ⟨⟨o, ho⟩, n⟩ := o1.h a ha
      exact ⟨⟨o, sD _ _ ho⟩, n⟩
    · exact ⟨⟨_, upd_same⟩, nD⟩
  · rintro n m H' ⟨rfl, hn, acc, us, hus, kH, oH, iH, ln, hf⟩
    by_cases hlt : n < xs.length
    · refine .inr ⟨wk.go n H' kH hlt, fun H' => n + 1 ≤ xs.length ∧ ∃ (acc : List DV) (us : List V), H' D = some (.lst us) ∧ Kp W.st H1 H' ∧ W2.Ok H' ∧ Iss W2 H' us acc ∧ acc.length ≤ n + 1 ∧ lcL gg t w (xs.drop (n + 1)) (wiL ρ vs) acc R, fun H' z => ⟨xs.length - (n + 1), by omega, rfl, z⟩, fun v H2 y => ?_⟩
      obtain ⟨sm, x, hx, ix⟩ := wk.yl n H' v H2 kH y hlt
      have kH := kH.trans (Kp.same sm)
      have oH0 := oH
      have oH := oH.same sm
      have hus := sm _ _ hus
      have iH := iH.mono (Kp.same sm)
      rw [List.drop_eq_getElem_cons (List.getElem?_eq_some_iff.mp hx).1, (List.getElem?_eq_some_iff.mp hx).2] at hf
      refine hg W2 own H2 σ ρ v x _ _ oH (e3 kH) (ix W2 rfl oH0 fun b o k z => ⟨k.1, fun w => w.elim k.2 fun e => ne_of_none z hD e⟩) hf fun ρ' σ' h3 ie ew => ⟨ew, ht _ _ _ ⟨W2, own, ρ', _, oH, ie, h3, fun k H3 r3 k3 o3 => ?_⟩⟩
      have us3 := k3.o hus nD
      cases k with
      | false => exact ⟨hlt, acc, us, us3, kH.trans k3, o3, iH.mono k3, by omega, r3⟩
      | true =>
        refine ⟨W2, own, ρ', _, o3, ie.mono oH k3, r3, fun y u H4 r4 k4 o4 i4 => ?_⟩
        have k34 := k3.trans k4
        have kH4 : Kp W.st H1 H4 := kH.trans k34
        have us4 := k34.o hus nD
        have il := iH.mono k34
        have lu : us.length < 1000000 := by rw [il.len]; omega
        refine ⟨us, us4, lt_line lu, hlt, acc ++ [y], us ++ [u], upd_same, kH4.own hD nD, ⟨StoW.own o1.s kH4 o4.s hD nD, fun a ha => ?_⟩, ?_, by rw [List.length_append]; exact Nat.succ_le_succ ln, r4⟩
        · obtain ⟨⟨o, ho⟩, na⟩ := o4.h a ha
          by_cases e : a = D
          · rw [e]; exact ⟨⟨_, upd_same⟩, nD⟩
          · exact ⟨⟨o, by rw [upd_ne e]; exact ho⟩, na⟩
        · exact (il.off nkD).app (.cons (i4.off nkD) .nil)
    · have e : n = xs.length := by omega
      subst e
      rw [List.drop_length] at hf
      refine .inl ⟨wk.stop _ H' kH rfl, ?_⟩
      have z := f acc us D (mns H' D) hf (kH.mns hD nD) ⟨StoW.mns o1.s kH oH.s hD nD, fun a ha => ?_⟩ (Iss.tr (W := W2) (W' := W) rfl (fun b o k z => ⟨⟨k.1, fun w => k.2 (.inl w)⟩, by rw [mns_ne fun e => k.2 (.inr e)]; exact z⟩) iH) (by rw [iH.len]; omega) mns_same
      · rw [mns_upd hus] at z
        exact z
      · obtain ⟨⟨o, ho⟩, na⟩ := o1.h a ha
        exact ⟨⟨o, by rw [mns_ne fun e => by rw [e, hD] at ho; cases ho]; exact kH.o ho na⟩, na⟩
theorem lc_tr (hg : Tc g gg vs) {tt : TT} (ht : ∀ σ H Q, liftT t σ H Q → tt σ H Q) {σ : L2.St} {H : Hp} {Q : VK} (q : liftF (fLc wi gg t w vs) σ H Q) : tLc (liftI wi) g tt (lift w) vs σ H Q := by
  obtain ⟨W, own, ρ, R, o, i, z, f⟩ := q
  exact ⟨W, own, ρ, _, o, i, z, fun J xs H1 r k1 o1 hw => lc_wks hg ht o1 (i.mono o k1) (hw H1 fun _ _ _ z => z) r.1 r.2 (f.mono k1)⟩
theorem yes_tr : ∀ σ H Q, liftT wYes σ H Q → tYes σ H Q := fun σ H Q q => by
  obtain ⟨W, own, ρ, R, o, i, z, f⟩ := q
  exact f _ _ z (Kp.refl _ _) o
end
end DL
namespace DL
open PySem PySem.Spec PyProof.Rows L2 NW
abbrev DS1 := List DV → (DV → Prop) → Prop
/-- called with data, a def gives data -/
def dsp (s : DS1) : Sp := fun vs H Q _ => ∃ W ds R, W.Ok H ∧ Iss W H vs ds ∧ s ds R ∧ Fin W H R Q
def startD (n : Nat) (ds : List DV) : Env := ds.map Sl.dt ++ List.replicate (n - ds.length) Sl.un
theorem isE_start {W : Wd} {H : Hp} {N : List Str} {vs : List V} {ds : List DV} (h : Iss W H vs ds) : IsE W (fun _ => none) H (L2.start N vs) (startD N.length ds) := by
  have l := h.len
  refine ⟨?_, fun i d e => ?_, fun i xs e => ?_, fun i ks xs e => ?_, fun i A C ns xs e => ?_, fun _ _ z => nomatch z⟩
  · unfold L2.start startD
    rw [List.length_append, List.length_append, List.length_map, List.length_map, List.length_replicate, List.length_replicate, l]
  · unfold startD at e
    by_cases hi : i < ds.length
    · rw [List.getElem?_append_left (by rw [List.length_map]; exact hi), List.getElem?_map] at e
      cases z : ds[i]? with
      | none => rw [z] at e; cases e
      | some d' =>
        rw [z] at e
        cases e
        obtain ⟨v, h1, h2⟩ := h.get z
        refine ⟨v, ?_, h2⟩
        unfold L2.start
        rw [List.getElem?_append_left (by rw [List.length_map, l]; exact hi), List.getElem?_map, h1]
        rfl
    · rw [List.getElem?_append_right (by rw [List.length_map]; omega)] at e
      have := List.mem_of_getElem? e
      rw [List.mem_replicate] at this
      cases this.2
  · unfold startD at e
    have := List.mem_of_getElem? e
    rw [List.mem_append, List.mem_map, List.mem_replicate] at this
    rcases this with ⟨_, _, z⟩ | ⟨_, z⟩ <;> cases z
  · unfold startD at e
    have := List.mem_of_getElem? e
    rw [List.mem_append, List.mem_map, List.mem_replicate] at this
    rcases this with ⟨_, _, z⟩ | ⟨_, z⟩ <;> cases z
  · unfold startD at e
    have := List.mem_of_getElem? e
    rw [List.mem_append, List.mem_map, List.mem_replicate] at this
    rcases this with ⟨_, _, z⟩ | ⟨_, z⟩ <;> cases z
/-- what a body owes -/
def Owes (n : Nat) (s : DS1) (w : WS) : Prop := ∀ ds R, s ds R → w { nx := fun _ => R .non, rt := R } (startD n ds)
theorem dl_start {Ex : L2.WX} {s : DS1} {w : WS} {N : List Str} (o : Owes N.length s w) (vs : List V) (H : Hp) (Q : VK) (E : XK) (h : dsp s vs H Q E) : liftS Ex w { nx := fun _ H' => Q .non H', rt := Q } (L2.start N vs) H := by
  obtain ⟨W, ds, R, ok, i, hs, f⟩ := h
  refine ⟨⟨W.st, W.hid, H⟩, fun _ => none, _, _, ⟨ok.s, Kp.refl _ _, by rw [w_none]; exact ok, by rw [w_none]; exact isE_start i, (fun _ _ z => nomatch z), (fun _ _ _ z => nomatch z)⟩, o ds R hs, ⟨fun own ρ σ H' r c => ?_, fun _ _ _ _ z => z.elim, fun _ _ _ _ z => z.elim, fun d v H' r k o i => f d v H' r k o i, fun _ _ _ _ _ _ _ _ _ z => z.elim⟩⟩
  exact f _ _ _ r c.k c.ok0 .non
def wCall (s : DS1) (r : WA) : WE := fun ρ R => r ρ fun ds => s ds R
theorem call_tr {s : DS1} {r : WA} {E : XK} : ∀ σ H Q, lift (wCall s r) σ H Q → tCall (dsp s) [] E (liftA r) σ H Q := fun σ H Q q => by
  obtain ⟨W, own, ρ, R, o, i, z, f⟩ := q
  refine ⟨W, own, ρ, _, o, i, z, fun ds vs H1 r1 k1 o1 i1 => ?_⟩
  show dsp s (vs ++ []) H1 Q E
  rw [List.append_nil]
  exact ⟨W, ds, R, o1, i1, r1, f.mono k1⟩
section
variable {Ex : L2.WX}
variable {X : Cx} {e a b c : Expr} {es : List Expr} {w wa : WE} {s : DS1} {r : WA} {pos p : Pos}
theorem dcall (h : PE X e (tCall (dsp s) [] E0 (liftA r))) : PE X e (lift (wCall s r)) := pe_weak h call_tr
theorem dcb {d : DA} {rr : List V → Hp → VK → Prop} (hc : Cl rr d) (h : PE X e (tCB rr (liftB r))) : PE X e (lift (wCB d r)) := pe_weak h (cb_tr hc)
theorem pair1 {W : Wd} {own : Nat → Option Addr} {H : Hp} {vs : List V} {d : DV} (h : Paired (IsP W own H) vs [d]) : ∃ v, vs = [v] ∧ IsP W own H v d := by
  cases h with
  | cons x t => cases t; exact ⟨_, rfl, x⟩
theorem pair2 {W : Wd} {own : Nat → Option Addr} {H : Hp} {vs : List V} {d d2 : DV} (h : Paired (IsP W own H) vs [d, d2]) : ∃ v v2, vs = [v, v2] ∧ IsP W own H v d ∧ IsP W own H v2 d2 := by
  cases h with
  | cons x t =>
    cases t with
    | cons y t => cases t; exact ⟨_, _, rfl, x, y⟩
def dLen : DA := fun ds R => match ds with
  | [.str s] => s.length ≤ 1000000 ∧ R (.int (s.length : Nat))
  | [.lst xs] => R (.int (xs.length : Nat))
  | [.tup xs] => R (.int (xs.length : Nat))
  | _ => False
theorem clLen {K : PySem.W.Frag} : Cl (aLen K) dLen := by
  intro W own H vs ds R Q o h hd f
  unfold dLen at hd
  split at hd
  · obtain ⟨v, rfl, i⟩ := pair1 h
    cases i.str
    exact ⟨_, _, rfl, ⟨le_line hd.1, rfl⟩, f.int o hd.2⟩
  · obtain ⟨v, rfl, i⟩ := pair1 h
    obtain ⟨p, us, rfl, h1, h2, h3⟩ := i.lst
    exact ⟨_, _, rfl, .inl ⟨us, SqL.of h1, rfl⟩, by rw [h3.len]; exact f.int o hd⟩
  · obtain ⟨v, rfl, i⟩ := pair1 h
    obtain ⟨p, us, rfl, h1, h2, h3⟩ := i.tup
    exact ⟨_, _, rfl, .inr ⟨us, SqT.of h1, rfl⟩, by rw [h3.len]; exact f.int o hd⟩
  · exact hd.elim
def dInt : DA := fun ds R => match ds with
  | [.int i] => R (.int i)
  | _ => False
def dAbs : DA := fun ds R => match ds with
  | [.int i] => R (.int (if i < 0 then -i else i))
  | _ => False
def dMax : DA := fun ds R => match ds with
  | [.int i, .int j] => R (.int (if j > i then j else i))
  | _ => False
theorem clMax : Cl aMax dMax := by
  intro W own H vs ds R Q o h hd f
  unfold dMax at hd
  split at hd
  · obtain ⟨v, u, rfl, i, j⟩ := pair2 h
    cases i.int; cases j.int
    exact ⟨_, _, rfl, f.int o hd⟩
  · exact hd.elim
def dMin : DA := fun ds R => match ds with
  | [.int i, .int j] => R (.int (if j < i then j else i))
  | _ => False
theorem clMin : Cl aMin dMin := by
  intro W own H vs ds R Q o h hd f
  unfold dMin at hd
  split at hd
  · obtain ⟨v, u, rfl, i, j⟩ := pair2 h
    cases i.int; cases j.int
    exact ⟨_, _, rfl, f.int o hd⟩
  · exact hd.elim
/-- list(x): a new list -/
def dList : DA := fun ds R => match ds with
  | [.lst xs] => R (.lst xs)
  | [.tup xs] => R (.lst xs)
  | _ => False
def fList (w : WE) : WF := fun ρ R => w ρ fun d => match d with
  | .lst xs => R xs
  | .tup xs => R xs
  | _ => False
def dTup : DA := fun ds R => match ds with
  | [.lst xs] => R (.tup xs)
  | [.tup xs] => R (.tup xs)
  | _ => False
theorem clTup {K : PySem.W.Frag} : Cl (aTup K) dTup := by
  intro W own H vs ds R Q o h hd f
  unfold dTup at hd
  split at hd
  · obtain ⟨v, rfl, i⟩ := pair1 h
    obtain ⟨p, us, rfl, h1, h2, h3⟩ := i.lst
    exact tup_l h1 (f.tup o h2 h3 hd)
  · obtain ⟨v, rfl, i⟩ := pair1 h
    have i' := i.is (fun _ e => nomatch e)
    cases i' with
    | tup h1 h2 h3 h4 => exact tup_t h1 (f.at o (.tup h1 h2 h3 h4) hd)
  · exact hd.elim
def dStr : DA := fun ds R => match ds with
  | [.int i] => i.natAbs < 2 ^ 300 ∧ R (.str (toString i))
  | _ => False
def tyS : DV → Option String
  | .non => some "NoneType"
  | .bl _ => some "bool"
  | .int _ => some "int"
  | .str _ => some "str"
  | .lst _ => some "list"
  | .tup _ => some "tuple"
  | .dic _ _ => some "dict"
  | _ => none
theorem ty_of {K : PySem.W.Frag} {W : Wd} {own : Nat → Option Addr} {H : Hp} {v : V} {d : DV} {a : String} (h : IsP W own H v d) (e : tyS d = some a) : TyX K H v (.type a) := by
  cases d with
  | non => cases h.non; cases e; exact .base .non
  | bl b => cases h.bl; cases e; exact .base (.bl _)
  | int b => cases h.int; cases e; exact .base (.int _)
  | str b => cases h.str; cases e; exact .base (.str _)
  | lst xs =>
    obtain ⟨p, us, rfl, h1, _⟩ := h.lst
    cases e; exact .base (.lst h1)
  | tup xs =>
    obtain ⟨p, us, rfl, h1, _⟩ := h.tup
    cases e; exact .base (.tup h1)
  | dic ks xs =>
    cases h.is (fun _ e => nomatch e) with
    | dic h1 => cases e; exact h1.elim (fun h => .base (.dK h)) fun ⟨o, h⟩ => .fDict h
  | _ => cases e
def isiB (T : String) (d : DV) : Option Bool := (tyS d).bind fun a => kitB a T
def wIsi (T : String) (w : WE) : WE := fun ρ R => w ρ fun d => ∃ b, isiB T d = some b ∧ R (.bl b)
theorem isiB_ty {T : String} {d : DV} {b : Bool} (h : isiB T d = some b) : ∃ a, tyS d = some a ∧ kitB a T = some b := by
  unfold isiB at h
  cases e : tyS d with
  | none => rw [e] at h; cases h
  | some a => rw [e] at h; exact ⟨a, rfl, h⟩
theorem disi {K : PySem.W.Frag} {T : String} (h : PE X e (tCB (aIsi K) (tCons (liftP w) (tCons (tC (.ty T)) tNil)))) : PE X e (lift (wIsi T w)) := pe_weak h fun σ H Q q => by
  obtain ⟨W, own, ρ, R, o, i, z, f⟩ := q
  refine ⟨W, own, ρ, _, o, i, z, fun d v H1 r k1 o1 i1 => ?_⟩
  obtain ⟨b, h1, r⟩ := r
  obtain ⟨t, h2, h3⟩ := isiB_ty h1
  exact isi_of (ty_of i1 h2) h3 ((f.mono k1).bl o1 r)
def wIsi2 (T U : String) (w : WE) : WE := fun ρ R => w ρ fun d => ∃ b c, isiB T d = some b ∧ isiB U d = some c ∧ R (.bl (b || c))
theorem disi2 {K : PySem.W.Frag} {T U : String} (h : PE X e (tCB (aIsi K) (tCons (liftP w) (tCons (tTup (tCons (tC (.ty T)) (tCons (tC (.ty U)) tNil))) tNil)))) : PE X e (lift (wIsi2 T U w)) := pe_weak h fun σ H Q q => by
  obtain ⟨W, own, ρ, R, o, i, z, f⟩ := q
  refine ⟨W, own, ρ, _, o, i, z, fun d v H1 r k1 o1 i1 => ⟨by show 2 ≤ sizeLine; decide, fun p hp => ?_⟩⟩
  obtain ⟨b, c, h1, h1', r⟩ := r
  obtain ⟨t, h2, h3⟩ := isiB_ty h1
  obtain ⟨t', h2', h3'⟩ := isiB_ty h1'
  rw [h2] at h2'; cases h2'
  have s := same_new (o := .tup [V.ty T, V.ty U]) hp
  exact isi_two (ty_of (i1.mono o1 (Kp.same s)) h2) upd_same h3 h3' ((f.mono (k1.trans (Kp.same s))).bl (o1.same s) r)
theorem isi_non_bool  : isiB "bool" .non = some false := by show kitB "NoneType" "bool" = some false; decide +kernel
theorem isi_non_int  : isiB "int" .non = some false := by show kitB "NoneType" "int" = some false; decide +kernel
theorem isi_bl_bool {k : Bool} : isiB "bool" (.bl k) = some true := by show kitB "bool" "bool" = some true; decide +kernel
theorem isi_bl_int {k : Bool} : isiB "int" (.bl k) = some true := by show kitB "bool" "int" = some true; decide +kernel
theorem isi_int_bool {k : Int} : isiB "bool" (.int k) = some false := by show kitB "int" "bool" = some false; decide +kernel
theorem isi_int_int {k : Int} : isiB "int" (.int k) = some true := by show kitB "int" "int" = some true; decide +kernel
theorem isi_str_bool {k : Str} : isiB "bool" (.str k) = some false := by show kitB "str" "bool" = some false; decide +kernel
theorem isi_str_int {k : Str} : isiB "int" (.str k) = some false := by show kitB "str" "int" = some false; decide +kernel
theorem isi_str_str {k : Str} : isiB "str" (.str k) = some true := by show kitB "str" "str" = some true; decide +kernel
theorem isi_lst_list {k : List DV} : isiB "list" (.lst k) = some true := by show kitB "list" "list" = some true; decide +kernel
theorem isi_tup_tuple {k : List DV} : isiB "tuple" (.tup k) = some true := by show kitB "tuple" "tuple" = some true; decide +kernel
theorem isi_dic_bool {k : List Key} {l : List DV} : isiB "bool" (.dic k l) = some false := by show kitB "dict" "bool" = some false; decide +kernel
theorem isi_dic_int {k : List Key} {l : List DV} : isiB "int" (.dic k l) = some false := by show kitB "dict" "int" = some false; decide +kernel
theorem isi_dic_str {k : List Key} {l : List DV} : isiB "str" (.dic k l) = some false := by show kitB "dict" "str" = some false; decide +kernel
theorem isi_dic_dict {k : List Key} {l : List DV} : isiB "dict" (.dic k l) = some true := by show kitB "dict" "dict" = some true; decide +kernel
end
end DL
namespace DL
open PySem PySem.Spec PyProof.Rows L2 NW
abbrev DS2 := List DV → (DV → Prop) → (DV → Prop) → Prop
def FinX (W : Wd) (H : Hp) (RX : DV → Prop) (E : XK) : Prop := ∀ C ns xs dd H' fs, RX (.err C ns xs) → Kp W.st H H' → W.Ok H' → H' dd = some (.xd fs) → W.ok dd → fs.map (·.1) = ns → Iss W H' (fs.map (·.2)) xs → E (.ref C) (some dd) H'
/-- a def that may raise -/
def dspX (s : DS2) : Sp := fun vs H Q E => ∃ W ds R RX, W.Ok H ∧ Iss W H vs ds ∧ s ds R RX ∧ Fin W H R Q ∧ FinX W H RX E
/-- a call that raises nothing -/
def wCallN (s : DS2) (r : WA) : WE := fun ρ R => r ρ fun ds => s ds R fun _ => False
theorem callN_tr {s : DS2} {r : WA} {E : XK} : ∀ σ H Q, lift (wCallN s r) σ H Q → tCall (dspX s) [] E (liftA r) σ H Q := fun σ H Q q => by
  obtain ⟨W, own, ρ, R, o, i, z, f⟩ := q
  refine ⟨W, own, ρ, _, o, i, z, fun ds vs H1 r1 k1 o1 i1 => ?_⟩
  show dspX s (vs ++ []) H1 Q E
  rw [List.append_nil]
  exact ⟨W, ds, R, _, o1, i1, r1, f.mono k1, fun _ _ _ _ _ _ z => z.elim⟩
section
variable {Ex : L2.WX}
variable {X : Cx} {e a b c : Expr} {es : List Expr} {w wa : WE} {s : DS2} {r : WA} {pos p : Pos} {st : Stmt}
theorem dcallN (h : PE X e (tCall (dspX s) [] E0 (liftA r))) : PE X e (lift (wCallN s r)) := pe_weak h callN_tr
theorem fx_of {B : Bs} {own : Nat → Option Addr} {H H1 : Hp} {σ : L2.St} {ρ : Env} {E : WEnds} {D : Ends} (c : Ctx B own H σ ρ) (d : Dl B E D Ex) (k : Kp B.st H H1) : FinX (B.w own) H1 (fun x => E.xc x ρ) (L2.WE Ex σ) := fun C ns xs dd H' fs r k' o h1 h2 h3 h4 =>
  d.xc own ρ σ H' C ns xs dd fs r (c.mono (k.trans k') o) h1 h2 h3 h4
/-- x = f(..), f(..), return f(..), where what f raises is wished for -/
def wAsgX (i : Nat) (s : DS2) (r : WA) : WS := fun E ρ => r ρ fun ds => s ds (fun d => E.nx (ρ.set i (.dt d))) fun x => E.xc x ρ
def wDropX (s : DS2) (r : WA) : WS := fun E ρ => r ρ fun ds => s ds (fun _ => E.nx ρ) fun x => E.xc x ρ
/-- raise C(e), one field -/
def wRaise1 (K : PySem.W.Frag) (cn fl : Str) (w : WE) : WS := fun E ρ => w ρ fun d => E.xc (.err (He.ga K cn) [fl] [d]) ρ
theorem draise1 {K : PySem.W.Frag} {E0' : XK} {cn fl : Str} (he : PS X st (tRaise E0' (tMkO (He.ga K cn) (sp_init1 K (He.ga K cn) fl) [] (tCons (lift w) tNil)))) : PS X st (liftS (fun cls d _ H => E0' cls d H) (wRaise1 K cn fl w)) := ps_weak he fun D σ H q => by
  obtain ⟨B, own, ρ, E, c, h, d⟩ := q
  refine s_raise1 ⟨B.w own, own, ρ, _, c.ok, c.e, h, fun x v H1 r1 k1 o1 i1 => mk_r fun dd hd => ?_⟩
  have s := same_new (o := .xd [(fl, v)]) hd
  have c1 := (c.mono k1 o1).mono (Kp.same s) (o1.same s)
  exact d.xc own ρ σ _ _ _ _ dd [(fl, v)] r1 c1 upd_same (o1.fresh hd) rfl (.cons (i1.mono (Kp.same s)) .nil)
/-- what an error class has to do with the handler -/
def liftH (w : Addr → Value → Option Addr → WS) (a : Addr) (cls : Value) (d : Option Addr) : TS := liftS (fun _ _ _ _ => False) (w a cls d)
def wTry (K : PySem.W.Frag) (i : Nat) (L : List Str) (s : WS) (h : Addr → Value → Option Addr → WS) : WS := fun E ρ => s { E with xc := fun x ρ' => ∃ (cn : Str) (ns : List Str) (xs : List DV), x = .err (He.ga K cn) ns xs ∧ cn ∈ L ∧ ∀ a dd, h a (.ref (He.ga K cn)) (some dd) { nx := fun _ => False, rt := fun v => E.rt v } (ρ'.set i (.dt (.hote a (He.ga K cn) dd ns xs))) } ρ
theorem try_tr {K : PySem.W.Frag} {i : Nat} {L : List Str} {s : WS} {h : Addr → Value → Option Addr → WS} {Wout : L2.WX} (hL : ∀ cn ∈ L, PySem.W.exmOne K (.ref (He.ga K cn)) (.ref (He.ga K "NestError")) = some true) {D : Ends} {σ : L2.St} {H : Hp} (q : liftS Ex (wTry K i L s h) D σ H) : tTryA K (.ref (He.ga K "NestError")) i (fun W => liftS W s) (liftH h) Wout D σ H := by
  obtain ⟨B, own, ρ, E, c, hw, d⟩ := q
  refine ⟨B, own, ρ, _, c, hw, ⟨d.nx, d.bk, d.ct, d.rt, fun own' ρ' σ' H' C ns xs dd fs r c' h1 h2 h3 h4 => ?_⟩⟩
  obtain ⟨cn, ns', xs', ex, hm, r⟩ := r
  injection ex with e1 e2 e3
  subst e1 e2 e3
  refine was_y (hL cn hm) fun a ha => ⟨B, cut own' i, _, _, c'.set i (v := .ref a) (.hot h1 h2 h3 h4), r a dd, ⟨fun _ _ _ _ z => z.elim, fun _ _ _ _ z => z.elim, fun _ _ _ _ z => z.elim, d.rt, fun _ _ _ _ _ _ _ _ _ z => z.elim⟩⟩
/-- what is asked of the error classes L -/
structure Errs (K : PySem.W.Frag) (L : List Str) : Prop where
  f : ∀ c ∈ L, ErrF K (He.ga K c) (inL (kindsOf c))
def selD (c : Str) : List DV := (kindsOf c).map DV.str
def sp_kindF (E a : Addr) (d : Option Addr) (b : Str → Bool) : Sp := fun vs H Q _ => vs = [.ref a] ∧ (∀ dd, d = some dd → ∃ fs, H dd = some (.xd fs)) ∧ ∀ (l : Addr) (H' : Hp), Same H H' → H l = none → H' l = some (.lst (sel (kindsAll b))) → Q (.ref l) H'
theorem l_kindF (E a : Addr) (d : Option Addr) (b : Str → Bool) : ∀ vs H Q X, sp_kindF E a d b vs H Q X → vs.length = 1 := fun _ _ _ _ h => by rw [h.1]; rfl
theorem none_back {H H' : Hp} {D : Addr} (s : Same H H') (h : H' D = none) : H D = none := by
  cases e : H D with
  | none => rfl
  | some o => rw [s _ _ e] at h; cases h
theorem p_kindF (K : PySem.W.Frag) (E a : Addr) (d : Option Addr) (b : Str → Bool) (F : KitF K E b) (vs : List V) (H : Hp) (Q : VK) (X : XK) (h : sp_kindF E a d b vs H Q X) : t_kinds K E a d { nx := fun _ H' => Q .non H', rt := Q } (L2.start ["error", "rows", "row"] vs) H := by
  obtain ⟨ev, hd, q⟩ := h
  subst ev
  show t_kinds K E a d _ [some (.ref a), none, none] H
  rw [t_kinds_eq]
  have M : ∀ n, n ∈ errN1 ++ errN2 → PySem.W.kitOne K (.ref E) (.ref (He.ga K n)) = some (b n) := F.c
  refine s_seq ?_
  refine row0 (.ty _) F.v (.own _) (M "NestError" (by decide +kernel)) hd (Same.refl H) fun r H1 w1 s1 e1 a1 n1 => ?_
  refine p_rows K E a d b H _ _ _ hd kindPairs r H1 w1 _ (fun q hq => ⟨M _ (pairs_in q hq).1, M _ (pairs_in q hq).2⟩) s1 e1 a1 (by rw [n1]; decide) fun r2 H2 w2 s2 e2 a2 l2 => ?_
  refine s_seq ?_
  refine row1 (.own _) (M "BadClaim" (by decide +kernel)) hd s2 e2 a2 l2 fun r3 H3 w3 s3 e3 a3 => ?_
  exact ⟨_, rfl, r3, w3, kindsAll b, rfl, e3, a3, fun D hD => q D _ (s3.trans (same_new hD)) (none_back s3 hD) upd_same⟩
def tKdF (K : PySem.W.Frag) (cls : Value) (a : Addr) (d : Option Addr) (te : TE) : TE := fun σ H Q => ∃ (C : Addr) (b : Str → Bool), cls = .ref C ∧ KitF K C b ∧ ExcC K C ∧ tCall (sp_kindF C a d b) [] E0 (tCons te tNil) σ H Q
theorem pe_kdF {X : Cx} {a : Addr} {oe : Obj} {cls : Value} {d : Option Addr} {pn : List (Addr × Obj)} {k j : Nat} {ps : List Str} {x : Str} {q pos : Pos} {e : Expr} {te : TE}
    (h : ∀ C b, KitF X.K C b → ExcC X.K C → Zc (.ref C) d oe → HasH X.prog X.w X.K X.mg X.base (a, oe) x k ps (sp_kindF C a d b)) (hr : L2H.RoomH j (X.suite a ((a, oe) :: pn)).A) (hz : L2N.Zn cls d oe) (hf : ∃ vs, oe.data = .fields vs)
    (he : PE (X.suite a ((a, oe) :: pn)) e te) (hk : k ≤ j := by decide) (hg : Gl (X.suite a ((a, oe) :: pn)) x := by rfl) (hdb : (x == ("__debug__" : Str)) = false := by decide)
    (hs : starEach [e] (X.suite a ((a, oe) :: pn)).env = (false, eval e (X.suite a ((a, oe) :: pn)).env) :: starEach [] (X.suite a ((a, oe) :: pn)).env := by rfl) (hpl : (backTo pos (starEach [] (X.suite a ((a, oe) :: pn)).env)).any (·.1) = false := by rfl) : PE (X.suite a ((a, oe) :: pn)) (.Call (.Name x q) [e] [] pos) (tKdF X.K cls a d te) := by
  refine ⟨fun pins s σ H Q I hh => ?_⟩
  obtain ⟨C, b, ec, F, G, hq⟩ := hh
  subst ec
  exact (pe_hc (X := X.suite a ((a, oe) :: pn)) (h C b F G hz.zc) hr (hotS hz hf) (pa_cons he pa_nil (hs := hs)) hk hg hdb hs hpl).run pins s σ H Q I hq
def wKd (K : PySem.W.Frag) (L : List Str) (a : Addr) (cls : Value) (d : Option Addr) (i : Nat) : WE := fun ρ R => atV (fun e => ∃ (cn : Str) (dd : Addr) (ns : List Str) (xs : List DV), e = .hote a (He.ga K cn) dd ns xs ∧ cls = .ref (He.ga K cn) ∧ d = some dd ∧ cn ∈ L ∧ R (.lst (selD cn))) ρ[i]?
theorem kd_tr {K : PySem.W.Frag} {L : List Str} {a : Addr} {cls : Value} {d : Option Addr} {i : Nat} (F : Errs K L) (hL : ∀ c ∈ L, sel (kindsAll (inL (kindsOf c))) = (kindsOf c).map V.str ∧ (kindsOf c).length ≤ 100) : ∀ σ H Q, lift (wKd K L a cls d i) σ H Q → tKdF K cls a d (tVar i) σ H Q := fun σ H Q q => by
  obtain ⟨W, own, ρ, R, o, ie, z, f⟩ := q
  obtain ⟨_, z2, cn, dd, ns, xs, rfl, rfl, rfl, hm, r⟩ := atV_ex z
  obtain ⟨v, hv, hi⟩ := ie.dt _ _ z2
  cases hi with
  | hot h1 h2 h3 h4 =>
    refine ⟨_, _, rfl, (F.f cn hm).kit, (F.f cn hm).exc, _, hv, rfl, fun dd' e => ⟨_, by cases e; exact h1⟩, fun l H' s n e => ?_⟩
    rw [(hL cn hm).1] at e
    refine f (.lst (selD cn)) (.ref l) H' r (Kp.same s) (o.same s) ?_
    refine .lst e (o.fresh n) ?_ (str_iss _)
    rw [List.length_map]
    exact Nat.le_trans (hL cn hm).2 (by decide)
theorem dkd {K : PySem.W.Frag} {L : List Str} {aa : Addr} {cls : Value} {d : Option Addr} {i : Nat} (F : Errs K L) (hL : ∀ c ∈ L, sel (kindsAll (inL (kindsOf c))) = (kindsOf c).map V.str ∧ (kindsOf c).length ≤ 100) (h : PE X e (tKdF K cls aa d (tVar i))) : PE X e (lift (wKd K L aa cls d i)) := pe_weak h (kd_tr F hL)
/-- a field of the handled error -/
def lkD : List Str → List DV → Str → Option DV
  | n :: ns, x :: xs, m => if m = n then some x else lkD ns xs m
  | _, _, _ => none
theorem lk_ok {W : Wd} {H : Hp} {m : Str} : ∀ {fs : List (Str × V)} {ns : List Str} {xs : List DV} {x : DV}, fs.map (·.1) = ns → Iss W H (fs.map (·.2)) xs → lkD ns xs m = some x → ∃ v, fs.lookup m = some v ∧ Is W H v x
  | [], ns, xs, x, e, i, h => by
    subst e
    cases i
    cases h
  | (n, v) :: fs, ns, xs, x, e, i, h => by
    subst e
    cases i with
    | @cons _ _ y ys a t =>
      have h : (if m = n then some y else lkD (fs.map (·.1)) ys m) = some x := h
      rw [List.lookup_cons]
      by_cases z : m = n
      · have z' : (m == n) = true := beq_iff_eq.mpr z
        rw [if_pos z] at h
        rw [z']
        cases h
        exact ⟨v, rfl, a⟩
      · have z' : (m == n) = false := beq_eq_false_iff_ne.mpr z
        rw [if_neg z] at h
        rw [z']
        exact lk_ok rfl t h
def wXf (K : PySem.W.Frag) (L : List (Str × Str)) (a : Addr) (cls : Value) (d : Option Addr) (f : Str) (i : Nat) : WE := fun ρ R => atV (fun e => ∃ (cn : Str) (dd : Addr) (ns : List Str) (xs : List DV) (x : DV), e = .hote a (He.ga K cn) dd ns xs ∧ cls = .ref (He.ga K cn) ∧ d = some dd ∧ (cn, f) ∈ L ∧ lkD ns xs f = some x ∧ R x) ρ[i]?
theorem xf_tr {K : PySem.W.Frag} {L : List (Str × Str)} {a : Addr} {cls : Value} {d : Option Addr} {f : Str} {i : Nat} (F : ∀ c ∈ L, XfC K (He.ga K c.1) ∧ PySem.W.findIn K (.ref (He.ga K c.1)) c.2 = some none) : ∀ σ H Q, lift (wXf K L a cls d f i) σ H Q → tXfE K a cls d f (tVar i) σ H Q := fun σ H Q q => by
  obtain ⟨W, own, ρ, R, o, ie, z, g⟩ := q
  obtain ⟨_, z2, cn, dd, ns, xs, x, rfl, rfl, rfl, hm, hx, r⟩ := atV_ex z
  obtain ⟨v, hv, hi⟩ := ie.dt _ _ z2
  cases hi with
  | hot h1 h2 h3 h4 =>
    obtain ⟨u, hu, iu⟩ := lk_ok h3 h4 hx
    exact c_xf (F _ hm).1 (F _ hm).2 ⟨_, hv, rfl, dd, _, u, rfl, h1, hu, g.at o iu r⟩ ⟨i, rfl⟩
theorem dxf {K : PySem.W.Frag} {L : List (Str × Str)} {aa : Addr} {cls : Value} {d : Option Addr} {f : Str} {i : Nat} (F : ∀ c ∈ L, XfC K (He.ga K c.1) ∧ PySem.W.findIn K (.ref (He.ga K c.1)) c.2 = some none) (h : PE X e (tXfE K aa cls d f (tVar i))) : PE X e (lift (wXf K L aa cls d f i)) := pe_weak h (xf_tr F)
end
end DL
namespace DL
open PySem PySem.Spec PyProof.Rows L2 NW
section
variable {Ex : L2.WX}
variable {X : Cx} {e a b c : Expr} {es : List Expr} {w wa wb wc : WE} {pos p : Pos} {st : Stmt}
def dNeg (d : DV) (R : DV → Prop) : Prop := match d with
  | .int i => R (.int (-i))
  | _ => False
def wNeg (w : WE) : WE := fun ρ R => w ρ fun d => dNeg d R
theorem dneg (ha : PE X a (lift w)) : PE X (.UnaryOp .USub a pos) (lift (wNeg w)) := pe_weak (pe_un un_neg ha) fun σ H Q q => by
  obtain ⟨W, own, ρ, R, o, i, z, f⟩ := q
  refine ⟨W, own, ρ, _, o, i, z, fun d v H1 r k o1 i1 => ?_⟩
  unfold dNeg at r
  split at r
  · cases i1
    exact ⟨_, rfl, (f.mono k).int o1 r⟩
  · exact r.elim
theorem dchain {op op' : CmpOp} {r r' : R2} {d d' : D2} (ho : OpR X (compareOp op) r) (ho' : OpR X (compareOp op') r') (h : Op r d) (h' : Op r' d') (ha : PE X a (liftP wa)) (hb : PE X b (liftP wb)) (hc : PE X c (liftP wc))
    (hm : ∀ ta tb tc, PE X a ta → PE X b tb → PE X c tc → PE X e (tChain r r' ta tb tc)) : PE X e (lift (wChain d d' wa wb wc)) := pe_weak (hm _ _ _ ha hb hc) (chain_tr h h')
theorem dtisn (ha : PE X a (liftP wa)) (h : ∀ t, PE X a t → PT X e (tB (tIsN t))) : PT X e (liftT (wTB (wIsN wa))) := pt_weak (h _ ha) fun σ H Q q => by
  obtain ⟨W, own, ρ, R, o, i, z, f⟩ := q
  refine ⟨W, own, ρ, _, o, i, z, fun x v H1 r1 k1 o1 i1 => ⟨_, rfl, ?_⟩⟩
  show Q (decide (v = .non)) H1
  rw [is_non i1]
  exact f _ _ r1 k1 o1
abbrev WP := Env → (Option Int → Prop) → Prop
def pN : WP := fun _ R => R none
def pP (w : WE) : WP := fun ρ R => w ρ fun d => match d with
  | .int i => R (some i)
  | _ => False
def cutG {α : Type} (xs : List α) (lo hi : Option Int) : List α := (xs.drop (HT.sIx xs.length 0 lo)).take (HT.sIx xs.length xs.length hi - HT.sIx xs.length 0 lo)
def dSl (d : DV) (lo hi : Option Int) (R : DV → Prop) : Prop := match d with
  | .lst xs => R (.lst (cutG xs lo hi))
  | .str s => s.length ≤ 1000000 ∧ R (.str (cutS s lo hi))
  | _ => False
def wSl (w : WE) (l h : WP) : WE := fun ρ R => w ρ fun d => l ρ fun lo => h ρ fun hi => dSl d lo hi R
theorem dlistF {K : PySem.W.Frag} (h : ∀ t, PE X a t → PE X e (tCB (aList K) (tCons t tNil))) (ha : PE X a (liftP w)) : PE X e (liftF (fList w)) := pe_weak (h _ ha) fun σ H Q q => by
  obtain ⟨W, own, ρ, R, o, i, z, f⟩ := q
  refine ⟨W, own, ρ, _, o, i, z, fun d v H1 r k o1 i1 => ?_⟩
  split at r
  · obtain ⟨p, us, rfl, h1, h2, h3⟩ := i1.lst
    exact ⟨_, us, rfl, .inl (SqL.of h1), (f.mono k).new o1 h2 h3 r⟩
  · obtain ⟨p, us, rfl, h1, h2, h3⟩ := i1.tup
    exact ⟨_, us, rfl, .inr (SqT.of h1), (f.mono k).new o1 h2 h3 r⟩
  · exact r.elim
variable {wi : WI} {t : WT} {g : TG} {gg : WG} {vs : List Nat} {tt : TT} {tg iter elt : Expr} {ifs : List Expr} {Y : (Hp → Shared → Addr → List (Str × Addr) → List Addr → Cx)}
theorem one_tr {t : WT} : ∀ σ H Q, liftT t σ H Q → (liftT t) σ H Q := fun _ _ _ q => q
theorem dlc {t : WT} {tt : TT} (hg : Tc g gg vs) (ht : ∀ σ H Q, liftT t σ H Q → tt σ H Q) (h : PE X e (tLc (liftI wi) g tt (lift w) vs)) : PE X e (liftF (fLc wi gg t w vs)) := pe_weak h fun σ H Q q => lc_tr hg ht q
def dLrev (d : DV) (R : DV → Prop) : Prop := match d with
  | .lst xs => R (.lst xs.reverse)
  | _ => False
def wLrev (w : WE) : WE := fun ρ R => w ρ fun d => dLrev d R
theorem dlrev {K : PySem.W.Frag} (h : PE X e (tListRev K (liftP w))) : PE X e (lift (wLrev w)) := pe_weak h fun σ H Q q => by
  obtain ⟨W, own, ρ, R, o, i, z, f⟩ := q
  refine ⟨W, own, ρ, _, o, i, z, fun d v H1 r k o1 i1 => ?_⟩
  unfold dLrev at r
  split at r
  · obtain ⟨p, us, rfl, h1, h2, h3⟩ := i1.lst
    exact ⟨p, us, rfl, SqL.of h1, (f.mono k).f.new o1 (by rw [List.length_reverse]; exact h2) h3.rev r⟩
  · exact r.elim
theorem dtry {K : PySem.W.Frag} {i : Nat} {L : List Str} {s : WS} {hh : Addr → Value → Option Addr → WS} {Wout : L2.WX} (hL : ∀ cn ∈ L, PySem.W.exmOne K (.ref (He.ga K cn)) (.ref (He.ga K "NestError")) = some true)
    (h : PS X st (tTryA K (.ref (He.ga K "NestError")) i (fun W => liftS W s) (liftH hh) Wout)) : PS X st (liftS Ex (wTry K i L s hh)) := ps_weak h fun _ _ _ => try_tr hL
def wPop (j : Nat) (w : WE) : WS := fun E ρ => atO (fun ys => w ρ fun d => ∃ k : Nat, d = .int k ∧ k < ys.length ∧ E.nx (ρ.set j (.ow (ys.eraseIdx k)))) ρ[j]?
/-- x op= e for whole numbers -/
def dIAdd : D2 := fun a b R => match a, b with
  | .int i, .int j => R (.int (i + j))
  | _, _ => False
end
section
variable {P : Program} {w : World} {K : PySem.W.Frag} {mg : Str → Option Value} {base : Heap} {x : Str} {k : Nat} {ps : List Str} {sp sp' : Sp} {p : Addr × Obj}
theorem Has.weak (h : Has P w K mg base x k ps sp) (z : ∀ vs H Q E, sp' vs H Q E → sp vs H Q E) : Has P w K mg base x k ps sp' := by
  obtain ⟨f, fd, F⟩ := h
  exact ⟨f, fd, F.g, F.kp, F.b, ⟨fun vs H Q E q => F.ok.len vs H Q E (z _ _ _ _ q), fun A outer s H args us vs Q E r e b v q => F.ok.run A outer s H args us vs Q E r e b v (z _ _ _ _ q)⟩⟩
theorem HasH.weak (h : HasH P w K mg base p x k ps sp) (z : ∀ vs H Q E, sp' vs H Q E → sp vs H Q E) : HasH P w K mg base p x k ps sp' := by
  obtain ⟨f, fd, F⟩ := h
  exact ⟨f, fd, F.g, F.kp, F.b, ⟨fun vs H Q E q => F.ok.len vs H Q E (z _ _ _ _ q), fun A outer s H args us vs Q r hot pin e b v q => F.ok.run A outer s H args us vs Q r hot pin e b v (z _ _ _ _ q)⟩⟩
end
theorem len_dsp {s : DS1} {n : Nat} (h : ∀ ds R, s ds R → ds.length = n) : ∀ vs H Q E, dsp s vs H Q E → vs.length = n := fun vs H Q E q => by
  obtain ⟨W, ds, R, o, i, z, f⟩ := q
  rw [i.len]; exact h ds R z
def s_take : DS1 := fun ds R => match ds with
  | [.sto, .int n] => n < 2 ^ 300 ∧ ∀ r : Int, 0 ≤ r → (r < n ∨ r = 0) → R (.int r)
  | _ => False
theorem take_weak : ∀ vs H Q E, dsp s_take vs H Q E → sp_take vs H Q E := fun vs H Q E q => by
  obtain ⟨W, ds, R, o, i, z, f⟩ := q
  unfold s_take at z
  split at z
  · cases i with
    | cons a t =>
      cases t with
      | cons b t =>
        cases t; cases b
        cases a with
        | sto e =>
          rename_i st
          have so := o.s
          rw [e] at so
          refine ⟨st, _, rfl, so, z.1, fun r H' s k h0 h1 => ?_⟩
          have kk : Kp W.st H H' := by rw [e]; exact k
          exact f _ _ _ (z.2 r h0 h1) kk (o.mono kk (by rw [e]; exact s)) (.int _)
  · exact z.elim
end DL
namespace DL
open PySem PySem.Spec PyProof.Rows L2 NW
theorem forL_ind {g : WG} {s : WS} {E : WEnds} {xs : List DV} {ρ : Env} (P : Nat → Env → Prop) (h0 : P 0 ρ) (hs : ∀ i x ρ (K : Env → Prop), xs[i]? = some x → P i ρ → (∀ ρ', P (i + 1) ρ' → K ρ') → g x ρ fun ρ' => s { E with nx := K, ct := K, bk := E.nx } ρ') (hd : ∀ ρ, P xs.length ρ → E.nx ρ) : forL g s E xs ρ := by
  induction xs generalizing P ρ with
  | nil => exact hd _ h0
  | cons x xs ih =>
    refine hs 0 x ρ _ rfl h0 fun ρ' p => ?_
    exact ih (fun i => P (i + 1)) p (fun i y ρ K hy p k => hs (i + 1) y ρ K hy p k) hd
theorem lcL_ind {g : WG} {t : WT} {w : WE} {xs : List DV} {ρ : Env} {acc : List DV} {R : List DV → Prop} (P : Nat → List DV → Prop) (h0 : P 0 acc) (hs : ∀ i x acc (K : List DV → Prop), xs[i]? = some x → P i acc → (∀ acc', P (i + 1) acc' → K acc') → g x ρ fun ρ' => t ρ' fun k => if k = true then w ρ' fun y => K (acc ++ [y]) else K acc) (hd : ∀ acc, P xs.length acc → R acc) : lcL g t w xs ρ acc R := by
  induction xs generalizing P acc with
  | nil => exact hd _ h0
  | cons x xs ih =>
    refine hs 0 x acc (fun acc' => lcL g t w xs ρ acc' R) rfl h0 fun acc' p => ?_
    exact ih (fun i => P (i + 1)) p (fun i y ρ K hy p k => hs (i + 1) y ρ K hy p k) hd
theorem atI_lit {α : Type} {xs : List α} {i : Int} {x : α} (h0 : 0 ≤ i) (h : xs[i.toNat]? = some x) : atI xs i = some x := by
  have e : i = ((i.toNat : Nat) : Int) := by omega
  rw [e]; exact atI_nat h
theorem intL_at {lo : Int} {n i : Nat} {x : DV} (h : (intL lo n)[i]? = some x) : x = .int (lo + (i : Nat)) ∧ i < n := by
  have l : i < (intL lo n).length := (List.getElem?_eq_some_iff.mp h).1
  rw [intL_len] at l
  unfold intL at h
  rw [List.getElem?_map, List.getElem?_range l] at h
  exact ⟨(Option.some.inj h).symm, l⟩
theorem app_cps (a b : Str) : (a ++ b).cps.toList = a.cps.toList ++ b.cps.toList := by
  show (a.cps ++ b.cps).toList = _
  rw [Array.toList_append]
theorem len_cps (a : Str) : a.length = a.cps.toList.length := by
  show a.cps.size = _
  rw [Array.length_toList]
local macro_rules | `(tactic| walk_at "dl1") => `(tactic| simp only [wTry, wAsgX, wDropX, wKd, wXf, wSeq, wAsg, wAsgO, wRet, wIfS, wNx, wPass, wBk, wCt, wDrop, wAug, wApp, wAppPop, wPop, wFor, wFz, wV, wVP, atV, atP, atO, wC, wOp, wCall, wCallN, wCB, aC, aN, wL, wTu, fL, wF, fCat, fList, wTB, wTru, wAnd, wOr, wNot, wAndV, wOrV, wNotV, wIf, wChain, wIsN, wNeg, dNeg, wSl, pN, pP, dSl, wLrev, dLrev, wIsi, wIsi2, iL, iT, iV, iS, iR1, iR2, gN, fLc, wYes, wiL,
  dAdd, dSub, dMul, dMulS, dMulL, dDiv, dMod, dLt, dLe, dGt, dGe, dEq, dNe, eqD, dIn, dNi, dIx, dTru, isNon, dLen, dInt, dAbs, dMax, dMin, dList, dTup, dStr, dIAdd, frzE, frz1, startD, List.map_cons, List.map_nil, List.length_cons, List.length_nil, List.replicate_succ, List.replicate_zero, List.cons_append, List.nil_append, List.append_nil, List.getElem?_cons_zero, List.getElem?_cons_succ, List.set_cons_zero, List.set_cons_succ, Nat.reduceSub, Nat.reduceAdd, if_true, if_false, ite_true, ite_false, reduceIte, Bool.false_eq_true, decide_true, decide_false, Bool.not_true, Bool.not_false, Bool.not_eq_true', decide_eq_true_eq, decide_eq_false_iff_not, isi_int_int, isi_int_bool, isi_bl_int, isi_bl_bool, isi_non_int, isi_non_bool, isi_str_int, isi_str_bool, isi_str_str, isi_lst_list, isi_tup_tuple, Option.some.injEq, exists_eq_left', exists_eq_left, DV.int.injEq, DV.str.injEq, DV.bl.injEq, List.cons.injEq, and_true, true_and])
local macro_rules | `(tactic| walk_at "dl") => `(tactic| try walk_at "dl1")
local macro_rules | `(tactic| walk_at "go") => `(tactic| repeat' (first
  | (intro _)
  | walk_at "dl1"
  | (refine ⟨by first | decide | omega, ?_⟩)
  | split))
def w_edge : WS :=
  (wRet (wOp dEq (wCall s_take (aC (wV 0) (aC (wC (.int 3)) aN))) (wC (.int 0))))
def s_edge : DS1 := fun ds R => match ds with
  | [.sto] => ∀ b, R (.bl b)
  | _ => False
theorem l_edge : ∀ ds R, s_edge ds R → ds.length = 1 := by
  intro ds R h
  unfold s_edge at h
  split at h
  · rfl
  · exact h.elim
theorem o_edge : Owes 1 s_edge w_edge := by
  intro ds R h
  unfold s_edge at h
  split at h
  · unfold w_edge
    walk_at "dl"
    simp only [s_take]
    walk_at "go"
    exact h _
  · exact h.elim
def w_number : WS :=
  (wSeq (wAsg 3 (wCall s_take (aC (wV 0) (aC (wC (.int 6)) aN))))
    (wSeq (wIfS (wOr (wTB (wOp dEq (wVP 3) (wC (.int 0)))) (wTB (wOp dLe (wVP 2) (wVP 1)))) (wRet (wV 1)) wNx)
    (wSeq (wIfS (wTB (wOp dEq (wVP 3) (wC (.int 1)))) (wRet (wV 2)) wNx)
    (wSeq (wIfS (wTB (wOp dEq (wVP 3) (wC (.int 2)))) (wRet (wCB dMin (aC (wVP 2) (aC (wOp dAdd (wOp dAdd (wVP 1) (wC (.int 1))) (wCall s_take (aC (wV 0) (aC (wC (.int 2)) aN)))) aN)))) wNx)
    (wSeq (wIfS (wTB (wOp dEq (wVP 3) (wC (.int 3)))) (wRet (wCB dMax (aC (wVP 1) (aC (wOp dSub (wOp dSub (wVP 2) (wC (.int 1))) (wCall s_take (aC (wV 0) (aC (wC (.int 2)) aN)))) aN)))) wNx)
    (wRet (wOp dAdd (wVP 1) (wCall s_take (aC (wV 0) (aC (wOp dAdd (wOp dSub (wVP 2) (wVP 1)) (wC (.int 1))) aN))))))))))
def s_number : DS1 := fun ds R => match ds with
  | [.sto, .int lo, .int hi] => hi - lo + 1 < 2 ^ 300 ∧ ∀ r : Int, lo ≤ r → (r ≤ hi ∨ r = lo) → R (.int r)
  | _ => False
theorem l_number : ∀ ds R, s_number ds R → ds.length = 3 := by
  intro ds R h
  unfold s_number at h
  split at h
  · rfl
  · exact h.elim
theorem o_number : Owes 4 s_number w_number := by
  intro ds R h
  unfold s_number at h
  split at h
  · unfold w_number
    walk_at "dl"
    simp only [s_take]
    obtain ⟨h1, h⟩ := h
    walk_at "go"
    all_goals apply h <;> omega
  · exact h.elim
def w_pick : WS :=
  (wRet (wOp dIx (wVP 1) (wCall s_take (aC (wV 0) (aC (wCB dLen (aC (wVP 1) aN)) aN)))))
def s_pick : DS1 := fun ds R => match ds with
  | [.sto, .lst xs] => 0 < xs.length ∧ xs.length ≤ 1000000 ∧ ∀ x ∈ xs, R x
  | [.sto, .str s] => 0 < s.length ∧ s.length ≤ 1000000 ∧ ∀ c ∈ s.cps.toList, R (.str ⟨#[c]⟩)
  | _ => False
theorem l_pick : ∀ ds R, s_pick ds R → ds.length = 2 := by
  intro ds R h
  unfold s_pick at h
  split at h
  · rfl
  · rfl
  · exact h.elim
theorem o_pick : Owes 2 s_pick w_pick := by
  intro ds R h
  unfold s_pick at h
  split at h
  · unfold w_pick
    walk_at "dl"
    simp only [s_take]
    rename_i xs
    obtain ⟨h0, h1, h⟩ := h
    refine ⟨by omega, fun r r0 r1 => ?_⟩
    walk_at "dl"
    have l : r.toNat < xs.length := by omega
    exact ⟨_, atI_lit r0 (List.getElem?_eq_getElem l), h _ (List.getElem_mem l)⟩
  · unfold w_pick
    walk_at "dl"
    simp only [s_take]
    rename_i s
    obtain ⟨h0, h1, h⟩ := h
    refine ⟨h1, by omega, fun r r0 r1 => ?_⟩
    walk_at "dl"
    rw [len_cps] at h0 r1
    have l : r.toNat < s.cps.toList.length := by omega
    exact ⟨h1, _, atI_lit r0 (List.getElem?_eq_getElem l), h _ (List.getElem_mem l)⟩
  · exact h.elim
end DL
namespace DL
open PySem PySem.Spec PyProof.Rows L2 NW
local macro_rules | `(tactic| walk_at "dl1") => `(tactic| simp only [wTry, wAsgX, wDropX, wKd, wXf, wSeq, wAsg, wAsgO, wRet, wIfS, wNx, wPass, wBk, wCt, wDrop, wAug, wApp, wAppPop, wPop, wFor, wFz, wV, wVP, atV, atP, atO, wC, wOp, wCall, wCallN, wCB, aC, aN, wL, wTu, fL, wF, fCat, fList, wTB, wTru, wAnd, wOr, wNot, wAndV, wOrV, wNotV, wIf, wChain, wIsN, wNeg, dNeg, wSl, pN, pP, dSl, wLrev, dLrev, wIsi, wIsi2, iL, iT, iV, iS, iR1, iR2, gN, fLc, wYes, wiL,
  dAdd, dSub, dMul, dMulS, dMulL, dDiv, dMod, dLt, dLe, dGt, dGe, dEq, dNe, eqD, dIn, dNi, dIx, dTru, isNon, dLen, dInt, dAbs, dMax, dMin, dList, dTup, dStr, dIAdd, frzE, frz1, startD, List.map_cons, List.map_nil, List.length_cons, List.length_nil, List.replicate_succ, List.replicate_zero, List.cons_append, List.nil_append, List.append_nil, List.getElem?_cons_zero, List.getElem?_cons_succ, List.set_cons_zero, List.set_cons_succ, Nat.reduceSub, Nat.reduceAdd, if_true, if_false, ite_true, ite_false, reduceIte, Bool.false_eq_true, decide_true, decide_false, Bool.not_true, Bool.not_false, Bool.not_eq_true', decide_eq_true_eq, decide_eq_false_iff_not, isi_int_int, isi_int_bool, isi_bl_int, isi_bl_bool, isi_non_int, isi_non_bool, isi_str_int, isi_str_bool, isi_str_str, isi_lst_list, isi_tup_tuple, Option.some.injEq, exists_eq_left', exists_eq_left, DV.int.injEq, DV.str.injEq, DV.bl.injEq, List.cons.injEq, and_true, true_and])
local macro_rules | `(tactic| walk_at "dl") => `(tactic| try walk_at "dl1")
local macro_rules | `(tactic| walk_at "go") => `(tactic| repeat' (first
  | (intro _)
  | walk_at "dl1"
  | (refine ⟨by first | decide | omega, ?_⟩)
  | split))
end DL
namespace DL
open PySem PySem.Spec PyProof.Rows L2 NW
local macro_rules | `(tactic| walk_at "dl1") => `(tactic| simp only [wTry, wAsgX, wDropX, wKd, wXf, wSeq, wAsg, wAsgO, wRet, wIfS, wNx, wPass, wBk, wCt, wDrop, wAug, wApp, wAppPop, wPop, wFor, wFz, wV, wVP, atV, atP, atO, wC, wOp, wCall, wCallN, wCB, aC, aN, wL, wTu, fL, wF, fCat, fList, wTB, wTru, wAnd, wOr, wNot, wAndV, wOrV, wNotV, wIf, wChain, wIsN, wNeg, dNeg, wSl, pN, pP, dSl, wLrev, dLrev, wIsi, wIsi2, iL, iT, iV, iS, iR1, iR2, gN, fLc, wYes, wiL,
  dAdd, dSub, dMul, dMulS, dMulL, dDiv, dMod, dLt, dLe, dGt, dGe, dEq, dNe, eqD, dIn, dNi, dIx, dTru, isNon, dLen, dInt, dAbs, dMax, dMin, dList, dTup, dStr, dIAdd, frzE, frz1, startD, List.map_cons, List.map_nil, List.length_cons, List.length_nil, List.replicate_succ, List.replicate_zero, List.cons_append, List.nil_append, List.append_nil, List.getElem?_cons_zero, List.getElem?_cons_succ, List.set_cons_zero, List.set_cons_succ, Nat.reduceSub, Nat.reduceAdd, if_true, if_false, ite_true, ite_false, reduceIte, Bool.false_eq_true, decide_true, decide_false, Bool.not_true, Bool.not_false, Bool.not_eq_true', decide_eq_true_eq, decide_eq_false_iff_not, isi_int_int, isi_int_bool, isi_bl_int, isi_bl_bool, isi_non_int, isi_non_bool, isi_str_int, isi_str_bool, isi_str_str, isi_lst_list, isi_tup_tuple, Option.some.injEq, exists_eq_left', exists_eq_left, DV.int.injEq, DV.str.injEq, DV.bl.injEq, List.cons.injEq, and_true, true_and])
local macro_rules | `(tactic| walk_at "dl") => `(tactic| try walk_at "dl1")
local macro_rules | `(tactic| walk_at "go") => `(tactic| repeat' (first
  | (intro _)
  | walk_at "dl1"
  | (refine ⟨by first | decide | omega, ?_⟩)
  | split))
end DL
namespace DL
open PySem PySem.Spec PyProof.Rows L2 NW
def flD : Nat → DV → Prop
  | _, .non => True
  | _, .bl _ => True
  | _, .int _ => True
  | _, .str _ => True
  | n + 1, .lst xs => ∀ x ∈ xs, flD n x
  | n + 1, .tup xs => ∀ x ∈ xs, flD n x
  | _, _ => False
mutual
theorem is_dt {W : Wd} {H : Hp} : ∀ {v : V} {x : DV} {n : Nat}, Is W H v x → flD n x → ∃ d : DT, d.dep ≤ n ∧ NW.Is H v d ∧ ∀ {H' : Hp} {v' : V}, Is W H' v' x → NW.Is H' v' d
  | _, _, _, .non, _ => ⟨.non, Nat.zero_le _, .non, fun h => by cases h; exact .non⟩
  | _, _, _, .bl b, _ => ⟨.bl b, Nat.zero_le _, .bl b, fun h => by cases h; exact .bl _⟩
  | _, _, _, .int b, _ => ⟨.int b, Nat.zero_le _, .int b, fun h => by cases h; exact .int _⟩
  | _, _, _, .str b, _ => ⟨.str b, Nat.zero_le _, .str b, fun h => by cases h; exact .str _⟩
  | _, _, 0, .lst _ _ _ _, h => h.elim
  | _, _, n + 1, .lst h1 h2 h3 h4, h => by
    obtain ⟨ds, e, i, f⟩ := iss_dt h4 h
    exact ⟨.lst ds, Nat.succ_le_succ e, .lst h1 i h3, fun z => by
      cases z with
      | lst g1 g2 g3 g4 => exact .lst g1 (f g4) g3⟩
  | _, _, 0, .tup _ _ _ _, h => h.elim
  | _, _, n + 1, .tup h1 h2 h3 h4, h => by
    obtain ⟨ds, e, i, f⟩ := iss_dt h4 h
    exact ⟨.tup ds, Nat.succ_le_succ e, .tup h1 i h3, fun z => by
      cases z with
      | tup g1 g2 g3 g4 => exact .tup g1 (f g4) g3⟩
  | _, _, 0, .dic _ _ _ _ _ _, h => h.elim
  | _, _, _ + 1, .dic _ _ _ _ _ _, h => h.elim
  | _, _, 0, .obj _ _ _ _, h => h.elim
  | _, _, _ + 1, .obj _ _ _ _, h => h.elim
  | _, _, 0, .err _ _ _ _ _ _, h => h.elim
  | _, _, _ + 1, .err _ _ _ _ _ _, h => h.elim
  | _, _, 0, .err0 _ _, h => h.elim
  | _, _, _ + 1, .err0 _ _, h => h.elim
  | _, _, 0, .hot _ _ _ _, h => h.elim
  | _, _, _ + 1, .hot _ _ _ _, h => h.elim
  | _, _, 0, .sto _, h => h.elim
  | _, _, _ + 1, .sto _, h => h.elim
  | _, _, 0, .ktu _, h => h.elim
  | _, _, 0, .cls, h => h.elim
  | _, _, _ + 1, .ktu _, h => h.elim
  | _, _, _ + 1, .cls, h => h.elim
theorem iss_dt {W : Wd} {H : Hp} : ∀ {vs : List V} {xs : List DV} {n : Nat}, Iss W H vs xs → (∀ x ∈ xs, flD n x) → ∃ ds : List DT, depL ds ≤ n ∧ NW.Iss H vs ds ∧ ∀ {H' : Hp} {vs' : List V}, Iss W H' vs' xs → NW.Iss H' vs' ds
  | _, _, _, .nil, _ => ⟨[], Nat.zero_le _, .nil, fun h => by cases h; exact .nil⟩
  | _, _, n, .cons a t, h => by
    obtain ⟨d, e1, i1, f1⟩ := is_dt a (h _ List.mem_cons_self)
    obtain ⟨ds, e2, i2, f2⟩ := iss_dt t fun x hx => h x (List.mem_cons_of_mem _ hx)
    exact ⟨d :: ds, Nat.max_le.mpr ⟨e1, e2⟩, .cons i1 i2, fun z => by
      cases z with
      | cons b u => exact .cons (f1 b) (f2 u)⟩
end
/-- one and other are the same, of depth at most n -/
def s_same (n : Nat) : DS1 := fun ds R => match ds with
  | [x, y] => x = y ∧ flD (n - 1) x ∧ R (.bl true)
  | _ => False
theorem same_weak (n : Nat) : ∀ vs H Q E, dsp (s_same (n + 1)) vs H Q E → sp_same (n + 1) vs H Q E := fun vs H Q E q => by
  obtain ⟨W, ds, R, o, i, z, f⟩ := q
  unfold s_same at z
  split at z
  · obtain ⟨rfl, hf, r⟩ := z
    cases i with
    | cons a t =>
      cases t with
      | cons b t =>
        cases t
        obtain ⟨d, e, i1, g⟩ := is_dt a hf
        refine ⟨_, _, d, d, rfl, i1, g b, e, fun k H' s hk => ?_⟩
        obtain rfl : k = true := hk.mpr rfl
        exact f _ _ _ r (Kp.same s) (o.same s) (.bl true)
  · exact z.elim
theorem sel_plain {c : Str} (h : decide (c ∈ (["Same", "Inside", "Unlike", "Nailed", "Sealed", "Idle"] : List Str)) = false) : selD c = [.str "ValueError", .str "NestError", .str c] := by
  unfold selD kindsOf
  rw [if_neg (of_decide_eq_false h)]
  rfl
theorem sel_ref {c : Str} (h : decide (c ∈ (["Same", "Inside", "Unlike", "Nailed", "Sealed", "Idle"] : List Str)) = true) : selD c = [.str "ValueError", .str "NestError", .str "Refusal", .str c] := by
  unfold selD kindsOf
  rw [if_pos (of_decide_eq_true h)]
  rfl
theorem fl_strs (n : Nat) (ss : List Str) : flD (n + 1) (.lst (ss.map DV.str)) := by
  intro x hx
  obtain ⟨s, _, rfl⟩ := List.mem_map.mp hx
  cases n <;> trivial
theorem fl_sel (n : Nat) (c : Str) : flD (n + 1) (.lst (selD c)) := fl_strs n _
local macro_rules | `(tactic| walk_at "dl1") => `(tactic| simp only [wTry, wAsgX, wDropX, wKd, wXf, wSeq, wAsg, wAsgO, wRet, wIfS, wNx, wPass, wBk, wCt, wDrop, wAug, wApp, wAppPop, wPop, wFor, wFz, wV, wVP, atV, atP, atO, wC, wOp, wCall, wCallN, wCB, aC, aN, wL, wTu, fL, wF, fCat, fList, wTB, wTru, wAnd, wOr, wNot, wAndV, wOrV, wNotV, wIf, wChain, wIsN, wNeg, dNeg, wSl, pN, pP, dSl, wLrev, dLrev, wIsi, wIsi2, iL, iT, iV, iS, iR1, iR2, gN, fLc, wYes, wiL,
  dAdd, dSub, dMul, dMulS, dMulL, dDiv, dMod, dLt, dLe, dGt, dGe, dEq, dNe, eqD, dIn, dNi, dIx, dTru, isNon, dLen, dInt, dAbs, dMax, dMin, dList, dTup, dStr, dIAdd, frzE, frz1, startD, List.map_cons, List.map_nil, List.length_cons, List.length_nil, List.replicate_succ, List.replicate_zero, List.cons_append, List.nil_append, List.append_nil, List.getElem?_cons_zero, List.getElem?_cons_succ, List.set_cons_zero, List.set_cons_succ, Nat.reduceSub, Nat.reduceAdd, if_true, if_false, ite_true, ite_false, reduceIte, Bool.false_eq_true, decide_true, decide_false, Bool.not_true, Bool.not_false, Bool.not_eq_true', decide_eq_true_eq, decide_eq_false_iff_not, isi_int_int, isi_int_bool, isi_bl_int, isi_bl_bool, isi_non_int, isi_non_bool, isi_str_int, isi_str_bool, isi_str_str, isi_lst_list, isi_tup_tuple, Option.some.injEq, exists_eq_left', exists_eq_left, DV.int.injEq, DV.str.injEq, DV.bl.injEq, List.cons.injEq, and_true, true_and])
local macro_rules | `(tactic| walk_at "dl") => `(tactic| try walk_at "dl1")
local macro_rules | `(tactic| walk_at "go") => `(tactic| repeat' (first
  | (intro _)
  | walk_at "dl1"
  | (refine ⟨by first | decide | omega, ?_⟩)
  | split))
end DL
namespace DL
open PySem PySem.Spec PyProof.Rows L2 NW
structure ErrN (K : PySem.W.Frag) (C : Addr) (q : Str) (fls : List Str) (params : Arguments) (body : List Stmt) (scope : Scope) : Prop where
  o : OexC K C
  n : ∀ f ∈ fls, PySem.W.findIn K (.ref C) f = some none
  ex : ∃ fI fd, PySem.W.findIn K (.ref C) "__init__" = some (some (.ref fI)) ∧ PySem.W.typeIn K (.ref fI) = some (.type "function") ∧ FunD K "__init__" q params body scope [] [] fI fd
section
variable {X : Cx} {e : Expr} {r : WA} {w : WE}
def wEf (K : PySem.W.Frag) (L : List (Addr × Str)) (f : Str) (w : WE) : WE := fun ρ R => w ρ fun d => ∃ C ns xs x, d = .err C ns xs ∧ (C, f) ∈ L ∧ lkD ns xs f = some x ∧ R x
theorem def_ {K : PySem.W.Frag} {L : List (Addr × Str)} {f : Str} (F : ∀ c ∈ L, XfC K c.1 ∧ PySem.W.findIn K (.ref c.1) c.2 = some none) (h : PE X e (tXv K f (lift w))) : PE X e (lift (wEf K L f w)) := pe_weak h fun σ H Q q => by
  obtain ⟨W, own, ρ, R, o, i, z, g⟩ := q
  refine ⟨W, own, ρ, _, o, i, z, fun d v H1 r1 k1 o1 i1 => ?_⟩
  obtain ⟨C, ns, xs, x, rfl, hm, hx, r⟩ := r1
  cases i1 with
  | err h1 h2 h3 h4 h5 h6 =>
    obtain ⟨u, hu, iu⟩ := lk_ok h5 h6 hx
    exact ⟨_, _, C, _, u, rfl, h1, h2, hu, (F _ hm).1, (F _ hm).2, (g.mono k1).at o1 iu r⟩
  | err0 h1 h2 => cases hx
end
end DL
namespace DL
open PySem PySem.Spec PyProof.Rows L2 NW
local macro_rules | `(tactic| walk_at "dl1") => `(tactic| simp only [wTry, wAsgX, wDropX, wKd, wXf, wSeq, wAsg, wAsgO, wRet, wIfS, wNx, wPass, wBk, wCt, wDrop, wAug, wApp, wAppPop, wPop, wFor, wFz, wV, wVP, atV, atP, atO, wC, wOp, wCall, wCallN, wCB, aC, aN, wL, wTu, fL, wF, fCat, fList, wTB, wTru, wAnd, wOr, wNot, wAndV, wOrV, wNotV, wIf, wChain, wIsN, wNeg, dNeg, wSl, pN, pP, dSl, wLrev, dLrev, wIsi, wIsi2, iL, iT, iV, iS, iR1, iR2, gN, fLc, wYes, wiL,
  dAdd, dSub, dMul, dMulS, dMulL, dDiv, dMod, dLt, dLe, dGt, dGe, dEq, dNe, eqD, dIn, dNi, dIx, dTru, isNon, dLen, dInt, dAbs, dMax, dMin, dList, dTup, dStr, dIAdd, frzE, frz1, startD, List.map_cons, List.map_nil, List.length_cons, List.length_nil, List.replicate_succ, List.replicate_zero, List.cons_append, List.nil_append, List.append_nil, List.getElem?_cons_zero, List.getElem?_cons_succ, List.set_cons_zero, List.set_cons_succ, Nat.reduceSub, Nat.reduceAdd, if_true, if_false, ite_true, ite_false, reduceIte, Bool.false_eq_true, decide_true, decide_false, Bool.not_true, Bool.not_false, Bool.not_eq_true', decide_eq_true_eq, decide_eq_false_iff_not, isi_int_int, isi_int_bool, isi_bl_int, isi_bl_bool, isi_non_int, isi_non_bool, isi_str_int, isi_str_bool, isi_str_str, isi_lst_list, isi_tup_tuple, Option.some.injEq, exists_eq_left', exists_eq_left, DV.int.injEq, DV.str.injEq, DV.bl.injEq, List.cons.injEq, and_true, true_and])
local macro_rules | `(tactic| walk_at "dl") => `(tactic| try walk_at "dl1")
local macro_rules | `(tactic| walk_at "go") => `(tactic| repeat' (first
  | (intro _)
  | walk_at "dl1"
  | (refine ⟨by first | decide | omega, ?_⟩)
  | split))
def s_kinds (K : PySem.W.Frag) (L : List Str) : DS1 := fun ds R => match ds with
  | [.err C ns xs] => ∃ cn, cn ∈ L ∧ C = He.ga K cn ∧ R (.lst (selD cn))
  | _ => False
theorem sel_BadName : selD "BadName" = [.str "ValueError", .str "NestError", .str "BadName"] := sel_plain (by decide +kernel)
theorem in_BadName : ("BadName" : Str) ∈ allErr := by decide +kernel
theorem sel_BadWeight : selD "BadWeight" = [.str "ValueError", .str "NestError", .str "BadWeight"] := sel_plain (by decide +kernel)
theorem in_BadWeight : ("BadWeight" : Str) ∈ allErr := by decide +kernel
theorem sel_BadNumber : selD "BadNumber" = [.str "ValueError", .str "NestError", .str "BadNumber"] := sel_plain (by decide +kernel)
theorem in_BadNumber : ("BadNumber" : Str) ∈ allErr := by decide +kernel
theorem sel_BadCount : selD "BadCount" = [.str "ValueError", .str "NestError", .str "BadCount"] := sel_plain (by decide +kernel)
theorem in_BadCount : ("BadCount" : Str) ∈ allErr := by decide +kernel
theorem sel_Twice : selD "Twice" = [.str "ValueError", .str "NestError", .str "Twice"] := sel_plain (by decide +kernel)
theorem in_Twice : ("Twice" : Str) ∈ allErr := by decide +kernel
theorem sel_Short : selD "Short" = [.str "ValueError", .str "NestError", .str "Short"] := sel_plain (by decide +kernel)
theorem in_Short : ("Short" : Str) ∈ allErr := by decide +kernel
theorem sel_BadText : selD "BadText" = [.str "ValueError", .str "NestError", .str "BadText"] := sel_plain (by decide +kernel)
theorem in_BadText : ("BadText" : Str) ∈ allErr := by decide +kernel
theorem sel_Unbalanced : selD "Unbalanced" = [.str "ValueError", .str "NestError", .str "Unbalanced"] := sel_plain (by decide +kernel)
theorem in_Unbalanced : ("Unbalanced" : Str) ∈ allErr := by decide +kernel
theorem sel_Broken : selD "Broken" = [.str "ValueError", .str "NestError", .str "Broken"] := sel_plain (by decide +kernel)
theorem in_Broken : ("Broken" : Str) ∈ allErr := by decide +kernel
theorem sel_NotComing : selD "NotComing" = [.str "ValueError", .str "NestError", .str "NotComing"] := sel_plain (by decide +kernel)
theorem in_NotComing : ("NotComing" : Str) ∈ allErr := by decide +kernel
theorem sel_TooMany : selD "TooMany" = [.str "ValueError", .str "NestError", .str "TooMany"] := sel_plain (by decide +kernel)
theorem in_TooMany : ("TooMany" : Str) ∈ allErr := by decide +kernel
theorem sel_BadWish : selD "BadWish" = [.str "ValueError", .str "NestError", .str "BadWish"] := sel_plain (by decide +kernel)
theorem in_BadWish : ("BadWish" : Str) ∈ allErr := by decide +kernel
theorem sel_Clash : selD "Clash" = [.str "ValueError", .str "NestError", .str "Clash"] := sel_plain (by decide +kernel)
theorem in_Clash : ("Clash" : Str) ∈ allErr := by decide +kernel
theorem sel_OtherDoors : selD "OtherDoors" = [.str "ValueError", .str "NestError", .str "OtherDoors"] := sel_plain (by decide +kernel)
theorem in_OtherDoors : ("OtherDoors" : Str) ∈ allErr := by decide +kernel
theorem sel_NoStory : selD "NoStory" = [.str "ValueError", .str "NestError", .str "NoStory"] := sel_plain (by decide +kernel)
theorem in_NoStory : ("NoStory" : Str) ∈ allErr := by decide +kernel
theorem sel_BadOrder : selD "BadOrder" = [.str "ValueError", .str "NestError", .str "BadOrder"] := sel_plain (by decide +kernel)
theorem in_BadOrder : ("BadOrder" : Str) ∈ allErr := by decide +kernel
theorem sel_OrderRefused : selD "OrderRefused" = [.str "ValueError", .str "NestError", .str "OrderRefused"] := sel_plain (by decide +kernel)
theorem in_OrderRefused : ("OrderRefused" : Str) ∈ allErr := by decide +kernel
theorem sel_OutOfSteps : selD "OutOfSteps" = [.str "ValueError", .str "NestError", .str "OutOfSteps"] := sel_plain (by decide +kernel)
theorem in_OutOfSteps : ("OutOfSteps" : Str) ∈ allErr := by decide +kernel
theorem sel_NotEmpty : selD "NotEmpty" = [.str "ValueError", .str "NestError", .str "NotEmpty"] := sel_plain (by decide +kernel)
theorem in_NotEmpty : ("NotEmpty" : Str) ∈ allErr := by decide +kernel
theorem sel_NoChange : selD "NoChange" = [.str "ValueError", .str "NestError", .str "NoChange"] := sel_plain (by decide +kernel)
theorem in_NoChange : ("NoChange" : Str) ∈ allErr := by decide +kernel
theorem sel_NothingDone : selD "NothingDone" = [.str "ValueError", .str "NestError", .str "NothingDone"] := sel_plain (by decide +kernel)
theorem in_NothingDone : ("NothingDone" : Str) ∈ allErr := by decide +kernel
theorem sel_BadClaim : selD "BadClaim" = [.str "ValueError", .str "NestError", .str "BadClaim"] := sel_plain (by decide +kernel)
theorem in_BadClaim : ("BadClaim" : Str) ∈ allErr := by decide +kernel
theorem sel_OtherYard : selD "OtherYard" = [.str "ValueError", .str "NestError", .str "OtherYard"] := sel_plain (by decide +kernel)
theorem in_OtherYard : ("OtherYard" : Str) ∈ allErr := by decide +kernel
theorem sel_Unknown : selD "Unknown" = [.str "ValueError", .str "NestError", .str "Unknown"] := sel_plain (by decide +kernel)
theorem in_Unknown : ("Unknown" : Str) ∈ allErr := by decide +kernel
theorem sel_NoHolder : selD "NoHolder" = [.str "ValueError", .str "NestError", .str "NoHolder"] := sel_plain (by decide +kernel)
theorem in_NoHolder : ("NoHolder" : Str) ∈ allErr := by decide +kernel
theorem sel_Loop : selD "Loop" = [.str "ValueError", .str "NestError", .str "Loop"] := sel_plain (by decide +kernel)
theorem in_Loop : ("Loop" : Str) ∈ allErr := by decide +kernel
theorem sel_Same : selD "Same" = [.str "ValueError", .str "NestError", .str "Refusal", .str "Same"] := sel_ref (by decide +kernel)
theorem in_Same : ("Same" : Str) ∈ allErr := by decide +kernel
theorem sel_Inside : selD "Inside" = [.str "ValueError", .str "NestError", .str "Refusal", .str "Inside"] := sel_ref (by decide +kernel)
theorem in_Inside : ("Inside" : Str) ∈ allErr := by decide +kernel
theorem sel_Unlike : selD "Unlike" = [.str "ValueError", .str "NestError", .str "Refusal", .str "Unlike"] := sel_ref (by decide +kernel)
theorem in_Unlike : ("Unlike" : Str) ∈ allErr := by decide +kernel
theorem sel_Nailed : selD "Nailed" = [.str "ValueError", .str "NestError", .str "Refusal", .str "Nailed"] := sel_ref (by decide +kernel)
theorem in_Nailed : ("Nailed" : Str) ∈ allErr := by decide +kernel
theorem sel_Sealed : selD "Sealed" = [.str "ValueError", .str "NestError", .str "Refusal", .str "Sealed"] := sel_ref (by decide +kernel)
theorem in_Sealed : ("Sealed" : Str) ∈ allErr := by decide +kernel
theorem sel_Idle : selD "Idle" = [.str "ValueError", .str "NestError", .str "Refusal", .str "Idle"] := sel_ref (by decide +kernel)
theorem in_Idle : ("Idle" : Str) ∈ allErr := by decide +kernel
theorem kd_call {K : PySem.W.Frag} {cn : Str} {ns : List Str} {xs : List DV} {R : DV → Prop} (h : cn ∈ allErr) (r : R (.lst (selD cn))) : s_kinds K allErr [.err (He.ga K cn) ns xs] R := ⟨cn, h, rfl, r⟩
local macro_rules | `(tactic| walk_at "mk") => `(tactic| repeat' (first
  | walk_at "dl1"
  | (refine ⟨by decide, ?_⟩)
  | (refine kd_call in_BadName ?_; rw [sel_BadName])
  | (refine kd_call in_BadWeight ?_; rw [sel_BadWeight])
  | (refine kd_call in_BadNumber ?_; rw [sel_BadNumber])
  | (refine kd_call in_BadCount ?_; rw [sel_BadCount])
  | (refine kd_call in_Twice ?_; rw [sel_Twice])
  | (refine kd_call in_Short ?_; rw [sel_Short])
  | (refine kd_call in_BadText ?_; rw [sel_BadText])
  | (refine kd_call in_Unbalanced ?_; rw [sel_Unbalanced])
  | (refine kd_call in_Broken ?_; rw [sel_Broken])
  | (refine kd_call in_NotComing ?_; rw [sel_NotComing])
  | (refine kd_call in_TooMany ?_; rw [sel_TooMany])
  | (refine kd_call in_BadWish ?_; rw [sel_BadWish])
  | (refine kd_call in_Clash ?_; rw [sel_Clash])
  | (refine kd_call in_OtherDoors ?_; rw [sel_OtherDoors])
  | (refine kd_call in_NoStory ?_; rw [sel_NoStory])
  | (refine kd_call in_BadOrder ?_; rw [sel_BadOrder])
  | (refine kd_call in_OrderRefused ?_; rw [sel_OrderRefused])
  | (refine kd_call in_OutOfSteps ?_; rw [sel_OutOfSteps])
  | (refine kd_call in_NotEmpty ?_; rw [sel_NotEmpty])
  | (refine kd_call in_NoChange ?_; rw [sel_NoChange])
  | (refine kd_call in_NothingDone ?_; rw [sel_NothingDone])
  | (refine kd_call in_BadClaim ?_; rw [sel_BadClaim])
  | (refine kd_call in_OtherYard ?_; rw [sel_OtherYard])
  | (refine kd_call in_Unknown ?_; rw [sel_Unknown])
  | (refine kd_call in_NoHolder ?_; rw [sel_NoHolder])
  | (refine kd_call in_Loop ?_; rw [sel_Loop])
  | (refine kd_call in_Same ?_; rw [sel_Same])
  | (refine kd_call in_Inside ?_; rw [sel_Inside])
  | (refine kd_call in_Unlike ?_; rw [sel_Unlike])
  | (refine kd_call in_Nailed ?_; rw [sel_Nailed])
  | (refine kd_call in_Sealed ?_; rw [sel_Sealed])
  | (refine kd_call in_Idle ?_; rw [sel_Idle])
  ))
mutual
def flB : Nat → DV → Bool
  | _, .non => true
  | _, .bl _ => true
  | _, .int _ => true
  | _, .str _ => true
  | n + 1, .lst xs => flBs n xs
  | n + 1, .tup xs => flBs n xs
  | _, _ => false
def flBs : Nat → List DV → Bool
  | _, [] => true
  | n, x :: xs => flB n x && flBs n xs
end
mutual
theorem fl_of : ∀ {n : Nat} {x : DV}, flB n x = true → flD n x
  | 0, .non, _ => trivial
  | _ + 1, .non, _ => trivial
  | 0, .bl _, _ => trivial
  | _ + 1, .bl _, _ => trivial
  | 0, .int _, _ => trivial
  | _ + 1, .int _, _ => trivial
  | 0, .str _, _ => trivial
  | _ + 1, .str _, _ => trivial
  | n + 1, .lst xs, h => fls_of (by unfold flB at h; exact h)
  | n + 1, .tup xs, h => fls_of (by unfold flB at h; exact h)
  | 0, .lst _, h => by unfold flB at h; cases h
  | 0, .tup _, h => by unfold flB at h; cases h
  | 0, .dic _ _, h => by unfold flB at h; cases h
  | _ + 1, .dic _ _, h => by unfold flB at h; cases h
  | 0, .obj _ _ _, h => by unfold flB at h; cases h
  | _ + 1, .obj _ _ _, h => by unfold flB at h; cases h
  | 0, .err _ _ _, h => by unfold flB at h; cases h
  | _ + 1, .err _ _ _, h => by unfold flB at h; cases h
  | 0, .hote _ _ _ _ _, h => by unfold flB at h; cases h
  | _ + 1, .hote _ _ _ _ _, h => by unfold flB at h; cases h
  | 0, .sto, h => by unfold flB at h; cases h
  | _ + 1, .sto, h => by unfold flB at h; cases h
theorem fls_of : ∀ {n : Nat} {xs : List DV}, flBs n xs = true → ∀ x ∈ xs, flD n x
  | _, [], _, x, hx => by cases hx
  | n, y :: ys, h, x, hx => by
    unfold flBs at h
    rw [Bool.and_eq_true] at h
    rcases List.mem_cons.mp hx with e | hx
    · rw [e]; exact fl_of h.1
    · exact fls_of h.2 x hx
end
def fldA (K : PySem.W.Frag) : List (Addr × Str) := allFld.map fun p => (He.ga K p.1, p.2)
theorem fld_in {K : PySem.W.Frag} {c f : Str} (h : (c, f) ∈ allFld) : (He.ga K c, f) ∈ fldA K := List.mem_map.mpr ⟨(c, f), h, rfl⟩
theorem same_run {n : Nat} {x y : DV} {R : DV → Prop} (e : x = y) (h : flB n x = true) (r : R (.bl true)) : s_same (n + 1) [x, y] R := ⟨e, fl_of h, r⟩
theorem fld_run {K : PySem.W.Frag} {c f : Str} {ns : List Str} {xs : List DV} {x : DV} {R : DV → Prop} (h : (c, f) ∈ allFld) (e : lkD ns xs f = some x) (r : R x) : ∃ C ns' xs' x, DV.err (He.ga K c) ns xs = .err C ns' xs' ∧ (C, f) ∈ fldA K ∧ lkD ns' xs' f = some x ∧ R x := ⟨_, _, _, _, rfl, fld_in h, e, r⟩
theorem fi_BadName_name : (("BadName" : Str), ("name" : Str)) ∈ allFld := by decide +kernel
theorem fi_Twice_name : (("Twice" : Str), ("name" : Str)) ∈ allFld := by decide +kernel
theorem fi_Unknown_name : (("Unknown" : Str), ("name" : Str)) ∈ allFld := by decide +kernel
theorem fi_NoHolder_name : (("NoHolder" : Str), ("name" : Str)) ∈ allFld := by decide +kernel
theorem fi_Loop_name : (("Loop" : Str), ("name" : Str)) ∈ allFld := by decide +kernel
theorem fi_Same_name : (("Same" : Str), ("name" : Str)) ∈ allFld := by decide +kernel
theorem fi_Nailed_name : (("Nailed" : Str), ("name" : Str)) ∈ allFld := by decide +kernel
theorem fi_Sealed_name : (("Sealed" : Str), ("name" : Str)) ∈ allFld := by decide +kernel
theorem fi_Idle_name : (("Idle" : Str), ("name" : Str)) ∈ allFld := by decide +kernel
theorem fi_Unbalanced_name : (("Unbalanced" : Str), ("name" : Str)) ∈ allFld := by decide +kernel
theorem fi_Clash_name : (("Clash" : Str), ("name" : Str)) ∈ allFld := by decide +kernel
theorem fi_NotEmpty_name : (("NotEmpty" : Str), ("name" : Str)) ∈ allFld := by decide +kernel
theorem fi_NoChange_name : (("NoChange" : Str), ("name" : Str)) ∈ allFld := by decide +kernel
theorem fi_BadWeight_weight : (("BadWeight" : Str), ("weight" : Str)) ∈ allFld := by decide +kernel
theorem fi_BadNumber_number : (("BadNumber" : Str), ("number" : Str)) ∈ allFld := by decide +kernel
theorem fi_Short_number : (("Short" : Str), ("number" : Str)) ∈ allFld := by decide +kernel
theorem fi_BadWish_at : (("BadWish" : Str), ("at" : Str)) ∈ allFld := by decide +kernel
theorem fi_BadClaim_claim : (("BadClaim" : Str), ("claim" : Str)) ∈ allFld := by decide +kernel
theorem fi_NotComing_bar : (("NotComing" : Str), ("bar" : Str)) ∈ allFld := by decide +kernel
theorem fi_OrderRefused_line : (("OrderRefused" : Str), ("line" : Str)) ∈ allFld := by decide +kernel
theorem fi_OrderRefused_reason : (("OrderRefused" : Str), ("reason" : Str)) ∈ allFld := by decide +kernel
theorem fi_OrderRefused_deeds : (("OrderRefused" : Str), ("deeds" : Str)) ∈ allFld := by decide +kernel
theorem fi_OutOfSteps_line : (("OutOfSteps" : Str), ("line" : Str)) ∈ allFld := by decide +kernel
theorem fi_OutOfSteps_deeds : (("OutOfSteps" : Str), ("deeds" : Str)) ∈ allFld := by decide +kernel
theorem fi_Unlike_first : (("Unlike" : Str), ("first" : Str)) ∈ allFld := by decide +kernel
theorem fi_Unlike_second : (("Unlike" : Str), ("second" : Str)) ∈ allFld := by decide +kernel
theorem fi_Unlike_first_weight : (("Unlike" : Str), ("first_weight" : Str)) ∈ allFld := by decide +kernel
theorem fi_Unlike_second_weight : (("Unlike" : Str), ("second_weight" : Str)) ∈ allFld := by decide +kernel
theorem fi_Inside_inner : (("Inside" : Str), ("inner" : Str)) ∈ allFld := by decide +kernel
theorem fi_Inside_outer : (("Inside" : Str), ("outer" : Str)) ∈ allFld := by decide +kernel
theorem fi_TooMany_many : (("TooMany" : Str), ("many" : Str)) ∈ allFld := by decide +kernel
theorem fi_TooMany_limit : (("TooMany" : Str), ("limit" : Str)) ∈ allFld := by decide +kernel
theorem fi_Broken_at : (("Broken" : Str), ("at" : Str)) ∈ allFld := by decide +kernel
theorem fi_Broken_reason : (("Broken" : Str), ("reason" : Str)) ∈ allFld := by decide +kernel
theorem fi_BadCount_what : (("BadCount" : Str), ("what" : Str)) ∈ allFld := by decide +kernel
theorem fi_BadCount_many : (("BadCount" : Str), ("many" : Str)) ∈ allFld := by decide +kernel
theorem fi_BadText_line : (("BadText" : Str), ("line" : Str)) ∈ allFld := by decide +kernel
theorem fi_BadText_fault : (("BadText" : Str), ("fault" : Str)) ∈ allFld := by decide +kernel
theorem fi_BadOrder_line : (("BadOrder" : Str), ("line" : Str)) ∈ allFld := by decide +kernel
theorem fi_BadOrder_fault : (("BadOrder" : Str), ("fault" : Str)) ∈ allFld := by decide +kernel
local macro_rules | `(tactic| walk_at "fd") => `(tactic| repeat' (first
  | walk_at "dl1"
  | (refine ⟨by decide, ?_⟩)
  | (refine ⟨Nat.le_of_ble_eq_true rfl, ?_⟩)
  | (refine same_run rfl rfl ?_)
  | (rw [if_neg (by decide)])
  | refine fld_run fi_BadName_name rfl ?_
  | refine fld_run fi_Twice_name rfl ?_
  | refine fld_run fi_Unknown_name rfl ?_
  | refine fld_run fi_NoHolder_name rfl ?_
  | refine fld_run fi_Loop_name rfl ?_
  | refine fld_run fi_Same_name rfl ?_
  | refine fld_run fi_Nailed_name rfl ?_
  | refine fld_run fi_Sealed_name rfl ?_
  | refine fld_run fi_Idle_name rfl ?_
  | refine fld_run fi_Unbalanced_name rfl ?_
  | refine fld_run fi_Clash_name rfl ?_
  | refine fld_run fi_NotEmpty_name rfl ?_
  | refine fld_run fi_NoChange_name rfl ?_
  | refine fld_run fi_BadWeight_weight rfl ?_
  | refine fld_run fi_BadNumber_number rfl ?_
  | refine fld_run fi_Short_number rfl ?_
  | refine fld_run fi_BadWish_at rfl ?_
  | refine fld_run fi_BadClaim_claim rfl ?_
  | refine fld_run fi_NotComing_bar rfl ?_
  | refine fld_run fi_OrderRefused_line rfl ?_
  | refine fld_run fi_OrderRefused_reason rfl ?_
  | refine fld_run fi_OrderRefused_deeds rfl ?_
  | refine fld_run fi_OutOfSteps_line rfl ?_
  | refine fld_run fi_OutOfSteps_deeds rfl ?_
  | refine fld_run fi_Unlike_first rfl ?_
  | refine fld_run fi_Unlike_second rfl ?_
  | refine fld_run fi_Unlike_first_weight rfl ?_
  | refine fld_run fi_Unlike_second_weight rfl ?_
  | refine fld_run fi_Inside_inner rfl ?_
  | refine fld_run fi_Inside_outer rfl ?_
  | refine fld_run fi_TooMany_many rfl ?_
  | refine fld_run fi_TooMany_limit rfl ?_
  | refine fld_run fi_Broken_at rfl ?_
  | refine fld_run fi_Broken_reason rfl ?_
  | refine fld_run fi_BadCount_what rfl ?_
  | refine fld_run fi_BadCount_many rfl ?_
  | refine fld_run fi_BadText_line rfl ?_
  | refine fld_run fi_BadText_fault rfl ?_
  | refine fld_run fi_BadOrder_line rfl ?_
  | refine fld_run fi_BadOrder_fault rfl ?_
  ))
end DL
namespace DL
open PySem PySem.Spec PyProof.Rows L2 NW
local macro_rules | `(tactic| walk_at "dl1") => `(tactic| simp only [wTry, wAsgX, wDropX, wKd, wXf, wSeq, wAsg, wAsgO, wRet, wIfS, wNx, wPass, wBk, wCt, wDrop, wAug, wApp, wAppPop, wPop, wFor, wFz, wV, wVP, atV, atP, atO, wC, wOp, wCall, wCallN, wCB, aC, aN, wL, wTu, fL, wF, fCat, fList, wTB, wTru, wAnd, wOr, wNot, wAndV, wOrV, wNotV, wIf, wChain, wIsN, wNeg, dNeg, wSl, pN, pP, dSl, wLrev, dLrev, wIsi, wIsi2, iL, iT, iV, iS, iR1, iR2, gN, fLc, wYes, wiL,
  dAdd, dSub, dMul, dMulS, dMulL, dDiv, dMod, dLt, dLe, dGt, dGe, dEq, dNe, eqD, dIn, dNi, dIx, dTru, isNon, dLen, dInt, dAbs, dMax, dMin, dList, dTup, dStr, dIAdd, frzE, frz1, startD, List.map_cons, List.map_nil, List.length_cons, List.length_nil, List.replicate_succ, List.replicate_zero, List.cons_append, List.nil_append, List.append_nil, List.getElem?_cons_zero, List.getElem?_cons_succ, List.set_cons_zero, List.set_cons_succ, Nat.reduceSub, Nat.reduceAdd, if_true, if_false, ite_true, ite_false, reduceIte, Bool.false_eq_true, decide_true, decide_false, Bool.not_true, Bool.not_false, Bool.not_eq_true', decide_eq_true_eq, decide_eq_false_iff_not, isi_int_int, isi_int_bool, isi_bl_int, isi_bl_bool, isi_non_int, isi_non_bool, isi_str_int, isi_str_bool, isi_str_str, isi_lst_list, isi_tup_tuple, Option.some.injEq, exists_eq_left', exists_eq_left, DV.int.injEq, DV.str.injEq, DV.bl.injEq, List.cons.injEq, and_true, true_and])
local macro_rules | `(tactic| walk_at "dl") => `(tactic| try walk_at "dl1")
local macro_rules | `(tactic| walk_at "go") => `(tactic| repeat' (first
  | (intro _)
  | walk_at "dl1"
  | (refine ⟨by first | decide | omega, ?_⟩)
  | split))
local macro_rules | `(tactic| walk_at "fd") => `(tactic| repeat' (first
  | walk_at "dl1"
  | (refine ⟨by decide, ?_⟩)
  | (refine ⟨Nat.le_of_ble_eq_true rfl, ?_⟩)
  | (refine same_run rfl rfl ?_)
  | (rw [if_neg (by decide)])
  | refine fld_run fi_BadName_name rfl ?_
  | refine fld_run fi_Twice_name rfl ?_
  | refine fld_run fi_Unknown_name rfl ?_
  | refine fld_run fi_NoHolder_name rfl ?_
  | refine fld_run fi_Loop_name rfl ?_
  | refine fld_run fi_Same_name rfl ?_
  | refine fld_run fi_Nailed_name rfl ?_
  | refine fld_run fi_Sealed_name rfl ?_
  | refine fld_run fi_Idle_name rfl ?_
  | refine fld_run fi_Unbalanced_name rfl ?_
  | refine fld_run fi_Clash_name rfl ?_
  | refine fld_run fi_NotEmpty_name rfl ?_
  | refine fld_run fi_NoChange_name rfl ?_
  | refine fld_run fi_BadWeight_weight rfl ?_
  | refine fld_run fi_BadNumber_number rfl ?_
  | refine fld_run fi_Short_number rfl ?_
  | refine fld_run fi_BadWish_at rfl ?_
  | refine fld_run fi_BadClaim_claim rfl ?_
  | refine fld_run fi_NotComing_bar rfl ?_
  | refine fld_run fi_OrderRefused_line rfl ?_
  | refine fld_run fi_OrderRefused_reason rfl ?_
  | refine fld_run fi_OrderRefused_deeds rfl ?_
  | refine fld_run fi_OutOfSteps_line rfl ?_
  | refine fld_run fi_OutOfSteps_deeds rfl ?_
  | refine fld_run fi_Unlike_first rfl ?_
  | refine fld_run fi_Unlike_second rfl ?_
  | refine fld_run fi_Unlike_first_weight rfl ?_
  | refine fld_run fi_Unlike_second_weight rfl ?_
  | refine fld_run fi_Inside_inner rfl ?_
  | refine fld_run fi_Inside_outer rfl ?_
  | refine fld_run fi_TooMany_many rfl ?_
  | refine fld_run fi_TooMany_limit rfl ?_
  | refine fld_run fi_Broken_at rfl ?_
  | refine fld_run fi_Broken_reason rfl ?_
  | refine fld_run fi_BadCount_what rfl ?_
  | refine fld_run fi_BadCount_many rfl ?_
  | refine fld_run fi_BadText_line rfl ?_
  | refine fld_run fi_BadText_fault rfl ?_
  | refine fld_run fi_BadOrder_line rfl ?_
  | refine fld_run fi_BadOrder_fault rfl ?_
  ))
theorem isE_uns {W : Wd} {H : Hp} (n : Nat) : IsE W (fun _ => none) H (List.replicate n none) (List.replicate n .un) := by
  refine ⟨by rw [List.length_replicate, List.length_replicate], fun i d e => ?_, fun i d e => ?_, fun i k d e => ?_, fun i A C k d e => ?_, fun _ _ z => nomatch z⟩
  · have z := List.mem_of_getElem? e
    rw [List.mem_replicate] at z
    cases z.2
  · have z := List.mem_of_getElem? e
    rw [List.mem_replicate] at z
    cases z.2
  · have z := List.mem_of_getElem? e
    rw [List.mem_replicate] at z
    cases z.2
  · have z := List.mem_of_getElem? e
    rw [List.mem_replicate] at z
    cases z.2
theorem isE_cons {W : Wd} {H : Hp} {v : V} {d : DV} {σ : L2.St} {ρ : Env} (h : Is W H v d) (t : IsE W (fun _ => none) H σ ρ) : IsE W (fun _ => none) H (some v :: σ) (.dt d :: ρ) := by
  refine ⟨by rw [List.length_cons, List.length_cons, t.len], fun i x e => ?_, fun i x e => ?_, fun i k x e => ?_, fun i A C k x e => ?_, fun _ _ z => nomatch z⟩
  · match i, e with
    | 0, e =>
      have e : d = x := Sl.dt.inj (Option.some.inj e)
      subst e
      exact ⟨v, rfl, h⟩
    | i + 1, e => exact t.dt i x e
  · match i, e with
    | 0, e => cases e
    | i + 1, e =>
      obtain ⟨a, us, z, _⟩ := t.ow i x e
      cases z
  · match i, e with
    | 0, e => cases e
    | i + 1, e =>
      obtain ⟨a, us, z, _⟩ := t.od i k x e
      cases z
  · match i, e with
    | 0, e => cases e
    | i + 1, e =>
      obtain ⟨a, us, z, _⟩ := t.oi i A C k x e
      cases z
theorem isE_un {W : Wd} {H : Hp} {v : Option V} {σ : L2.St} {ρ : Env} (t : IsE W (fun _ => none) H σ ρ) : IsE W (fun _ => none) H (v :: σ) (.un :: ρ) := by
  refine ⟨by rw [List.length_cons, List.length_cons, t.len], fun i x e => ?_, fun i x e => ?_, fun i k x e => ?_, fun i A C k x e => ?_, fun _ _ z => nomatch z⟩
  · match i, e with
    | 0, e => cases e
    | i + 1, e => exact t.dt i x e
  · match i, e with
    | 0, e => cases e
    | i + 1, e =>
      obtain ⟨a, us, z, _⟩ := t.ow i x e
      cases z
  · match i, e with
    | 0, e => cases e
    | i + 1, e =>
      obtain ⟨a, us, z, _⟩ := t.od i k x e
      cases z
  · match i, e with
    | 0, e => cases e
    | i + 1, e =>
      obtain ⟨a, us, z, _⟩ := t.oi i A C k x e
      cases z
theorem law_start {Ex : L2.WX} {w : WS} {H : Hp} {st : Addr} {a : V} {n : Nat} {Q : VK} (hs : Sto H st) (q : ∀ H', Q (.bl true) H') (h : w { nx := fun _ => False, rt := fun d => d = .bl true } (.un :: .dt .sto :: List.replicate n .un)) :
    liftS Ex w { nx := fun _ H' => Q .non H', rt := Q } (some a :: some (.ref st) :: List.replicate n none) H := by
  have e0 : (⟨some st, fun _ => False, H⟩ : Bs).w (fun _ => none) = ⟨some st, fun _ => False⟩ := w_none
  have he : IsE (⟨some st, fun _ => False⟩ : Wd) (fun _ => none) H (some a :: some (.ref st) :: List.replicate n none) (.un :: .dt .sto :: List.replicate n .un) := isE_un (isE_cons (.sto rfl) (isE_uns n))
  refine ⟨⟨some st, fun _ => False, H⟩, fun _ => none, _, _, ⟨hs, Kp.refl _ _, by rw [e0]; exact ⟨hs, fun _ z => z.elim⟩, by rw [e0]; exact he, (fun _ _ z => nomatch z), (fun _ _ _ z => nomatch z)⟩, h, ⟨fun _ _ _ _ z => z.elim, fun _ _ _ _ z => z.elim, fun _ _ _ _ z => z.elim, fun d v H' r k o i => ?_, fun _ _ _ _ _ _ _ _ _ z => z.elim⟩⟩
  have r : d = .bl true := r
  subst r
  cases i
  exact q H'
def sp_lawS (K : PySem.W.Frag) : Sp := fun vs H Q _ => ∃ (a : Addr) (ns : List Int), vs = [.ref a] ∧ SqL K H a (ns.map V.int) ∧ ∀ H', Q (.bl true) H'
theorem l_lawS (K : PySem.W.Frag) : ∀ vs H Q E, sp_lawS K vs H Q E → vs.length = 1 := fun _ _ _ _ ⟨_, _, e, _⟩ => by rw [e]; rfl
def t_lawS (K : PySem.W.Frag) (Ex : L2.WX) (w : WS) : TS := tSeq (tAsg (tCall (sp_store K) [] E0 (tCons (tVar 0) tNil)) (gName 1)) (liftS Ex w)
theorem p_lawS (K : PySem.W.Frag) {Ex : L2.WX} {w : WS} {N : List Str} {n : Nat} (hN : N.length = n + 2) (h : w { nx := fun _ => False, rt := fun d => d = .bl true } (.un :: .dt .sto :: List.replicate n .un)) (vs : List V) (H : Hp) (Q : VK) (E : XK) (q : sp_lawS K vs H Q E) : t_lawS K Ex w { nx := fun _ H' => Q .non H', rt := Q } (L2.start N vs) H := by
  obtain ⟨a, ns, rfl, hs, q⟩ := q
  have e : L2.start N [V.ref a] = some (.ref a) :: none :: List.replicate n none := by
    unfold L2.start
    rw [hN]
    show some (V.ref a) :: List.replicate (n + 2 - 1) none = _
    rw [show n + 2 - 1 = n + 1 by omega, List.replicate_succ]
  rw [e]
  exact ⟨_, rfl, a, ns, rfl, hs, fun st H' S s g => law_start S q h⟩
end DL
namespace DL
open PySem PySem.Spec PyProof.Rows L2 NW
abbrev DSF := List DV → (List DV → Prop) → (DV → Prop) → Prop
def fCallN (s : DSF) (r : WA) : WF := fun ρ R => r ρ fun ds => s ds R fun _ => False
end DL
namespace DL
open PySem PySem.Spec PyProof.Rows L2 NW
local macro_rules | `(tactic| walk_at "dl1") => `(tactic| simp only [wTry, wAsgX, wDropX, wKd, wXf, wSeq, wAsg, wAsgO, wRet, wIfS, wNx, wPass, wBk, wCt, wDrop, wAug, wApp, wAppPop, wPop, wFor, wFz, wV, wVP, atV, atP, atO, wC, wOp, wCall, wCallN, wCB, aC, aN, wL, wTu, fL, wF, fCat, fList, wTB, wTru, wAnd, wOr, wNot, wAndV, wOrV, wNotV, wIf, wChain, wIsN, wNeg, dNeg, wSl, pN, pP, dSl, wLrev, dLrev, wIsi, wIsi2, iL, iT, iV, iS, iR1, iR2, gN, fLc, wYes, wiL,
  dAdd, dSub, dMul, dMulS, dMulL, dDiv, dMod, dLt, dLe, dGt, dGe, dEq, dNe, eqD, dIn, dNi, dIx, dTru, isNon, dLen, dInt, dAbs, dMax, dMin, dList, dTup, dStr, dIAdd, frzE, frz1, startD, List.map_cons, List.map_nil, List.length_cons, List.length_nil, List.replicate_succ, List.replicate_zero, List.cons_append, List.nil_append, List.append_nil, List.getElem?_cons_zero, List.getElem?_cons_succ, List.set_cons_zero, List.set_cons_succ, Nat.reduceSub, Nat.reduceAdd, if_true, if_false, ite_true, ite_false, reduceIte, Bool.false_eq_true, decide_true, decide_false, Bool.not_true, Bool.not_false, Bool.not_eq_true', decide_eq_true_eq, decide_eq_false_iff_not, isi_int_int, isi_int_bool, isi_bl_int, isi_bl_bool, isi_non_int, isi_non_bool, isi_str_int, isi_str_bool, isi_str_str, isi_lst_list, isi_tup_tuple, Option.some.injEq, exists_eq_left', exists_eq_left, DV.int.injEq, DV.str.injEq, DV.bl.injEq, List.cons.injEq, and_true, true_and])
local macro_rules | `(tactic| walk_at "dl") => `(tactic| try walk_at "dl1")
local macro_rules | `(tactic| walk_at "go") => `(tactic| repeat' (first
  | (intro _)
  | walk_at "dl1"
  | (refine ⟨by first | decide | omega, ?_⟩)
  | split))
end DL
namespace DL
open PySem PySem.Spec PyProof.Rows L2 NW
local macro_rules | `(tactic| walk_at "dl1") => `(tactic| simp only [wTry, wAsgX, wDropX, wKd, wXf, wSeq, wAsg, wAsgO, wRet, wIfS, wNx, wPass, wBk, wCt, wDrop, wAug, wApp, wAppPop, wPop, wFor, wFz, wV, wVP, atV, atP, atO, wC, wOp, wCall, wCallN, wCB, aC, aN, wL, wTu, fL, wF, fCat, fList, wTB, wTru, wAnd, wOr, wNot, wAndV, wOrV, wNotV, wIf, wChain, wIsN, wNeg, dNeg, wSl, pN, pP, dSl, wLrev, dLrev, wIsi, wIsi2, iL, iT, iV, iS, iR1, iR2, gN, fLc, wYes, wiL,
  dAdd, dSub, dMul, dMulS, dMulL, dDiv, dMod, dLt, dLe, dGt, dGe, dEq, dNe, eqD, dIn, dNi, dIx, dTru, isNon, dLen, dInt, dAbs, dMax, dMin, dList, dTup, dStr, dIAdd, frzE, frz1, startD, List.map_cons, List.map_nil, List.length_cons, List.length_nil, List.replicate_succ, List.replicate_zero, List.cons_append, List.nil_append, List.append_nil, List.getElem?_cons_zero, List.getElem?_cons_succ, List.set_cons_zero, List.set_cons_succ, Nat.reduceSub, Nat.reduceAdd, if_true, if_false, ite_true, ite_false, reduceIte, Bool.false_eq_true, decide_true, decide_false, Bool.not_true, Bool.not_false, Bool.not_eq_true', decide_eq_true_eq, decide_eq_false_iff_not, isi_int_int, isi_int_bool, isi_bl_int, isi_bl_bool, isi_non_int, isi_non_bool, isi_str_int, isi_str_bool, isi_str_str, isi_lst_list, isi_tup_tuple, Option.some.injEq, exists_eq_left', exists_eq_left, DV.int.injEq, DV.str.injEq, DV.bl.injEq, List.cons.injEq, and_true, true_and])
local macro_rules | `(tactic| walk_at "dl") => `(tactic| try walk_at "dl1")
local macro_rules | `(tactic| walk_at "go") => `(tactic| repeat' (first
  | (intro _)
  | walk_at "dl1"
  | (refine ⟨by first | decide | omega, ?_⟩)
  | split))
def w_shuffled : WS :=
  (wSeq (wAsgO 2 (fList (wVP 1)))
    (wSeq (wAsgO 3 (fL aN))
    (wSeq (wFor (iR1 (aC (wCB dLen (aC (wVP 1) aN)) aN)) (gN 4) (wAppPop 3 2 (wCall s_take (aC (wV 0) (aC (wCB dLen (aC (wVP 2) aN)) aN)))))
    (wRet (wV 3)))))
end DL
namespace DL
open PySem PySem.Spec PyProof.Rows L2 NW
local macro_rules | `(tactic| walk_at "dl1") => `(tactic| simp only [wTry, wAsgX, wDropX, wKd, wXf, wSeq, wAsg, wAsgO, wRet, wIfS, wNx, wPass, wBk, wCt, wDrop, wAug, wApp, wAppPop, wPop, wFor, wFz, wV, wVP, atV, atP, atO, wC, wOp, wCall, wCallN, wCB, aC, aN, wL, wTu, fL, wF, fCat, fList, wTB, wTru, wAnd, wOr, wNot, wAndV, wOrV, wNotV, wIf, wChain, wIsN, wNeg, dNeg, wSl, pN, pP, dSl, wLrev, dLrev, wIsi, wIsi2, iL, iT, iV, iS, iR1, iR2, gN, fLc, wYes, wiL,
  dAdd, dSub, dMul, dMulS, dMulL, dDiv, dMod, dLt, dLe, dGt, dGe, dEq, dNe, eqD, dIn, dNi, dIx, dTru, isNon, dLen, dInt, dAbs, dMax, dMin, dList, dTup, dStr, dIAdd, frzE, frz1, startD, List.map_cons, List.map_nil, List.length_cons, List.length_nil, List.replicate_succ, List.replicate_zero, List.cons_append, List.nil_append, List.append_nil, List.getElem?_cons_zero, List.getElem?_cons_succ, List.set_cons_zero, List.set_cons_succ, Nat.reduceSub, Nat.reduceAdd, if_true, if_false, ite_true, ite_false, reduceIte, Bool.false_eq_true, decide_true, decide_false, Bool.not_true, Bool.not_false, Bool.not_eq_true', decide_eq_true_eq, decide_eq_false_iff_not, isi_int_int, isi_int_bool, isi_bl_int, isi_bl_bool, isi_non_int, isi_non_bool, isi_str_int, isi_str_bool, isi_str_str, isi_lst_list, isi_tup_tuple, Option.some.injEq, exists_eq_left', exists_eq_left, DV.int.injEq, DV.str.injEq, DV.bl.injEq, List.cons.injEq, and_true, true_and])
local macro_rules | `(tactic| walk_at "dl") => `(tactic| try walk_at "dl1")
local macro_rules | `(tactic| walk_at "go") => `(tactic| repeat' (first
  | (intro _)
  | walk_at "dl1"
  | (refine ⟨by first | decide | omega, ?_⟩)
  | split))
def wCallK (s : DS2) (r rk : WA) : WE := fun ρ R => r ρ fun ds => rk ρ fun ks => ds.length = 1 ∧ ks.length = 1 ∧ s (ds ++ ks) R fun _ => False
def wDropK (s : DS2) (r rk : WA) : WS := fun E ρ => r ρ fun ds => rk ρ fun ks => ds.length = 1 ∧ ks.length = 1 ∧ s (ds ++ ks) (fun _ => E.nx ρ) fun x => E.xc x ρ
end DL
namespace DL
open PySem PySem.Spec PyProof.Rows L2 NW
def hasK (ks : List Key) (k : Key) : Bool := ks.any fun k' => decide (k' = k)
theorem hasK_iff {ks : List Key} {k : Key} : hasK ks k = true ↔ k ∈ ks := by
  unfold hasK
  rw [List.any_eq_true]
  constructor
  · rintro ⟨x, hx, e⟩; rw [← of_decide_eq_true e]; exact hx
  · intro h; exact ⟨k, h, decide_eq_true rfl⟩
def putKs (ks : List Key) (k : Key) : List Key := if hasK ks k = true then ks else ks ++ [k]
def putXs (ks : List Key) (xs : List DV) (k : Key) (v : DV) : List DV := if hasK ks k = true then List.zipWith (fun k' x => if k' = k then v else x) ks xs else xs ++ [v]
theorem any_key (kvs : List (Key × V)) (k : Key) : (kvs.any fun kv => decide (kv.1 = k)) = hasK (kvs.map (·.1)) k := by
  unfold hasK
  rw [List.any_map]
  rfl
theorem put_keys (kvs : List (Key × V)) (k : Key) (v : V) : (putK kvs k v).map (·.1) = putKs (kvs.map (·.1)) k := by
  unfold putK putKs
  rw [any_key]
  split
  · rw [List.map_map]
    refine List.map_congr_left fun x _ => ?_
    show (if x.1 = k then (x.1, v) else x).1 = x.1
    split <;> rfl
  · rw [List.map_append]
    rfl
theorem putKs_nodup {ks : List Key} {k : Key} (h : ks.Nodup) : (putKs ks k).Nodup := by
  unfold putKs
  split
  · exact h
  · rename_i n
    rw [List.nodup_append]
    exact ⟨h, List.pairwise_singleton _ _, fun a ha b hb e => n (hasK_iff.mpr (by rw [List.mem_singleton.mp hb] at e; rw [← e]; exact ha))⟩
section
variable {W : Wd} {H : Hp}
theorem iss_zip {k : Key} {v : V} {d : DV} (hv : Is W H v d) : ∀ {kvs : List (Key × V)} {xs : List DV}, Iss W H (kvs.map (·.2)) xs → Iss W H ((kvs.map fun kv => if kv.1 = k then (kv.1, v) else kv).map (·.2)) (List.zipWith (fun k' x => if k' = k then d else x) (kvs.map (·.1)) xs)
  | [], _, h => by cases h; exact .nil
  | p :: kvs, _, h => by
    cases h with
    | cons h1 h2 =>
      refine .cons ?_ (iss_zip hv h2)
      by_cases e : p.1 = k
      · show Is W H (if p.1 = k then (p.1, v) else p).2 (if p.1 = k then d else _)
        rw [if_pos e, if_pos e]; exact hv
      · show Is W H (if p.1 = k then (p.1, v) else p).2 (if p.1 = k then d else _)
        rw [if_neg e, if_neg e]; exact h1
theorem put_iss {kvs : List (Key × V)} {xs : List DV} {k : Key} {v : V} {d : DV} (h : Iss W H (kvs.map (·.2)) xs) (hv : Is W H v d) : Iss W H ((putK kvs k v).map (·.2)) (putXs (kvs.map (·.1)) xs k d) := by
  unfold putK putXs
  rw [any_key]
  split
  · exact iss_zip hv h
  · rw [List.map_append]
    exact h.app (.cons hv .nil)
end
def asK (d : DV) (R : Key → Prop) : Prop := match d with
  | .int i => R (.inl i)
  | .str s => R (.inr s)
  | _ => False
theorem asK_ex {d : DV} {R : Key → Prop} (h : asK d R) : ∃ k, R k ∧ ∀ {W : Wd} {H : Hp} {v : V}, Is W H v d → v = kV k := by
  unfold asK at h
  split at h
  · exact ⟨_, h, fun i => by cases i; rfl⟩
  · exact ⟨_, h, fun i => by cases i; rfl⟩
  · exact h.elim
def atD (R : List Key → List DV → Prop) : Option Sl → Prop
  | some (.od ks xs) => R ks xs
  | _ => False
theorem atD_ex {R : List Key → List DV → Prop} {o : Option Sl} (h : atD R o) : ∃ ks xs, o = some (.od ks xs) ∧ R ks xs := by
  unfold atD at h
  split at h
  · exact ⟨_, _, rfl, h⟩
  · exact h.elim
/-- a dict that is read: one's own, or data -/
def atDR (R : List Key → List DV → Prop) : Option Sl → Prop
  | some (.od ks xs) => R ks xs
  | some (.dt (.dic ks xs)) => R ks xs
  | _ => False
theorem atDR_ex {R : List Key → List DV → Prop} {o : Option Sl} (h : atDR R o) : ∃ ks xs, (o = some (.od ks xs) ∨ o = some (.dt (.dic ks xs))) ∧ R ks xs := by
  unfold atDR at h
  split at h
  · exact ⟨_, _, .inl rfl, h⟩
  · exact ⟨_, _, .inr rfl, h⟩
  · exact h.elim
theorem IsE.dd {W : Wd} {own : Nat → Option Addr} {H : Hp} {σ : L2.St} {ρ : Env} {i : Nat} {ks : List Key} {xs : List DV} (h : IsE W own H σ ρ) (e : ρ[i]? = some (.od ks xs) ∨ ρ[i]? = some (.dt (.dic ks xs))) :
    ∃ p kvs, σ[i]? = some (some (.ref p)) ∧ Rd H p (.dK kvs) ∧ kvs.map (·.1) = ks ∧ Iss W H (kvs.map (·.2)) xs := by
  rcases e with e | e
  · obtain ⟨p, kvs, g1, g2, g3, ⟨g4, g6, g7⟩, g5⟩ := h.od i ks xs e
    exact ⟨p, kvs, g2, .inl g3, g6, g5⟩
  · obtain ⟨v, g1, g2⟩ := h.dt i _ e
    cases g2 with
    | dic a1 a2 a3 a4 a5 a6 => exact ⟨_, _, g1, a1, a4, a6⟩
theorem valV_mem {kvs : List (Key × V)} {k : Key} : (valV kvs k).isSome = hasK (kvs.map (·.1)) k := by
  rw [← valV_any, any_key]
section
variable {Ex : L2.WX} {X : Cx} {e a : Expr} {w wk wv : WE} {st : Stmt} {i : Nat}
/-- x = {} -/
def wAsgD (i : Nat) : WS := fun E ρ => E.nx (ρ.set i (.od [] []))
theorem dasgD (i : Nat) (h : PS X st (tAsg tDNewK (gName i))) : PS X st (liftS Ex (wAsgD i)) := ps_weak h fun D σ H q => by
  obtain ⟨B, own, ρ, E, c, h, d⟩ := q
  intro p hp
  exact d.nx _ _ _ _ h (c.setD (kv := []) i hp ⟨Nat.zero_le _, rfl, List.nodup_nil⟩ .nil)
/-- x[k] = v -/
def wPutD (i : Nat) (wk wv : WE) : WS := fun E ρ => atD (fun ks xs => wv ρ fun v => wk ρ fun k => asK k fun kk => ks.length < 1000000 ∧ E.nx (ρ.set i (.od (putKs ks kk) (putXs ks xs kk v)))) ρ[i]?
theorem dputD (i : Nat) (h : PS X st (sDPut (tVar i) (lift wk) (lift wv))) : PS X st (liftS Ex (wPutD i wk wv)) := ps_weak h fun D σ H q => by
  obtain ⟨B, own, ρ, E, c, h, d⟩ := q
  obtain ⟨ks, xs, hx, h⟩ := atD_ex h
  refine ⟨B.w own, own, ρ, _, c.ok, c.e, h, fun dv v H1 r1 k1 o1 i1 => ?_⟩
  obtain ⟨p, kvs, g1, g2, g3, g4, g5⟩ := c.e.od i ks xs hx
  refine ⟨.ref p, g2, B.w own, own, ρ, _, o1, c.e.mono c.ok k1, r1, fun dk u H2 r2 k2 o2 i2 => ?_⟩
  obtain ⟨kk, ⟨hl, r2⟩, ek⟩ := asK_ex r2
  obtain rfl := ek i2
  have c2 := c.mono (k1.trans k2) o2
  obtain ⟨p', kvs', f1, f2, f3, ⟨f4, f6, f7⟩, f5⟩ := c2.e.od i ks xs hx
  rw [g1] at f1; cases f1
  have ll : kvs'.length < 1000000 := by
    rw [← f6, List.length_map] at hl; exact hl
  have hi : Iss (B.w own) H2 ((putK kvs' kk v).map (·.2)) (putXs ks xs kk dv) := by
    have z := put_iss (k := kk) f5 (i1.mono k2)
    rw [f6] at z
    exact z
  refine ⟨p, _, rfl, DPut.k f3 (Nat.lt_of_lt_of_le ll (by decide)), ?_⟩
  exact d.nx own _ _ _ r2 (c2.updD i g1 hx ⟨Nat.le_trans (length_putK _ _ _) ll, by rw [put_keys, f6], putKs_nodup f7⟩ hi)
/-- y in x, y not in x -/
def wInOD (n : Bool) (w : WE) (i : Nat) : WE := fun ρ R => atDR (fun ks _ => w ρ fun d => asK d fun k => R (.bl (if n then !hasK ks k else hasK ks k))) ρ[i]?
def wLenOD (i : Nat) : WE := fun ρ R => atDR (fun ks _ => R (.int (ks.length : Nat))) ρ[i]?
theorem hu_of {k : Nat} {A : Around} (h : Room k A) : A.units + 1 < cLine := by have := h.un; omega
end
end DL
namespace DL
open PySem PySem.Spec PyProof.Rows L2 NW
section
variable {X : Cx} {e : Expr} {r : WA} {s : DS2}
def wCallD (s : DS2) (dd : List DV) (r : WA) : WE := fun ρ R => r ρ fun ds => s (ds ++ dd) R fun _ => False
end
def W0of (W : Wd) (own : Nat → Option Addr) : Wd := ⟨W.st, fun a => W.hid a ∧ ¬ ∃ i : Nat, own i = some a⟩
theorem w0of_sub {W : Wd} {own : Nat → Option Addr} : ∀ a, (W0of W own).hid a → W.hid a := fun _ h => h.1
theorem isE_all {W : Wd} {own : Nat → Option Addr} {H : Hp} {σ : L2.St} {ρ : Env} (o : W.Ok H) (h : IsE W own H σ ρ) : IsE (W0of W own) (fun _ => none) H σ (frzE ρ) := by
  have okA : ∀ i a, own i = some a → (W0of W own).ok a := fun i a e => ⟨(o.h a (h.hd i a e)).2, fun z => z.2 ⟨i, e⟩⟩
  refine ⟨?_, fun i d e => ?_, fun i xs e => ?_, fun i ks xs e => ?_, fun i A C ns xs e => ?_, fun _ _ z => nomatch z⟩
  · unfold frzE; rw [List.length_map]; exact h.len
  · unfold frzE at e
    rw [List.getElem?_map] at e
    cases z : ρ[i]? with
    | none => rw [z] at e; cases e
    | some s =>
      rw [z] at e
      have e : frz1 s = .dt d := Option.some.inj e
      cases s with
      | un => cases e
      | dt d' =>
        cases e
        obtain ⟨v, h1, h2⟩ := h.dt i d z
        exact ⟨v, h1, Is.less (W := W) (W' := W0of W own) rfl w0of_sub h2⟩
      | ow xs =>
        cases e
        obtain ⟨a, vs, h1, h2, h3, h4, h5⟩ := h.ow i xs z
        exact ⟨_, h2, .lst h3 (okA i a h1) h4 (Iss.less (W := W) (W' := W0of W own) rfl w0of_sub h5)⟩
      | od ks xs =>
        cases e
        obtain ⟨a, kvs, h1, h2, h3, h4, h5⟩ := h.od i ks xs z
        exact ⟨_, h2, .dic (.inl h3) (okA i a h1) h4.1 h4.2.1 h4.2.2 (Iss.less (W := W) (W' := W0of W own) rfl w0of_sub h5)⟩
      | oi A C ns xs =>
        cases e
        obtain ⟨a, fs, h1, h2, ⟨dx, h3⟩, h4, h5⟩ := h.oi i A C ns xs z
        exact ⟨_, h2, .obj h3 (okA i a h1) h4.2.1 (Iss.less (W := W) (W' := W0of W own) rfl w0of_sub h5)⟩
  · unfold frzE at e
    rw [List.getElem?_map] at e
    cases z : ρ[i]? with
    | none => rw [z] at e; cases e
    | some s =>
      rw [z] at e
      cases s <;> cases (Option.some.inj e)
  · unfold frzE at e
    rw [List.getElem?_map] at e
    cases z : ρ[i]? with
    | none => rw [z] at e; cases e
    | some s =>
      rw [z] at e
      cases s <;> cases (Option.some.inj e)
  · unfold frzE at e
    rw [List.getElem?_map] at e
    cases z : ρ[i]? with
    | none => rw [z] at e; cases e
    | some s =>
      rw [z] at e
      cases s <;> cases (Option.some.inj e)
theorem ok_keep {W : Wd} {H H' : Hp} (o : W.Ok H) (k : Kp W.st H H') (s : StoW W.st H') : W.Ok H' := ⟨s, fun a ha => by
  obtain ⟨⟨u, hu⟩, n⟩ := o.h a ha
  exact ⟨⟨u, k.o hu n⟩, n⟩⟩
def wCallB (s : DS1) (r : WA) : WE := fun ρ R => r (frzE ρ) fun ds => s ds fun d => ∃ b, d = .bl b ∧ R (.bl b)
section
variable {X : Cx} {e : Expr} {r : WA} {s : DS1}
theorem dcallB (h : PE X e (tCall (dsp s) [] E0 (liftA r))) : PE X e (lift (wCallB s r)) := pe_weak h fun σ H Q q => by
  obtain ⟨W, own, ρ, R, o, i, z, f⟩ := q
  refine ⟨W0of W own, fun _ => none, frzE ρ, _, ok_less (W := W) (W' := W0of W own) rfl w0of_sub o, isE_all o i, z, fun ds vs H1 r1 k1 o1 i1 => ?_⟩
  show dsp s (vs ++ []) H1 Q E0
  rw [List.append_nil]
  refine ⟨W0of W own, ds, _, o1, i1, r1, fun d v H2 r2 k2 o2 i2 => ?_⟩
  obtain ⟨b, rfl, r2⟩ := r2
  cases i2
  exact f _ _ H2 r2 (k1.trans k2) (ok_keep o (k1.trans k2) o2.s) (.bl b)
end
end DL
namespace DL
open PySem PySem.Spec PyProof.Rows L2 NW
local macro_rules | `(tactic| walk_at "dl1") => `(tactic| simp only [wAsgD, wPutD, atD, atDR, asK, wInOD, wLenOD, fCallN, wCallB, wCallK, wCallD, wDropK, frzE, frz1, wTry, wAsgX, wDropX, wKd, wXf, wSeq, wAsg, wAsgO, wRet, wIfS, wNx, wPass, wBk, wCt, wDrop, wAug, wApp, wAppPop, wPop, wFor, wFz, wV, wVP, atV, atP, atO, wC, wOp, wCall, wCallN, wCB, aC, aN, wL, wTu, fL, wF, fCat, fList, wTB, wTru, wAnd, wOr, wNot, wAndV, wOrV, wNotV, wIf, wChain, wIsN, wNeg, dNeg, wSl, pN, pP, dSl, wLrev, dLrev, wIsi, wIsi2, iL, iT, iV, iS, iR1, iR2, gN, fLc, wYes, wiL,
  dAdd, dSub, dMul, dMulS, dMulL, dDiv, dMod, dLt, dLe, dGt, dGe, dEq, dNe, eqD, dIn, dNi, dIx, dTru, isNon, dLen, dInt, dAbs, dMax, dMin, dList, dTup, dStr, dIAdd, frzE, frz1, startD, List.map_cons, List.map_nil, List.length_cons, List.length_nil, List.replicate_succ, List.replicate_zero, List.cons_append, List.nil_append, List.append_nil, List.getElem?_cons_zero, List.getElem?_cons_succ, List.set_cons_zero, List.set_cons_succ, Nat.reduceSub, Nat.reduceAdd, if_true, if_false, ite_true, ite_false, reduceIte, Bool.false_eq_true, decide_true, decide_false, Bool.not_true, Bool.not_false, Bool.not_eq_true', decide_eq_true_eq, decide_eq_false_iff_not, isi_int_int, isi_int_bool, isi_bl_int, isi_bl_bool, isi_non_int, isi_non_bool, isi_str_int, isi_str_bool, isi_str_str, isi_lst_list, isi_tup_tuple, Option.some.injEq, exists_eq_left', exists_eq_left, DV.int.injEq, DV.str.injEq, DV.bl.injEq, List.cons.injEq, and_true, true_and])
local macro_rules | `(tactic| walk_at "dl") => `(tactic| try walk_at "dl1")
local macro_rules | `(tactic| walk_at "go") => `(tactic| repeat' (first
  | (intro _)
  | walk_at "dl1"
  | (refine ⟨by first | decide | omega, ?_⟩)
  | split))
end DL
namespace DL
open PySem PySem.Spec PyProof.Rows L2 NW
local macro_rules | `(tactic| walk_at "dl1") => `(tactic| simp only [wAsgD, wPutD, atD, atDR, asK, wInOD, wLenOD, fCallN, wCallB, wCallK, wCallD, wDropK, frzE, frz1, wTry, wAsgX, wDropX, wKd, wXf, wSeq, wAsg, wAsgO, wRet, wIfS, wNx, wPass, wBk, wCt, wDrop, wAug, wApp, wAppPop, wPop, wFor, wFz, wV, wVP, atV, atP, atO, wC, wOp, wCall, wCallN, wCB, aC, aN, wL, wTu, fL, wF, fCat, fList, wTB, wTru, wAnd, wOr, wNot, wAndV, wOrV, wNotV, wIf, wChain, wIsN, wNeg, dNeg, wSl, pN, pP, dSl, wLrev, dLrev, wIsi, wIsi2, iL, iT, iV, iS, iR1, iR2, gN, fLc, wYes, wiL,
  dAdd, dSub, dMul, dMulS, dMulL, dDiv, dMod, dLt, dLe, dGt, dGe, dEq, dNe, eqD, dIn, dNi, dIx, dTru, isNon, dLen, dInt, dAbs, dMax, dMin, dList, dTup, dStr, dIAdd, frzE, frz1, startD, List.map_cons, List.map_nil, List.length_cons, List.length_nil, List.replicate_succ, List.replicate_zero, List.cons_append, List.nil_append, List.append_nil, List.getElem?_cons_zero, List.getElem?_cons_succ, List.set_cons_zero, List.set_cons_succ, Nat.reduceSub, Nat.reduceAdd, if_true, if_false, ite_true, ite_false, reduceIte, Bool.false_eq_true, decide_true, decide_false, Bool.not_true, Bool.not_false, Bool.not_eq_true', decide_eq_true_eq, decide_eq_false_iff_not, isi_int_int, isi_int_bool, isi_bl_int, isi_bl_bool, isi_non_int, isi_non_bool, isi_str_int, isi_str_bool, isi_str_str, isi_lst_list, isi_tup_tuple, Option.some.injEq, exists_eq_left', exists_eq_left, DV.int.injEq, DV.str.injEq, DV.bl.injEq, List.cons.injEq, and_true, true_and])
local macro_rules | `(tactic| walk_at "dl") => `(tactic| try walk_at "dl1")
local macro_rules | `(tactic| walk_at "go") => `(tactic| repeat' (first
  | (intro _)
  | walk_at "dl1"
  | (refine ⟨by first | decide | omega, ?_⟩)
  | split))
end DL
namespace DL
open PySem PySem.Spec PyProof.Rows L2 NW
local macro_rules | `(tactic| walk_at "dl1") => `(tactic| simp only [wAsgD, wPutD, atD, atDR, asK, wInOD, wLenOD, fCallN, wCallB, wCallK, wCallD, wDropK, frzE, frz1, wTry, wAsgX, wDropX, wKd, wXf, wSeq, wAsg, wAsgO, wRet, wIfS, wNx, wPass, wBk, wCt, wDrop, wAug, wApp, wAppPop, wPop, wFor, wFz, wV, wVP, atV, atP, atO, wC, wOp, wCall, wCallN, wCB, aC, aN, wL, wTu, fL, wF, fCat, fList, wTB, wTru, wAnd, wOr, wNot, wAndV, wOrV, wNotV, wIf, wChain, wIsN, wNeg, dNeg, wSl, pN, pP, dSl, wLrev, dLrev, wIsi, wIsi2, iL, iT, iV, iS, iR1, iR2, gN, fLc, wYes, wiL,
  dAdd, dSub, dMul, dMulS, dMulL, dDiv, dMod, dLt, dLe, dGt, dGe, dEq, dNe, eqD, dIn, dNi, dIx, dTru, isNon, dLen, dInt, dAbs, dMax, dMin, dList, dTup, dStr, dIAdd, frzE, frz1, startD, List.map_cons, List.map_nil, List.length_cons, List.length_nil, List.replicate_succ, List.replicate_zero, List.cons_append, List.nil_append, List.append_nil, List.getElem?_cons_zero, List.getElem?_cons_succ, List.set_cons_zero, List.set_cons_succ, Nat.reduceSub, Nat.reduceAdd, if_true, if_false, ite_true, ite_false, reduceIte, Bool.false_eq_true, decide_true, decide_false, Bool.not_true, Bool.not_false, Bool.not_eq_true', decide_eq_true_eq, decide_eq_false_iff_not, isi_int_int, isi_int_bool, isi_bl_int, isi_bl_bool, isi_non_int, isi_non_bool, isi_str_int, isi_str_bool, isi_str_str, isi_lst_list, isi_tup_tuple, Option.some.injEq, exists_eq_left', exists_eq_left, DV.int.injEq, DV.str.injEq, DV.bl.injEq, List.cons.injEq, and_true, true_and])
local macro_rules | `(tactic| walk_at "dl") => `(tactic| try walk_at "dl1")
local macro_rules | `(tactic| walk_at "go") => `(tactic| repeat' (first
  | (intro _)
  | walk_at "dl1"
  | (refine ⟨by first | decide | omega, ?_⟩)
  | split))
def ts (k : Nat) : Str := toString (k : Int)
end DL
namespace DL
open PySem PySem.Spec PyProof.Rows L2 NW
local macro_rules | `(tactic| walk_at "dl1") => `(tactic| simp only [wAsgD, wPutD, atD, atDR, asK, wInOD, wLenOD, fCallN, wCallB, wCallK, wCallD, wDropK, frzE, frz1, wTry, wAsgX, wDropX, wKd, wXf, wSeq, wAsg, wAsgO, wRet, wIfS, wNx, wPass, wBk, wCt, wDrop, wAug, wApp, wAppPop, wPop, wFor, wFz, wV, wVP, atV, atP, atO, wC, wOp, wCall, wCallN, wCB, aC, aN, wL, wTu, fL, wF, fCat, fList, wTB, wTru, wAnd, wOr, wNot, wAndV, wOrV, wNotV, wIf, wChain, wIsN, wNeg, dNeg, wSl, pN, pP, dSl, wLrev, dLrev, wIsi, wIsi2, iL, iT, iV, iS, iR1, iR2, gN, fLc, wYes, wiL,
  dAdd, dSub, dMul, dMulS, dMulL, dDiv, dMod, dLt, dLe, dGt, dGe, dEq, dNe, eqD, dIn, dNi, dIx, dTru, isNon, dLen, dInt, dAbs, dMax, dMin, dList, dTup, dStr, dIAdd, frzE, frz1, startD, List.map_cons, List.map_nil, List.length_cons, List.length_nil, List.replicate_succ, List.replicate_zero, List.cons_append, List.nil_append, List.append_nil, List.getElem?_cons_zero, List.getElem?_cons_succ, List.set_cons_zero, List.set_cons_succ, Nat.reduceSub, Nat.reduceAdd, if_true, if_false, ite_true, ite_false, reduceIte, Bool.false_eq_true, decide_true, decide_false, Bool.not_true, Bool.not_false, Bool.not_eq_true', decide_eq_true_eq, decide_eq_false_iff_not, isi_int_int, isi_int_bool, isi_bl_int, isi_bl_bool, isi_non_int, isi_non_bool, isi_str_int, isi_str_bool, isi_str_str, isi_lst_list, isi_tup_tuple, Option.some.injEq, exists_eq_left', exists_eq_left, DV.int.injEq, DV.str.injEq, DV.bl.injEq, List.cons.injEq, and_true, true_and])
local macro_rules | `(tactic| walk_at "dl") => `(tactic| try walk_at "dl1")
local macro_rules | `(tactic| walk_at "go") => `(tactic| repeat' (first
  | (intro _)
  | walk_at "dl1"
  | (refine ⟨by first | decide | omega, ?_⟩)
  | split))
end DL
namespace NW
open PySem PySem.Spec PyProof.Rows L2
/-- the class at C has the method m, which keeps sp by level k -/
structure HasMAt (P : Program) (w : World) (K : PySem.W.Frag) (mg : Str → Option Value) (base : Heap) (C : Addr) (m : Str) (k : Nat) (ps : List Str) (sp : Sp) (f : Addr) (fd : FuncData) : Prop where
  m : Meth K C m f
  b : Binds K fd ps []
  ok : FnOk P w K mg base (L2N.CX P w) k f fd ps sp
def HasM (P : Program) (w : World) (K : PySem.W.Frag) (mg : Str → Option Value) (base : Heap) (C : Addr) (m : Str) (k : Nat) (ps : List Str) (sp : Sp) : Prop := ∃ f fd, HasMAt P w K mg base C m k ps sp f fd
/-- a property of it -/
structure HasPAt (P : Program) (w : World) (K : PySem.W.Frag) (mg : Str → Option Value) (base : Heap) (C : Addr) (m : Str) (k : Nat) (ps : List Str) (sp : Sp) (p g : Addr) (fd : FuncData) : Prop where
  p : PropOf K C m p g
  b : Binds K fd ps []
  ok : FnOk P w K mg base (L2N.CX P w) k g fd ps sp
def HasP (P : Program) (w : World) (K : PySem.W.Frag) (mg : Str → Option Value) (base : Heap) (C : Addr) (m : Str) (k : Nat) (ps : List Str) (sp : Sp) : Prop := ∃ p g fd, HasPAt P w K mg base C m k ps sp p g fd
section
variable {X : Cx} {C : Addr} {m : Str} {k j : Nat} {ps : List Str} {sp : Sp} {p pos apos : Pos} {o e : Expr} {es : List Expr} {ta : TE} {t : TA}
theorem pe_dm {pl : Sem Bool} (c : Cls X.K C) (h : HasM X.prog X.w X.K X.mg X.base C m k ps sp) (hr : Room j X.A) (he : PE X o ta) (ha : PA X (e :: es) t) (hk : k ≤ j := by decide)
    (hst : starEach (e :: es) X.env = (false, eval e X.env) :: starEach es X.env := by rfl) (hpl : (backTo pos (starEach es X.env)).any (·.1) = false := by rfl)
    (ht : eval (.Call (.Attribute o m apos) (e :: es) [] pos) X.env = (do
      let ov ← eval o X.env
      standAt apos.atName
      let (f, first) ← holding [ov] (getMethod ov m pl)
      callWith pos f first (backTo pos (starEach (e :: es) X.env)) (backToKw pos (keywordEach [] X.env))) := by rfl) : PE X (.Call (.Attribute o m apos) (e :: es) [] pos) (tMeth C m sp [] E0 ta t) := by
  obtain ⟨f, fd, F⟩ := h
  exact pe_meth he c F.m F.ok (hr.mono hk) F.b .nil passN ha hst hpl ht
theorem pe_dm0 {pl : Sem Bool} (c : Cls X.K C) (h : HasM X.prog X.w X.K X.mg X.base C m k ps sp) (hr : Room j X.A) (he : PE X o ta) (hk : k ≤ j := by decide)
    (ht : eval (.Call (.Attribute o m apos) [] [] pos) X.env = (do
      let ov ← eval o X.env
      standAt apos.atName
      let (f, first) ← holding [ov] (getMethod ov m pl)
      callWith pos f first (backTo pos (starEach [] X.env)) (backToKw pos (keywordEach [] X.env))) := by rfl) : PE X (.Call (.Attribute o m apos) [] [] pos) (tMeth C m sp [] E0 ta tNil) := by
  obtain ⟨f, fd, F⟩ := h
  exact pe_meth0 he c F.m F.ok (hr.mono hk) F.b .nil passN ht
theorem pe_dp (c : Cls X.K C) (h : HasP X.prog X.w X.K X.mg X.base C m k ps sp) (hr : Room j X.A) (he : PE X o ta) (hk : k + 1 ≤ j := by decide) (hab : attributeBase o m X.env (eval o X.env) = eval o X.env := by rfl) : PE X (.Attribute o m pos) (tProp C sp [] E0 ta) := by
  obtain ⟨q, g, fd, F⟩ := h
  exact pe_prop he c F.p F.ok (hr.mono hk) F.b .nil passN hab
end
section
variable {X : Cx} {C f : Addr} {m : Str} {k : Nat} {ps : List Str} {sp : Sp}
/-- a special method runs, anywhere below the body -/
theorem run_sm {A : Around} {fd : FuncData} {pins : List (Addr × Obj)} {σ : L2.St} {H : Hp} {s : Shared} {vs : List V} {us : List Value} {Q : VK} (F : HasMAt X.prog X.w X.K X.mg X.base C m k ps sp f fd) (hr : Room k A) (e0 : Env0 X.prog X.w X.K X.mg X.base A X.stack s H) (I : Inv X pins σ H s) (r : Vals vs us) (h : sp vs H Q E0) :
    wpAny (model X.prog X.w) A (call (.ref f) us) (EP X pins σ Q) X.xe s := by
  have hl := F.ok.len _ _ _ _ h
  refine wpAny_call (codeAny_mono (F.ok.run A X.stack s H ⟨us, []⟩ us vs Q E0 hr e0 (by
    have := F.b s us I.kIn (by rw [List.append_nil, ← r.length]; exact hl)
    simpa using this) r h) fun r s' hq => ?_)
  cases r with
  | error e => exact passN pins σ H s e s' I hq
  | ok fl =>
    cases fl with
    | ret w => exact I.after hq
    | next => exact False.elim hq
    | brk => exact False.elim hq
    | cont => exact False.elim hq
def rLenI (C : Addr) (sp : Sp) : List V → Hp → VK → Prop := fun xs H Q => ∃ a dx fs, xs = [.ref a] ∧ H a = some (.ins C dx fs) ∧ sp [.ref a] H (fun v H' => ∃ n : Int, v = .int n ∧ (0 ≤ n ∧ n < 2 ^ 63) ∧ Q (.int n) H') E0
theorem call_lenI {j : Nat} (h : HasM X.prog X.w X.K X.mg X.base C "__len__" k ps sp) (hr : Room j X.A) (hk : k + 1 ≤ j := by decide) : CallR X (.builtin "len") (rLenI C sp) := by
  intro pins s σ H xs us Q I r q
  obtain ⟨a, dx, fs, rfl, ha, q⟩ := q
  obtain ⟨f, fd, F⟩ := h
  obtain rfl := Vals.ref1 r
  obtain ⟨mA, O, _, _, _, _⟩ := ins_get I.hok ha
  obtain ⟨od, J, _⟩ := O.look
  obtain ⟨mm, hF⟩ := I.fr
  refine PySem.W.len_K hF I.ok.mod.kin J F.m.at_ F.m.fn (wpAny_mono (run_sm (vs := [V.ref a]) F (hr.mono hk).in1 I.env0.in1 I (.cons rfl .nil) q) (fun v s' hv => ?_) fun _ _ z => z)
  obtain ⟨v', H', I', rv, n, rfl, hn, q'⟩ := hv
  obtain ⟨t, rfl⟩ := (show ∃ t, v = Value.int n t from rv)
  exact ⟨hn, .int n, H', I'.tok _, ⟨_, rfl⟩, q'⟩
def rInI (C : Addr) (sp : Sp) (neg : Bool) : R2 := fun x y H Q => ∃ a dx fs, y = .ref a ∧ H a = some (.ins C dx fs) ∧ sp [.ref a, x] H (fun v H' => ∃ b : Bool, v = .bl b ∧ Q (.bl (if neg then !b else b)) H') E0
theorem op_inI {j : Nat} (h : HasM X.prog X.w X.K X.mg X.base C "__contains__" k ps sp) (hr : Room j X.A) (hk : k ≤ j := by decide) : OpR X (compareOp .In) (rInI C sp false) := by
  intro pins s σ H x y v u Q I rx ry q
  obtain ⟨a, dx, fs, rfl, ha, q⟩ := q
  obtain ⟨f, fd, F⟩ := h
  obtain rfl : u = Value.ref a := ry
  obtain ⟨mA, O, _, _, _, _⟩ := ins_get I.hok ha
  obtain ⟨od, J, _⟩ := O.look
  obtain ⟨mm, hF⟩ := I.fr
  refine PySem.W.in_K hF I.ok.mod.kin J F.m.at_ F.m.fn (wpAny_mono (run_sm (vs := [V.ref a, x]) F (hr.mono hk) I.env0 I (.cons rfl (.cons rx .nil)) q) (fun v s' hv => ?_) fun _ _ z => z)
  obtain ⟨v', H', I', rv, b, rfl, q'⟩ := hv
  obtain rfl : v = Value.bool b := rv
  exact wpAny_truthy_bool ⟨.bl b, H', I', rfl, q'⟩
inductive TyQ (H : Hp) : V → Value → Prop where
  | non : TyQ H .non (.type "NoneType")
  | lst {a : Addr} {xs : List V} (e : H a = some (.lst xs)) : TyQ H (.ref a) (.type "list")
  | tup {a : Addr} {xs : List V} (e : H a = some (.tup xs)) : TyQ H (.ref a) (.type "tuple")
  | ins {a C dx : Addr} {fs : List (Str × V)} (e : H a = some (.ins C dx fs)) : TyQ H (.ref a) (.ref C)
theorem ty_looks {pins : List (Addr × Obj)} {σ : L2.St} {H : Hp} {s : Shared} {y : V} {u tb : Value} (I : Inv X pins σ H s) (ry : RelV y u) (ty : TyQ H y tb) : PySem.W.Looks (model X.prog X.w) s.heap (typeOf u) tb := by
  cases ty with
  | non => cases (show u = Value.none from ry); exact PySem.W.Looks.of_pure rfl
  | @lst a xs ea =>
    cases (show u = Value.ref a from ry)
    obtain ⟨_, _, n, _, h1⟩ := (show ObjOk X.prog X.w H s.heap a (.lst xs) from I.hok a _ ea)
    exact fun A Q E s' k q => wpAny_typeOf (T := "list") ⟨_, k _ _ h1, rfl⟩ q
  | @tup a xs ea =>
    cases (show u = Value.ref a from ry)
    obtain ⟨_, _, _, o, h1, h2, _⟩ := (show ObjOk X.prog X.w H s.heap a (.tup xs) from I.hok a _ ea)
    exact fun A Q E s' k q => wpAny_typeOf (T := "tuple") ⟨o, k _ _ h1, h2⟩ q
  | @ins a C dx fs ea =>
    cases (show u = Value.ref a from ry)
    obtain ⟨mA, O, _⟩ := ins_get I.hok ea
    obtain ⟨od, J, _⟩ := O.look
    exact J.type
/-- == by an own __eq__: y is of the type tb -/
def rEqI (K : PySem.W.Frag) (C : Addr) (sp : Sp) : R2 := fun x y H Q => ∃ a dx fs tb, x = .ref a ∧ H a = some (.ins C dx fs) ∧ TyQ H y tb ∧ PySem.W.notFirst K C tb = true ∧ sp [.ref a, y] H (fun v H' => ∃ b : Bool, v = .bl b ∧ Q (.bl b) H') E0
theorem op_eqI {j : Nat} (h : HasM X.prog X.w X.K X.mg X.base C "__eq__" k ps sp) (hr : Room j X.A) (hk : k ≤ j := by decide) : OpR X (compareOp .Eq) (rEqI X.K C sp) := by
  intro pins s σ H x y v u Q I rx ry q
  obtain ⟨a, dx, fs, tb, rfl, ha, ty, hn, q⟩ := q
  obtain ⟨f, fd, F⟩ := h
  obtain rfl : v = Value.ref a := rx
  obtain ⟨mA, O, _, _, _, _⟩ := ins_get I.hok ha
  obtain ⟨od, J, _⟩ := O.look
  obtain ⟨mm, hF⟩ := I.fr
  show wpAny (model X.prog X.w) X.A (richCompare .Eq (.ref a) u) (EP X pins σ Q) X.xe s
  refine PySem.W.cmp_K (op := .Eq) (tb := tb) ((hr.mono hk).units0) hF I.ok.mod.kin J (ty_looks I ry ty) hn F.m.at_ F.m.fn (wpAny_mono (run_sm (vs := [V.ref a, y]) F (hr.mono hk) I.env0 I (.cons rfl (.cons ry .nil)) q) (fun v s' hv => ?_) fun _ _ z => z)
  obtain ⟨v', H', I', rv, b, rfl, q'⟩ := hv
  obtain rfl : v = Value.bool b := rv
  exact ⟨.bl b, H', I', rfl, q'⟩
end
end NW
namespace NW
open PySem PySem.Spec PyProof.Rows L2
structure HasIAt (P : Program) (w : World) (K : PySem.W.Frag) (mg : Str → Option Value) (base : Heap) (C : Addr) (k : Nat) (ps : List Str) (dvs : List V) (sp : Sp) (f : Addr) (fd : FuncData) : Prop where
  m : Mk K C f
  b : Binds K fd ps []
  d : ∃ ds, Vals dvs ds ∧ Binds K fd ps ds
  ok : FnOk P w K mg base (L2N.CX P w) k f fd ps sp
def HasI (P : Program) (w : World) (K : PySem.W.Frag) (mg : Str → Option Value) (base : Heap) (C : Addr) (k : Nat) (ps : List Str) (dvs : List V) (sp : Sp) : Prop := ∃ f fd, HasIAt P w K mg base C k ps dvs sp f fd
section
variable {prog : Program} {w : World} {A : Around} {E : Value → Shared → Prop} {s : Shared}
theorem collect_tup {l : Addr} {vs : List Value} {Q : List Value → Shared → Prop} (hl : s.heap.IsTuple l vs.toArray)
    (h : Q vs { s with heap := (s.heap.push (seqObj "list" #[] 0)).update s.heap.objs.size (Obj.mapSeq (· ++ vs.toArray)) }) (hsz : vs.length ≤ sizeLine) :
    wpAny (model prog w) A (collect (.ref l)) Q E s := by
  obtain ⟨o, ho, hc, n, hd⟩ := id hl
  unfold collect
  refine wpAny_bind (wpAny_runValue (codeAny_builtin entry_proto_collect' ?_))
  show wpAny _ _ (do again (.builtin "list.__iadd__" ⟨[← newList [], .ref l], []⟩)) _ _ s
  refine wpAny_bind (wpAny_newList (wpAny_pure ⟨Code.quiet_builtin _ (by decide +kernel), codeAny_builtin entry_list_iadd' ?_⟩))
  show wpAny _ _ (Builtin.List.listExtendWith (.ref s.heap.objs.size) (.ref l) (.ref s.heap.objs.size)) _ _ { s with heap := s.heap.push (seqObj "list" #[] 0) }
  unfold Builtin.List.listExtendWith
  have ho' : (s.heap.push (seqObj "list" #[] 0)).get? l = some o := Heap.get?_push_of_some _ ho
  refine wpAny_bind (wpAny_typeOf (T := "tuple") ⟨o, ho', hc⟩ ?_)
  have ht : (Value.type "tuple" == Value.type "tuple") = true := by rfl
  rw [if_pos (by rw [ht]; simp)]
  refine wpAny_bind (listItems_at ho' hd ?_)
  refine wpAny_bind (listItems_at (xs := #[]) (n := 0) (Heap.get?_push_size _ rfl) rfl ?_)
  rw [if_neg (by simp)]
  refine wpAny_bind (listUpdate_at (xs := #[]) (n := 0) (Heap.get?_push_size _ rfl) rfl ?_ (Nat.zero_le _) (by show (#[] ++ vs.toArray).size ≤ sizeLine + 1; simp only [Array.size_append, List.size_toArray, List.length_nil]; omega))
  refine wpAny_pure ?_
  show wpAny (model prog w) A (do
      let o ← load s.heap.objs.size
      match o.data with
      | .seq xs _ => pure xs.toList
      | _ => unsupported "internal:collect") Q E { s with heap := (s.heap.push (seqObj "list" #[] 0)).update s.heap.objs.size (Obj.mapSeq (· ++ vs.toArray)) }
  refine wpAny_bind (wpAny_load (get?_update_seq (Heap.get?_push_size _ rfl) _) ?_)
  show wpAny _ _ (pure ((#[] : Array Value) ++ vs.toArray).toList) Q E _
  rw [show ((#[] : Array Value) ++ vs.toArray).toList = vs by simp]
  exact wpAny_pure h
open SrtO in
theorem sorted_ordT {l : Addr} {vs : List Value} {ltv : Value → Value → Bool} {Q : Value → Shared → Prop} (O : Swo ltv) (hl : s.heap.IsTuple l vs.toArray) (hz : vs.length ≤ sizeLine)
    (hS : 2 ≤ vs.length → ∀ (h₁ : Heap) (a : Addr), h₁.get? a = some (seqObj "list" vs.toArray 0) → (∀ b o, s.heap.get? b = some o → b ≠ a ∧ h₁.get? b = some o) → SortableO prog w A.in1.in1 { s with heap := h₁ } a vs ltv)
    (h : ∀ out : List Value, Srtd ltv out → Stb ltv out vs → Q (.ref (s.heap.objs.size + 1)) { s with heap := sortedAll s.heap vs out.toArray }) :
    wpAny (model prog w) A (call (.builtin "sorted") [.ref l]) Q E s := by
  refine Calls.call_function_entry kind_sorted plain_sorted entry_sorted (args_sorted1 _) ?_
  unfold Builtin.«sorted»
  refine wpAny_bind (m := checkCount "sorted" 1 1 _) (wpAny_pure ?_)
  refine wpAny_bind (collect_tup hl ?_ hz)
  refine wpAny_bind (wpAny_newList ?_ hz)
  have hsz : ((s.heap.push (seqObj "list" #[] 0)).update s.heap.objs.size (Obj.mapSeq (· ++ vs.toArray))).objs.size = s.heap.objs.size + 1 := by
    rw [Heap.size_update, size_push']
  have hoL : (((s.heap.push (seqObj "list" #[] 0)).update s.heap.objs.size (Obj.mapSeq (· ++ vs.toArray))).push (seqObj "list" vs.toArray 0)).get? (s.heap.objs.size + 1) = some (seqObj "list" vs.toArray 0) := by
    rw [← hsz]; exact Heap.get?_push_size _ rfl
  have keep : ∀ b o, s.heap.get? b = some o → b ≠ s.heap.objs.size + 1 ∧ (((s.heap.push (seqObj "list" #[] 0)).update s.heap.objs.size (Obj.mapSeq (· ++ vs.toArray))).push (seqObj "list" vs.toArray 0)).get? b = some o := fun b o q => by
    have hlt : b < s.heap.objs.size := Heap.lt_size q
    refine ⟨Nat.ne_of_lt (Nat.lt_succ_of_lt hlt), Heap.get?_push_of_some _ ?_⟩
    rw [Heap.get?_update_ne _ _ _ _ (Nat.ne_of_lt hlt)]
    exact Heap.get?_push_of_some _ q
  show wpAny _ _ _ _ _ { s with heap := ((s.heap.push (seqObj "list" #[] 0)).update s.heap.objs.size (Obj.mapSeq (· ++ vs.toArray))).push (seqObj "list" vs.toArray 0) }
  rw [hsz]
  refine wpAny_bind (wpAny_holding (wpAny_call_entry slot_list_sort ⟨_, hoL, rfl⟩ entry_list_sort (list_sort_ord O hoL hz (fun h2 => hS h2 _ _ hoL keep) fun out hs hb => ⟨_, rfl, ?_⟩) (args_list_sort _)))
  exact wpAny_pure ⟨_, rfl, h out hs hb⟩
end
def rSortedT (K : PySem.W.Frag) : List V → Hp → VK → Prop := fun vs H Q => ∃ (a : Addr) (ns : List Int), vs = [V.ref a] ∧ SqT K H a (ns.map V.int) ∧
  ∀ (ns' : List Int) (p : Addr), ns'.Perm ns → ns'.Pairwise (· ≤ ·) → H p = none → Q (.ref p) (upd H p (.lst (ns'.map V.int)))
section
variable {X : Cx}
theorem cr_sortedT : CallR X (.builtin "sorted") (rSortedT X.K) := by
  intro pins s σ H vs us Q I r h
  obtain ⟨a, ns, rfl, hs, q⟩ := h
  obtain ⟨its, rv, hl, hz⟩ := I.tuple hs
  rw [Vals.ref1 r]
  have hi := rv.ints
  refine sorted_ordT SrtO.swo_int (show s.heap.IsTuple a its.toArray from hl) (by rw [← rv.length]; exact hz) (fun h2 h₁ a' _ _ => SrtO.ints_sortable hi h2) fun out h1 h2 => ?_
  obtain ⟨k1, k2, k3⟩ := SrtO.ints_out hi h1 h2
  obtain ⟨ep, he'⟩ := PyProof.Rows.sortedAll_at s.heap its out.toArray
  have hlen : ((out.map SrtO.iv).map V.int).length ≤ sizeLine := by
    rw [List.length_map, k2.length_eq]
    rw [List.length_map] at hz
    exact hz
  exact ⟨.ref _, upd H (s.heap.objs.size + 1) (.lst ((out.map SrtO.iv).map V.int)), I.laid (t' := s.toks) (fun _ _ => PyProof.Rows.sortedAll_old) (Nat.le_succ _) ⟨hlen, out, ep, vals_of_ints k1, he'⟩, rfl, q _ _ k2 k3 (I.hok.fresh (Nat.le_succ _))⟩
def rSortedA (K : PySem.W.Frag) : List V → Hp → VK → Prop := fun vs H Q => rSortedI K vs H Q ∨ rSortedT K vs H Q
theorem cr_sortedA : CallR X (.builtin "sorted") (rSortedA X.K) := fun pins s σ H vs us Q I r h => h.elim (fun h => cr_sortedI pins s σ H vs us Q I r h) fun h => cr_sortedT pins s σ H vs us Q I r h
end
end NW
namespace DL
open PySem PySem.Spec PyProof.Rows L2 NW
section
variable {X : Cx} {e a b o : Expr} {w wa wb wk wd : WE} {r : WA} {C : Addr} {f m : Str} {pos : Pos} {s : DS1}
def wFld (C : Addr) (f : Str) (w : WE) : WE := fun ρ R => w ρ fun d => ∃ ns xs x, d = .obj C ns xs ∧ lkD ns xs f = some x ∧ R x
theorem dfld {K : PySem.W.Frag} (c : Cls K C) (n : NoAttr K C f) (h : PE X e (tFld K (lift w) f)) : PE X e (lift (wFld C f w)) := pe_weak h fun σ H Q q => by
  obtain ⟨W, own, ρ, R, o, i, z, g⟩ := q
  refine ⟨W, own, ρ, _, o, i, z, fun d v H1 r k o1 i1 => ?_⟩
  obtain ⟨ns, xs, x, rfl, hl, r⟩ := r
  cases i1 with
  | obj h1 h2 h3 h4 =>
    obtain ⟨u, e1, e2⟩ := lk_ok h3 h4 hl
    exact ⟨_, C, _, _, u, rfl, h1, c, n, e1, g _ _ _ r k o1 e2⟩
def wProp (C : Addr) (s : DS1) (w : WE) : WE := fun ρ R => w ρ fun d => (∃ ns xs, d = .obj C ns xs) ∧ s [d] R
theorem dprop (h : PE X e (tProp C (dsp s) [] E0 (lift w))) : PE X e (lift (wProp C s w)) := pe_weak h fun σ H Q q => by
  obtain ⟨W, own, ρ, R, o, i, z, g⟩ := q
  refine ⟨W, own, ρ, _, o, i, z, fun d v H1 r k o1 i1 => ?_⟩
  obtain ⟨⟨ns, xs, rfl⟩, r⟩ := r
  have i2 := i1
  cases i1 with
  | obj h1 h2 h3 h4 => exact ⟨_, _, _, rfl, h1, W, _, _, o1, .cons i2 .nil, r, g.mono k⟩
theorem lookup_none {m : Str} : ∀ {fs : List (Str × V)}, m ∉ fs.map (·.1) → fs.lookup m = none
  | [], _ => rfl
  | (n, v) :: fs, h => by
    rw [List.lookup_cons]
    have h1 : m ≠ n := fun e => h (by rw [e]; exact List.mem_cons_self)
    rw [show (m == n) = false from beq_eq_false_iff_ne.mpr h1]
    exact lookup_none fun z => h (List.mem_cons_of_mem _ z)
def wMeth (C : Addr) (m : Str) (s : DS1) (w : WE) (r : WA) : WE := fun ρ R => w ρ fun d => (∃ ns xs, d = .obj C ns xs ∧ m ∉ ns) ∧ r ρ fun ds => s (d :: ds) R
theorem dmeth (h : PE X e (tMeth C m (dsp s) [] E0 (lift w) (liftA r))) : PE X e (lift (wMeth C m s w r)) := pe_weak h fun σ H Q q => by
  obtain ⟨W, own, ρ, R, o, i, z, g⟩ := q
  refine ⟨W, own, ρ, _, o, i, z, fun d v H1 r1 k o1 i1 => ?_⟩
  obtain ⟨⟨ns, xs, rfl, hm⟩, r1⟩ := r1
  have i2 := i1
  cases i1 with
  | obj h1 h2 h3 h4 =>
    subst h3
    refine ⟨_, _, _, rfl, h1, lookup_none hm, W, own, ρ, _, o1, i.mono o k, r1, fun ds vs H2 r2 k2 o2 i3 => ?_⟩
    show dsp s (.ref _ :: (vs ++ [])) H2 Q E0
    rw [List.append_nil]
    exact ⟨W, _, _, o2, .cons (i2.mono k2) i3, r2, (g.mono k).mono k2⟩
def wMeth0 (C : Addr) (m : Str) (s : DS1) (w : WE) : WE := fun ρ R => w ρ fun d => (∃ ns xs, d = .obj C ns xs ∧ m ∉ ns) ∧ s [d] R
theorem dmeth0 (h : PE X e (tMeth C m (dsp s) [] E0 (lift w) tNil)) : PE X e (lift (wMeth0 C m s w)) := pe_weak h fun σ H Q q => by
  obtain ⟨W, own, ρ, R, o, i, z, g⟩ := q
  refine ⟨W, own, ρ, _, o, i, z, fun d v H1 r1 k o1 i1 => ?_⟩
  obtain ⟨⟨ns, xs, rfl, hm⟩, r1⟩ := r1
  have i2 := i1
  cases i1 with
  | obj h1 h2 h3 h4 =>
    subst h3
    exact ⟨_, _, _, rfl, h1, lookup_none hm, W, _, _, o1, .cons i2 .nil, r1, g.mono k⟩
def wLenI (C : Addr) (s : DS1) (w : WE) : WE := fun ρ R => w ρ fun d => (∃ ns xs, d = .obj C ns xs) ∧ s [d] fun v => ∃ n : Int, v = .int n ∧ (0 ≤ n ∧ n < 2 ^ 63) ∧ R (.int n)
theorem dlenI (h : PE X e (tCB (rLenI C (dsp s)) (tCons (lift w) tNil))) : PE X e (lift (wLenI C s w)) := pe_weak h fun σ H Q q => by
  obtain ⟨W, own, ρ, R, o, i, z, g⟩ := q
  refine ⟨W, own, ρ, _, o, i, z, fun d v H1 r k o1 i1 => ?_⟩
  obtain ⟨⟨ns, xs, rfl⟩, r⟩ := r
  have i2 := i1
  cases i1 with
  | obj h1 h2 h3 h4 =>
    refine ⟨_, _, _, rfl, h1, W, _, _, o1, .cons i2 .nil, r, fun d v H2 r2 k2 o2 i3 => ?_⟩
    obtain ⟨n, rfl, hn, r2⟩ := r2
    cases i3
    exact ⟨n, rfl, hn, g _ _ _ r2 (k.trans k2) o2 (.int n)⟩
def OpI (r : R2) (d : D2) : Prop := ∀ W H x y a b R Q, W.Ok H → Is W H x a → Is W H y b → d a b R → Fin W H R Q → r x y H Q
theorem opi_tr {rr : R2} {d : D2} (h : OpI rr d) : ∀ σ H Q, lift (wOp d wa wb) σ H Q → tOp rr (lift wa) (lift wb) σ H Q := fun σ H Q q => by
  obtain ⟨W, own, ρ, R, o, i, z, f⟩ := q
  refine ⟨W, own, ρ, _, o, i, z, fun x v H1 r1 k1 o1 i1 => ⟨W, own, ρ, _, o1, i.mono o k1, r1, fun y u H2 r2 k2 o2 i2 => ?_⟩⟩
  exact h W H2 v u x y R Q o2 (i1.mono k2) i2 r2 (f.mono (k1.trans k2))
theorem dcmpI {op : CmpOp} {rr : R2} {d : D2} (ho : OpR X (compareOp op) rr) (h : OpI rr d) (ha : PE X a (lift wa)) (hb : PE X b (lift wb)) (hm : behindInMarks op b = false) : PE X (.Compare a [op] [b] pos) (lift (wOp d wa wb)) := pe_weak (pe_cmpR ho ha hb hm) (opi_tr h)
def dInI (C : Addr) (s : DS1) : D2 := fun x y R => (∃ ns xs, y = .obj C ns xs) ∧ s [y, x] fun v => ∃ b, v = .bl b ∧ R (.bl b)
theorem opInI : OpI (rInI C (dsp s) false) (dInI C s) := fun W H x y a b R Q o hx hy h f => by
  obtain ⟨⟨ns, xs, rfl⟩, h⟩ := h
  have hy2 := hy
  cases hy with
  | obj h1 h2 h3 h4 =>
    refine ⟨_, _, _, rfl, h1, W, _, _, o, .cons hy2 (.cons hx .nil), h, fun d v H2 r2 k2 o2 i3 => ?_⟩
    obtain ⟨n, rfl, r2⟩ := r2
    cases i3
    exact ⟨n, rfl, f _ _ _ r2 k2 o2 (.bl n)⟩
/-- the types that the class is compared with -/
structure NFs (K : PySem.W.Frag) (C : Addr) : Prop where
  n : PySem.W.notFirst K C (.type "NoneType") = true
  l : PySem.W.notFirst K C (.type "list") = true
  t : PySem.W.notFirst K C (.type "tuple") = true
  s : PySem.W.notFirst K C (.ref C) = true
def tyOk (C : Addr) : DV → Prop
  | .non => True
  | .lst _ => True
  | .tup _ => True
  | .obj D _ _ => D = C
  | _ => False
def dEqI (C : Addr) (s : DS1) : D2 := fun x y R => (∃ ns xs, x = .obj C ns xs) ∧ tyOk C y ∧ s [x, y] fun v => ∃ b, v = .bl b ∧ R (.bl b)
theorem opEqI {K : PySem.W.Frag} (N : NFs K C) : OpI (rEqI K C (dsp s)) (dEqI C s) := fun W H x y a b R Q o hx hy h f => by
  obtain ⟨⟨ns, xs, rfl⟩, ht, h⟩ := h
  have hx2 := hx
  have ty : ∃ tb, TyQ H y tb ∧ PySem.W.notFirst K C tb = true := by
    cases hy with
    | non => exact ⟨_, .non, N.n⟩
    | lst h1 => exact ⟨_, .lst h1, N.l⟩
    | tup h1 => exact ⟨_, .tup h1, N.t⟩
    | obj h1 =>
      have e : _ = C := ht
      subst e
      exact ⟨_, .ins h1, N.s⟩
    | _ => exact ht.elim
  obtain ⟨tb, t1, t2⟩ := ty
  cases hx with
  | obj h1 h2 h3 h4 =>
    refine ⟨_, _, _, tb, rfl, h1, t1, t2, W, _, _, o, .cons hx2 (.cons hy .nil), h, fun d v H2 r2 k2 o2 i3 => ?_⟩
    obtain ⟨n, rfl, r2⟩ := r2
    cases i3
    exact ⟨n, rfl, f _ _ _ r2 k2 o2 (.bl n)⟩
end
section
variable {X : Cx} {tg e : Expr} {w : WE} {C : Addr} {x : Str}
def iOwnD (C : Addr) (x : Str) (w : WE) : WI := fun ρ R => w ρ fun d => ∃ ns xs ys, d = .obj C ns xs ∧ lkD ns xs x = some (.tup ys) ∧ R ys
/-- a list, a tuple, or the written empty one, in a slot -/
def iVk (K : PySem.W.Frag) (i : Nat) : WI := fun ρ R => atV (fun d => ∃ xs, (d = .lst xs ∨ d = .tup xs ∨ (d = .ktu K ∧ xs = [])) ∧ R xs) ρ[i]?
theorem ktu_sq {K : PySem.W.Frag} {a : Addr} (h : KTu K a) (H : Hp) : SqT K H a [] := .inr h
theorem wks_ktu {K : PySem.W.Frag} {a : Addr} {W : Wd} {Hb : Hp} (h : KTu K a) : Wks (Itt K a) W Hb [] where
  go := fun i H' k z => absurd z (Nat.not_lt_zero _)
  yl := fun i H' v H2 k y z => absurd z (Nat.not_lt_zero _)
  stop := fun i H' k z => ⟨[], ktu_sq h H', Nat.zero_le _⟩
theorem diVk (i : Nat) (h : PE X e (tVar i)) (hp : ∀ t, PE X e t → PI X tg e (iSeq X.K t)) : PI X tg e (liftI (iVk X.K i)) := pi_weak (hp _ h) fun σ H R q => by
  obtain ⟨W, own, ρ, Rd, o, ie, z, g⟩ := q
  obtain ⟨d, z, xs, hd, r⟩ := atV_ex z
  obtain ⟨v, h1, h2⟩ := ie.dt i _ z
  rcases hd with rfl | rfl | ⟨rfl, rfl⟩
  · cases h2 with
    | lst a1 a2 a3 a4 => exact .inl ⟨_, h1, _, rfl, ⟨_, SqL.of a1⟩, g _ xs H r (Kp.refl _ _) o fun Hb t => wks_list a1 a2 a4 t⟩
  · cases h2 with
    | tup a1 a2 a3 a4 => exact .inr ⟨_, h1, _, rfl, ⟨_, SqT.of a1⟩, g _ xs H r (Kp.refl _ _) o fun Hb t => wks_tup a1 a2 a4 t⟩
  · cases h2 with
    | ktu a1 => exact .inr ⟨_, h1, _, rfl, ⟨_, ktu_sq a1 H⟩, g _ [] H r (Kp.refl _ _) o fun Hb t => wks_ktu a1⟩
end
def srt (ns : List Int) : List Int := ns.mergeSort fun a b => decide (a ≤ b)
theorem srt_perm (ns : List Int) : (srt ns).Perm ns := List.mergeSort_perm _ _
theorem srt_sorted (ns : List Int) : (srt ns).Pairwise (· ≤ ·) := by
  have h := List.pairwise_mergeSort (le := fun a b : Int => decide (a ≤ b)) (fun a b c h1 h2 => decide_eq_true (Int.le_trans (of_decide_eq_true h1) (of_decide_eq_true h2))) (fun a b => by
    rcases Int.le_total a b with h | h
    · simp [h]
    · simp [h]) ns
  exact h.imp fun h => of_decide_eq_true h
theorem srt_one {a b : List Int} (p : a.Perm b) (ha : a.Pairwise (· ≤ ·)) (hb : b.Pairwise (· ≤ ·)) : a = b := p.eq_of_pairwise (fun _ _ _ _ h1 h2 => Int.le_antisymm h1 h2) ha hb
theorem srt_eq {ns ys : List Int} (p : ys.Perm ns) (h : ys.Pairwise (· ≤ ·)) : ys = srt ns := srt_one (p.trans (srt_perm ns).symm) h (srt_sorted ns)
theorem srt_congr {a b : List Int} (p : a.Perm b) : srt a = srt b := srt_eq ((srt_perm a).trans p) (srt_sorted a)
def sortD (K : PySem.W.Frag) (d : DV) (R : List Int → Prop) : Prop := ∃ ns : List Int, (d = .lst (ns.map DV.int) ∨ d = .tup (ns.map DV.int) ∨ (d = .ktu K ∧ ns = [])) ∧ R (srt ns)
def fSrt (K : PySem.W.Frag) (w : WE) : WF := fun ρ R => w ρ fun d => sortD K d fun ns => R (ns.map DV.int)
section
variable {X : Cx} {e a : Expr} {w : WE}
theorem dsrtF {K : PySem.W.Frag} (h : PE X e (tCB (rSortedA K) (tCons (liftP w) tNil))) : PE X e (liftF (fSrt K w)) := pe_weak h fun σ H Q q => by
  obtain ⟨W, own, ρ, R, o, i, z, f⟩ := q
  refine ⟨W, own, ρ, _, o, i, z, fun d v H1 r k o1 i1 => ?_⟩
  obtain ⟨ns, hd, r⟩ := r
  have fin : ns.length ≤ 1000000 → ∀ (ys : List Int) (p : Addr), ys.Perm ns → ys.Pairwise (· ≤ ·) → H1 p = none → Q (.ref p) (upd H1 p (.lst (ys.map V.int))) := fun hl ys p h1 h2 h3 => by
    have e := srt_eq h1 h2
    rw [← e] at r
    exact (f.mono k).new o1 (by rw [List.length_map, h1.length_eq]; exact hl) (int_iss ys) r p h3
  rcases hd with rfl | rfl | ⟨rfl, rfl⟩
  · obtain ⟨l, vs, rfl, h1, h2, h3⟩ := i1.lst
    rw [iss_int h3] at h1 h2
    exact .inl ⟨l, ns, rfl, SqL.of h1, fin (by rw [List.length_map] at h2; exact h2)⟩
  · obtain ⟨l, vs, rfl, h1, h2, h3⟩ := i1.tup
    rw [iss_int h3] at h1 h2
    exact .inr ⟨l, ns, rfl, SqT.of h1, fin (by rw [List.length_map] at h2; exact h2)⟩
  · cases i1.is (fun _ e => nomatch e) with
    | ktu a1 => exact .inr ⟨_, [], rfl, ktu_sq a1 H1, fin (Nat.zero_le _)⟩
end
end DL
namespace DL
open PySem PySem.Spec PyProof.Rows L2 NW
def spI (C : Addr) (s : DS2) : Sp := fun vs H Q E => ∃ (W : Wd) (ds : List DV) (R RX : DV → Prop) (a dx : Addr) (H0 : Hp) (us : List V), vs = .ref a :: us ∧ H = upd (upd H0 dx (.own a)) a (.ins C dx []) ∧ H0 a = none ∧ H0 dx = none ∧ dx ≠ a ∧ W.Ok H0 ∧ Iss W H0 us ds ∧ s ds R RX ∧
  (∀ d H', R d → Kp W.st H0 H' → W.Ok H' → Is W H' (.ref a) d → Q .non H') ∧ FinX W H0 RX E
theorem len_spI {C : Addr} {s : DS2} {n : Nat} (h : ∀ ds R RX, s ds R RX → ds.length = n) : ∀ vs H Q E, spI C s vs H Q E → vs.length = n + 1 := fun vs H Q E ⟨_, _, _, _, _, _, _, _, e, _, _, _, _, _, i, z, _⟩ => by
  rw [e, List.length_cons, i.len, h _ _ _ z]
def OwesI (n : Nat) (C : Addr) (s : DS2) (w : WS) : Prop := ∀ a ds R RX, s ds R RX → w { nx := fun ρ => ∃ ns xs, ρ[0]? = some (.oi a C ns xs) ∧ R (.obj C ns xs), rt := fun _ => False, xc := fun e _ => RX e } (.oi a C [] [] :: startD n ds)
theorem start_cons (n : Str) (N : List Str) (v : V) (us : List V) : L2.start (n :: N) (v :: us) = some v :: L2.start N us := by
  unfold L2.start
  rw [List.length_cons, List.length_cons, Nat.add_sub_add_right]
  rfl
theorem dl_startI {C : Addr} {s : DS2} {w : WS} {n : Str} {N : List Str} (o : OwesI N.length C s w) (vs : List V) (H : Hp) (Q : VK) (E : XK) (h : spI C s vs H Q E) :
    liftS (fun cls d _ H => E cls d H) w { nx := fun _ H' => Q .non H', rt := Q } (L2.start (n :: N) vs) H := by
  obtain ⟨W, ds, R, RX, a, dx, H0, us, rfl, rfl, ha, hd, hn, ok, i, hs, f, g⟩ := h
  have ha1 : upd H0 dx (HO.own a) a = none := by rw [upd_ne (Ne.symm hn)]; exact ha
  have sm : Same H0 (upd (upd H0 dx (.own a)) a (.ins C dx [])) := fun b o z => same_new ha1 b o (same_new hd b o z)
  have na : W.st ≠ some a := ok.s.ne ha
  let own : Nat → Option Addr := fun j => if j = 0 then some a else none
  have ow0 : ∀ j b, own j = some b → j = 0 ∧ b = a := fun j b z => by
    by_cases e : j = 0
    · have z : (if j = 0 then some a else none) = some b := z
      rw [if_pos e] at z
      exact ⟨e, (Option.some.inj z).symm⟩
    · have z : (if j = 0 then some a else none) = some b := z
      rw [if_neg e] at z
      cases z
  have hw : ∀ b, ((⟨W.st, W.hid, H0⟩ : Bs).w own).hid b → W.hid b ∨ b = a := fun b h => h.elim .inl fun ⟨j, z⟩ => .inr (ow0 j b z).2
  have tr : ∀ {v : V} {d : DV}, Is W H0 v d → Is ((⟨W.st, W.hid, H0⟩ : Bs).w own) (upd (upd H0 dx (.own a)) a (.ins C dx [])) v d := fun h => Is.tr (W := W) (W' := (⟨W.st, W.hid, H0⟩ : Bs).w own) rfl (fun b o k z => ⟨⟨k.1, fun q => (hw b q).elim k.2 fun e => ne_of_none z ha e⟩, sm b o z⟩) h
  have it := isE_start (N := N) i
  rw [start_cons]
  refine ⟨⟨W.st, W.hid, H0⟩, own, _, _, ⟨ok.s, Kp.same sm, ⟨ok.s.same sm, fun b hb => ?_⟩, ⟨?_, fun j d e => ?_, fun j xs e => ?_, fun j ks xs e => ?_, fun j A D ns xs e => ?_, fun j b z => .inr ⟨j, z⟩⟩, fun j b z => ?_, fun j k b z z' => (ow0 j b z).1.trans (ow0 k b z').1.symm⟩, o a ds R RX hs,
    ⟨fun own' ρ σ H' r c => ?_, fun _ _ _ _ z => z.elim, fun _ _ _ _ z => z.elim, fun _ _ _ z => z.elim, fun own' ρ σ H' D ns xs dd fs r c h1 h2 h3 h4 => g D ns xs dd H' fs r c.k c.ok0 h1 ⟨h2.1, fun z => h2.2 (.inl z)⟩ h3 h4.w0⟩⟩
  · rcases hw b hb with hb | rfl
    · obtain ⟨⟨o, ho⟩, n⟩ := ok.h b hb
      exact ⟨⟨o, sm _ _ ho⟩, n⟩
    · exact ⟨⟨_, upd_same⟩, na⟩
  · rw [List.length_cons, List.length_cons, it.len]
  · match j, e with
    | 0, e => cases e
    | j + 1, e =>
      obtain ⟨v, h1, h2⟩ := it.dt j d e
      exact ⟨v, h1, tr h2⟩
  · match j, e with
    | 0, e => cases e
    | j + 1, e =>
      obtain ⟨b, us, z, _⟩ := it.ow j xs e
      cases z
  · match j, e with
    | 0, e => cases e
    | j + 1, e =>
      obtain ⟨b, us, z, _⟩ := it.od j ks xs e
      cases z
  · match j, e with
    | 0, e =>
      cases e
      exact ⟨a, [], rfl, rfl, ⟨dx, upd_same⟩, ⟨Nat.zero_le _, rfl, List.nodup_nil, rfl⟩, .nil⟩
    | j + 1, e =>
      obtain ⟨b, us, z, _⟩ := it.oi j A D ns xs e
      cases z
  · obtain ⟨_, rfl⟩ := ow0 j b z
    exact ⟨ha, fun q => by obtain ⟨⟨o, ho⟩, _⟩ := ok.h b q; rw [ha] at ho; cases ho⟩
  · obtain ⟨ns, xs, e, r⟩ := r
    obtain ⟨a', fs, h1, h2, ⟨dx', h3⟩, ⟨l1, l2, l3, rfl⟩, h5⟩ := c.e.oi 0 a C ns xs e
    exact f _ _ r c.k c.ok0 (.obj h3 ⟨(c.ok.h a' (.inr ⟨0, h1⟩)).2, (c.o 0 a' h1).2⟩ l2 h5.w0)
def atS (C : Addr) (R : Addr → List Str → List DV → Prop) : Option Sl → Prop
  | some (.oi A D ns xs) => D = C ∧ R A ns xs
  | _ => False
theorem atS_ex {C : Addr} {R : Addr → List Str → List DV → Prop} {o : Option Sl} (h : atS C R o) : ∃ A ns xs, o = some (.oi A C ns xs) ∧ R A ns xs := by
  unfold atS at h
  split at h
  · obtain ⟨rfl, h⟩ := h
    exact ⟨_, _, _, rfl, h⟩
  · exact h.elim
theorem putF_new {f : Str} {y : V} : ∀ {fs : List (Str × V)}, f ∉ fs.map (·.1) → putF f y fs = fs ++ [(f, y)]
  | [], _ => rfl
  | (g, x) :: r, h => by
    have h1 : ¬ g = f := fun e => h (by rw [← e]; exact List.mem_cons_self)
    show (if g = f then (g, y) :: r else (g, x) :: putF f y r) = _
    rw [if_neg h1, putF_new fun z => h (List.mem_cons_of_mem _ z)]
    rfl
theorem Ctx.field {B : Bs} {own : Nat → Option Addr} {H : Hp} {σ : L2.St} {ρ : Env} {A C : Addr} {ns : List Str} {xs : List DV} {f : Str} {y : V} {d : DV} (c : Ctx B own H σ ρ) (e : ρ[0]? = some (.oi A C ns xs)) (hf : f ∉ ns) (hl : ns.length < 500) (iy : Is (B.w own) H y d) :
    ∃ dx fs, σ[0]? = some (some (.ref A)) ∧ H A = some (.ins C dx fs) ∧ fs.length < 1000 ∧ Ctx B own (upd H A (.ins C dx (putF f y fs))) σ (ρ.set 0 (.oi A C (ns ++ [f]) (xs ++ [d]))) := by
  obtain ⟨a, fs, g1, g2, ⟨dx, g3⟩, ⟨g4, g6, g7, rfl⟩, g5⟩ := c.e.oi 0 A C ns xs e
  subst g6
  rw [List.length_map] at hl
  refine ⟨dx, fs, g2, g3, by omega, ?_⟩
  rw [putF_new hf]
  exact c.updI 0 g1 e ⟨by rw [List.length_append]; exact hl, by rw [List.map_append]; rfl, by
    rw [List.nodup_append]
    exact ⟨g7, List.pairwise_singleton _ _, fun u hu v hv q => hf (by rw [List.mem_singleton.mp hv] at q; rw [← q]; exact hu)⟩, rfl⟩ (by
    rw [List.map_append]
    exact g5.app (.cons iy .nil))
section
variable {Ex : L2.WX} {X : Cx} {w : WE} {st : Stmt} {C : Addr} {f : Str}
def wSelf (C : Addr) (f : Str) (w : WE) : WS := fun E ρ => w ρ fun d => atS C (fun A ns xs => f ∉ ns ∧ ns.length < 500 ∧ E.nx (ρ.set 0 (.oi A C (ns ++ [f]) (xs ++ [d])))) ρ[0]?
theorem dself {K : PySem.W.Frag} (cc : Cls K C) (nn : NoAttr K C f) (h : PS X st (sFld K (tVar 0) (lift w) f)) : PS X st (liftS Ex (wSelf C f w)) := ps_weak h fun D σ H q => by
  obtain ⟨B, own, ρ, E, c, h, d⟩ := q
  refine ⟨B.w own, own, ρ, _, c.ok, c.e, h, fun dv v H1 r1 k1 o1 i1 => ?_⟩
  obtain ⟨A, ns, xs, e, hf, hl, r1⟩ := atS_ex r1
  obtain ⟨dx, fs, g2, g3, g4, c2⟩ := (c.mono k1 o1).field e hf hl i1
  exact ⟨.ref A, g2, A, C, dx, fs, rfl, g3, cc, nn, g4, d.nx own _ _ _ r1 c2⟩
/-- a dict of one's own is given away -/
theorem Ctx.frzD {B : Bs} {own : Nat → Option Addr} {H : Hp} {σ : L2.St} {ρ : Env} {i : Nat} {ks : List Key} {xs : List DV} (c : Ctx B own H σ ρ) (e0 : ρ[i]? = some (.od ks xs)) :
    ∃ p, σ[i]? = some (some (.ref p)) ∧ Is (B.w (cut own i)) H (.ref p) (.dic ks xs) ∧ Ctx B (cut own i) H σ (ρ.set i (.dt (.dic ks xs))) := by
  obtain ⟨p, kvs, g1, g2, g3, ⟨g4, g6, g7⟩, g5⟩ := c.e.od i ks xs e0
  have hi : Is (B.w (cut own i)) H (.ref p) (.dic ks xs) := .dic (.inl g3) ⟨(c.ok.h p (.inr ⟨i, g1⟩)).2, fun z => z.elim (c.o i p g1).2 fun ⟨j, z⟩ => by
    have ne : j ≠ i := fun e => by unfold DL.cut at z; rw [if_pos e] at z; cases z
    exact ne (c.inj j i p (cut_sub j p z) g1)⟩ g4 g6 g7 g5.cut
  refine ⟨p, g2, hi, c.sub cut_sub ⟨?_, fun j x e => ?_, fun j xs e => ?_, fun j ks xs e => ?_, fun j A D ns xs e => ?_, fun j a z => .inr ⟨j, z⟩⟩⟩
  · rw [List.length_set]; exact c.e.len
  · rcases get_set e with ⟨rfl, l, z⟩ | ⟨n, z⟩
    · cases z
      exact ⟨_, g2, hi⟩
    · obtain ⟨u, h1, h2⟩ := c.e.dt j x z
      exact ⟨u, h1, h2.cut⟩
  · rcases get_set e with ⟨rfl, l, z⟩ | ⟨n, z⟩
    · cases z
    · obtain ⟨a, vs, h1, h2, h3, h4, h5⟩ := c.e.ow j xs z
      exact ⟨a, vs, by rw [cut_ne n]; exact h1, h2, h3, h4, h5.cut⟩
  · rcases get_set e with ⟨rfl, l, z⟩ | ⟨n, z⟩
    · cases z
    · obtain ⟨a, vs, h1, h2, h3, h4, h5⟩ := c.e.od j ks xs z
      exact ⟨a, vs, by rw [cut_ne n]; exact h1, h2, h3, h4, h5.cut⟩
  · rcases get_set e with ⟨rfl, l, z⟩ | ⟨n, z⟩
    · cases z
    · obtain ⟨a, vs, h1, h2, h3, h4, h5⟩ := c.e.oi j A D ns xs z
      exact ⟨a, vs, by rw [cut_ne n]; exact h1, h2, h3, h4, h5.cut⟩
def wSelfD (C : Addr) (f : Str) (i : Nat) : WS := fun E ρ => atD (fun ks ys => atS C (fun A ns xs => f ∉ ns ∧ ns.length < 500 ∧ i ≠ 0 ∧ E.nx ((ρ.set i (.dt (.dic ks ys))).set 0 (.oi A C (ns ++ [f]) (xs ++ [.dic ks ys])))) ρ[0]?) ρ[i]?
theorem dselfD {K : PySem.W.Frag} {i : Nat} (cc : Cls K C) (nn : NoAttr K C f) (h : PS X st (sFld K (tVar 0) (tVar i) f)) : PS X st (liftS Ex (wSelfD C f i)) := ps_weak h fun D σ H q => by
  obtain ⟨B, own, ρ, E, c, h, d⟩ := q
  obtain ⟨ks, ys, ei, h⟩ := atD_ex h
  obtain ⟨A, ns, xs, e, hf, hl, hne, r1⟩ := atS_ex h
  obtain ⟨p, s1, ip, c1⟩ := c.frzD ei
  have e' : (ρ.set i (.dt (.dic ks ys)))[0]? = some (.oi A C ns xs) := by rw [List.getElem?_set_ne hne]; exact e
  obtain ⟨dx, fs, g2, g3, g4, c2⟩ := c1.field e' hf hl ip
  exact ⟨.ref p, s1, .ref A, g2, A, C, dx, fs, rfl, g3, cc, nn, g4, d.nx _ _ _ _ r1 c2⟩
end
def lkK : List Key → List DV → Key → Option DV
  | n :: ns, x :: xs, m => if n = m then some x else lkK ns xs m
  | _, _, _ => none
theorem lkK_ok {W : Wd} {H : Hp} {m : Key} : ∀ {kvs : List (Key × V)} {xs : List DV}, Iss W H (kvs.map (·.2)) xs → ∀ {z : DV} {zv : V}, Is W H zv z → Is W H ((valV kvs m).getD zv) ((lkK (kvs.map (·.1)) xs m).getD z)
  | [], _, h, z, zv, hz => by cases h; exact hz
  | (n, v) :: kvs, _, h, z, zv, hz => by
    cases h with
    | @cons _ _ y ys a t =>
      have e1 : valV ((n, v) :: kvs) m = if n = m then some v else valV kvs m := by
        unfold valV
        rw [List.find?_cons]
        by_cases e : n = m
        · rw [if_pos e, show decide (n = m) = true from decide_eq_true e]; rfl
        · rw [if_neg e, show decide (n = m) = false from decide_eq_false e]
      have e2 : lkK (((n, v) :: kvs).map (·.1)) (y :: ys) m = if n = m then some y else lkK (kvs.map (·.1)) ys m := rfl
      rw [e1, e2]
      by_cases e : n = m
      · rw [if_pos e, if_pos e]; exact a
      · rw [if_neg e, if_neg e]; exact lkK_ok t hz
section
variable {X : Cx} {e : Expr} {w wd wk wz : WE} {i : Nat}
/-- d.get(k, z), d data -/
def asD (d : DV) (R : List Key → List DV → Prop) : Prop := match d with
  | .dic ks xs => R ks xs
  | _ => False
theorem asD_ex {d : DV} {R : List Key → List DV → Prop} (h : asD d R) : ∃ ks xs, d = .dic ks xs ∧ R ks xs := by
  unfold asD at h
  split at h
  · exact ⟨_, _, rfl, h⟩
  · exact h.elim
def wGet (wd wk wz : WE) : WE := fun ρ R => wd ρ fun d => asD d fun ks xs => wk ρ fun k => wz ρ fun z => asK k fun kk => R ((lkK ks xs kk).getD z)
theorem dget (h : PE X e (tDGet2 (lift wd) (lift wk) (lift wz))) : PE X e (lift (wGet wd wk wz)) := pe_weak h fun σ H Q q => by
  obtain ⟨W, own, ρ, R, o, ie, z, g⟩ := q
  refine ⟨W, own, ρ, _, o, ie, z, fun d v H1 r1 k1 o1 i1 => ?_⟩
  obtain ⟨ks, xs, rfl, r1⟩ := asD_ex r1
  have i0 := i1
  cases i1 with
  | dic a1 a2 a3 a4 a5 a6 =>
    refine ⟨_, rfl, .inl ⟨_, a1⟩, W, own, ρ, _, o1, ie.mono o k1, r1, fun dk u H2 r2 k2 o2 i2 => ⟨W, own, ρ, _, o2, (ie.mono o k1).mono o1 k2, r2, fun dz u2 H3 r3 k3 o3 i3 => ?_⟩⟩
    obtain ⟨kk, r3, ek⟩ := asK_ex r3
    obtain rfl := ek i2
    have i4 := (i0.mono k2).mono k3
    cases i4 with
    | dic b1 b2 b3 b4 b5 b6 =>
      refine ⟨_, .inl ⟨_, kk, b1, rfl, rfl⟩, ?_⟩
      rw [← b4] at r3
      exact g _ _ _ r3 (k1.trans (k2.trans k3)) o3 (lkK_ok b6 i3)
/-- x.get(k, z), x a dict of one's own -/
def wGetO (i : Nat) (wk wz : WE) : WE := fun ρ R => atDR (fun ks xs => wk ρ fun k => wz ρ fun z => asK k fun kk => R ((lkK ks xs kk).getD z)) ρ[i]?
theorem dgetO (h : PE X e (tDGet2 (tVar i) (lift wk) (lift wz))) : PE X e (lift (wGetO i wk wz)) := pe_weak h fun σ H Q q => by
  obtain ⟨W, own, ρ, R, o, ie, z, g⟩ := q
  obtain ⟨ks, xs, hx, r1⟩ := atDR_ex z
  obtain ⟨p, kvs, g2, g3, g6, g5⟩ := ie.dd hx
  refine ⟨.ref p, g2, p, rfl, .inl ⟨_, g3⟩, W, own, ρ, _, o, ie, r1, fun dk u H2 r2 k2 o2 i2 => ⟨W, own, ρ, _, o2, ie.mono o k2, r2, fun dz u2 H3 r3 k3 o3 i3 => ?_⟩⟩
  obtain ⟨kk, r3, ek⟩ := asK_ex r3
  obtain rfl := ek i2
  obtain ⟨p', kvs', f2, f3, f6, f5⟩ := ((ie.mono o k2).mono o2 k3).dd hx
  rw [g2] at f2; cases f2
  refine ⟨_, .inl ⟨_, kk, f3, rfl, rfl⟩, ?_⟩
  rw [← f6] at r3
  exact g _ _ _ r3 (k2.trans k3) o3 (lkK_ok f5 i3)
/-- k in d, d data -/
def wInDD (w wd : WE) : WE := fun ρ R => w ρ fun y => wd ρ fun d => ∃ ks xs, d = .dic ks xs ∧ asK y fun k => R (.bl (hasK ks k))
theorem dinDD (h : PE X e (tDIn (lift w) (lift wd))) : PE X e (lift (wInDD w wd)) := pe_weak h fun σ H Q q => by
  obtain ⟨W, own, ρ, R, o, ie, z, g⟩ := q
  refine ⟨W, own, ρ, _, o, ie, z, fun d v H1 r1 k1 o1 i1 => ⟨W, own, ρ, _, o1, ie.mono o k1, r1, fun d2 v2 H2 r2 k2 o2 i2 => ?_⟩⟩
  obtain ⟨ks, xs, rfl, r2⟩ := r2
  obtain ⟨kk, r2, ek⟩ := asK_ex r2
  obtain rfl := ek i1
  cases i2 with
  | dic b1 b2 b3 b4 b5 b6 =>
    refine ⟨_, _, rfl, .inl ⟨_, kk, b1, rfl, rfl⟩, ?_⟩
    rw [valV_mem, b4]
    exact g _ _ _ r2 (k1.trans k2) o2 (.bl _)
/-- dict(d) -/
def wDict (w : WE) : WE := fun ρ R => w ρ fun d => ∃ ks xs, d = .dic ks xs ∧ R d
theorem ddict (h : PE X e (tCB (fun xs H Q => ∃ (a : Addr) (kvs : List (Key × V)), xs = [.ref a] ∧ Rd H a (.dK kvs) ∧ ∀ p, H p = none → Q (.ref p) (upd H p (.dK kvs))) (tCons (lift w) tNil))) : PE X e (lift (wDict w)) := pe_weak h fun σ H Q q => by
  obtain ⟨W, own, ρ, R, o, i, z, f⟩ := q
  refine ⟨W, own, ρ, _, o, i, z, fun d v H1 r k1 o1 i1 => ?_⟩
  obtain ⟨ks, xs, rfl, r⟩ := r
  cases i1 with
  | @dic _ kvs _ _ b1 b2 b3 b4 b5 b6 =>
    refine ⟨_, _, rfl, b1, fun p hp => ?_⟩
    have s := Kp.same (st := W.st) (same_new (o := .dK kvs) hp)
    exact f _ _ _ r (k1.trans s) (o1.new hp) (.dic (.inl upd_same) (o1.fresh hp) b3 b4 b5 (b6.mono s))
/-- tuple(reversed(xs)) -/
def dTrev (d : DV) (R : DV → Prop) : Prop := match d with
  | .lst xs => R (.tup xs.reverse)
  | _ => False
def wTrev (w : WE) : WE := fun ρ R => w ρ fun d => dTrev d R
/-- isinstance(x, C), C a class of one's own -/
def isC (C : Addr) : DV → Option Bool
  | .obj D _ _ => if D = C then some true else none
  | .lst _ => some false
  | .tup _ => some false
  | .non => some false
  | _ => none
end
end DL
namespace DL
open PySem PySem.Spec PyProof.Rows L2 NW
section
variable {Ex : L2.WX} {X : Cx} {e : Expr} {es : List Expr} {r : WA} {C : Addr} {s : DS2} {st : Stmt}
def wMkI (s : DS2) (r : WA) : WE := fun ρ R => r ρ fun ds => s ds R fun _ => False
theorem mk_run {W : Wd} {H : Hp} {ds : List DV} {vs : List V} {R RX : DV → Prop} {Q : VK} {E : XK} (o : W.Ok H) (i : Iss W H vs ds) (h : s ds R RX) (f : Fin W H R Q) (g : FinX W H RX E) : ∀ x dx, H x = none → H dx = none → dx ≠ x →
    spI C s (.ref x :: vs) (upd (upd H dx (.own x)) x (.ins C dx [])) (fun v H2 => v = .non ∧ Q (.ref x) H2) E := fun x dx hx hdx hn =>
  ⟨W, ds, R, RX, x, dx, H, vs, rfl, rfl, hx, hdx, hn, o, i, h, fun d H' r k o' i' => ⟨rfl, f d _ H' r k o' i'⟩, g⟩
def wMkI0 (s : DS2) (dd : List DV) : WE := fun _ R => s dd R fun _ => False
/-- C(..) as a statement, what it raises wished for -/
def wDropI (s : DS2) (r : WA) : WS := fun E ρ => r ρ fun ds => s ds (fun _ => E.nx ρ) fun x => E.xc x ρ
end
def frzL1 : Sl → Sl
  | .ow xs => .dt (.lst xs)
  | s => s
/-- an instance whose fields are dicts and tuples of ints: it reaches no list -/
def flatO : DV → Prop
  | .obj _ _ xs => ∀ x ∈ xs, (∃ (ks : List Key) (zs : List Int), x = .dic ks (zs.map DV.int)) ∨ ∃ zs : List Int, x = .tup (zs.map DV.int)
  | _ => False
section
variable {Ex : L2.WX} {X : Cx} {e : Expr} {r : WA} {C : Addr} {s : DS2} {st : Stmt}
def wAsgIO (i : Nat) (s : DS2) (r : WA) : WS := fun E ρ => r (ρ.map frzL1) fun ds => s ds (fun d => flatO d ∧ E.nx (ρ.set i (.dt d))) fun _ => False
/-- x[k] = v, x a list of one's own -/
def wSetO (i : Nat) (wk wv : WE) : WS := fun E ρ => atO (fun xs => wv ρ fun v => wk ρ fun k => ∃ (n j : Nat), k = .int n ∧ ixN xs.length (n : Int) = some j ∧ E.nx (ρ.set i (.ow (xs.set j v)))) ρ[i]?
theorem dsetO (i : Nat) {wk wv : WE} (h : PS X st (tAsg (lift wv) (gSub (tVar i) (lift wk) aSet))) : PS X st (liftS Ex (wSetO i wk wv)) := ps_weak h fun D σ H q => by
  obtain ⟨B, own, ρ, E, c, h, d⟩ := q
  obtain ⟨xs, hx, h⟩ := atO_ex h
  refine ⟨B.w own, own, ρ, _, c.ok, c.e, h, fun dv v H1 r1 k1 o1 i1 => ?_⟩
  obtain ⟨p, vs, g1, g2, g3, g4, g5⟩ := c.e.ow i xs hx
  refine ⟨.ref p, g2, B.w own, own, ρ, _, o1, c.e.mono c.ok k1, r1, fun dk u H2 r2 k2 o2 i2 => ?_⟩
  obtain ⟨n, j, rfl, hj, r2⟩ := r2
  cases i2
  have c2 := c.mono (k1.trans k2) o2
  obtain ⟨p', us, f1, f2, f3, f4, f5⟩ := c2.e.ow i xs hx
  rw [g1] at f1; cases f1
  refine ⟨p, us, n, j, rfl, rfl, f3, by rw [f5.len]; exact hj, ?_⟩
  exact d.nx own _ _ _ r2 (c2.updO i g1 hx (by rw [List.length_set]; exact f4) (f5.set (i1.mono k2) j))
end
structure CInst (K : PySem.W.Frag) (C : Addr) : Prop where
  cl : Cls K C
  ha : PySem.W.findIn K (.ref C) "__class__" = some (some (.builtin "object.__class__"))
  hn : PySem.W.specialIn K (.builtin "object.__class__") "__get__" = some (some (.builtin "getset_descriptor.__get__"))
  htk : PySem.W.takesIn K (.builtin "object.__class__") = some true
  hm : PySem.W.mroIn K C (.type "object") = some true
  s : PySem.W.kitOne K (.ref C) (.ref C) = some true
  n : PySem.W.kitOne K (.type "NoneType") (.ref C) = some false
  l : PySem.W.kitOne K (.type "list") (.ref C) = some false
  t : PySem.W.kitOne K (.type "tuple") (.ref C) = some false
section
variable {X : Cx} {e : Expr} {w : WE} {C : Addr}
def wIsC (C : Addr) (w : WE) : WE := fun ρ R => w ρ fun d => ∃ b, isC C d = some b ∧ R (.bl b)
theorem disC {K : PySem.W.Frag} (I : CInst K C) (h : PE X e (tCB (rIsi K) (tCons (lift w) (tCons (tC (.ref C)) tNil)))) : PE X e (lift (wIsC C w)) := pe_weak h fun σ H Q q => by
  obtain ⟨W, own, ρ, R, o, i, z, f⟩ := q
  refine ⟨W, own, ρ, _, o, i, z, fun d v H1 r k1 o1 i1 => ?_⟩
  obtain ⟨b, h1, r⟩ := r
  have fin := fun (t : Value) (ty : TyX K H1 v t) (hk : PySem.W.kitOne K t (.ref C) = some b) => (⟨v, .ref C, t, .ref C, b, rfl, .own C, ty, hk, f _ _ _ r k1 o1 (.bl b)⟩ : rIsi K [v, .ref C] H1 Q)
  cases i1 with
  | non => cases h1; exact fin _ (.base .non) I.n
  | lst a1 => cases h1; exact fin _ (.base (.lst a1)) I.l
  | tup a1 => cases h1; exact fin _ (.base (.tup a1)) I.t
  | @obj a dx D fs ns xs a1 =>
    have h1 : (if D = C then some true else none) = some b := h1
    by_cases e : D = C
    · rw [if_pos e] at h1
      cases h1
      subst e
      exact fin _ (.base (.ins a1 I.cl I.ha I.hn I.htk I.hm)) I.s
    · rw [if_neg e] at h1; cases h1
  | _ => cases h1
end
end DL
namespace NW
open PySem PySem.Spec PyProof.Rows L2
section
variable {K : PySem.W.Frag} {C : Addr}
theorem ba2 {a b : Bool} (h : (a && b) = true) : a = true ∧ b = true := Bool.and_eq_true_iff.mp h
theorem clsB_ok (h : clsB K C = true) : Cls K C := by
  obtain ⟨h1, h⟩ := ba2 h
  obtain ⟨h2, h⟩ := ba2 h
  obtain ⟨h3, h⟩ := ba2 h
  exact ⟨h1, h2, h3, He.eqO_ok h⟩
theorem methB_ok {m : Str} (h : methB K C m = true) : Meth K C m (He.ma K C m) := by
  obtain ⟨h1, h⟩ := ba2 h
  obtain ⟨h2, h3⟩ := ba2 h
  exact ⟨He.eqO_ok h1, h2, h3⟩
theorem mkB_ok (h : mkB K C = true) : Mk K C (He.ma K C "__init__") := by
  obtain ⟨h1, h⟩ := ba2 h
  obtain ⟨h2, h⟩ := ba2 h
  obtain ⟨h3, h4⟩ := ba2 h
  exact ⟨h1, He.eqO_ok h2, h3, h4⟩
theorem propB_ok {f : Str} (h : propB K C f = true) : PropOf K C f (He.ma K C f) (He5.wf K C "property" f) := by
  obtain ⟨h1, h⟩ := ba2 h
  obtain ⟨h2, h⟩ := ba2 h
  obtain ⟨h3, h4⟩ := ba2 h
  refine ⟨He.eqO_ok h1, He.eqO_ok h2, of_decide_eq_true h3, ?_⟩
  unfold He5.wf
  split at h4
  · rename_i g r e
    exact ⟨r, by rw [e]⟩
  · cases h4
theorem cinB_ok (c : Cls K C) (h : cinB K C = true) : DL.CInst K C := by
  obtain ⟨h1, h⟩ := ba2 h
  obtain ⟨h2, h⟩ := ba2 h
  obtain ⟨h3, h⟩ := ba2 h
  obtain ⟨h4, h⟩ := ba2 h
  obtain ⟨h5, h⟩ := ba2 h
  obtain ⟨h6, h⟩ := ba2 h
  obtain ⟨h7, h8⟩ := ba2 h
  exact ⟨c, He.eqO_ok h1, He.eqO_ok h2, of_decide_eq_true h3, of_decide_eq_true h4, of_decide_eq_true h5, of_decide_eq_true h6, of_decide_eq_true h7, of_decide_eq_true h8⟩
theorem nfB_ok (h : nfB K C = true) : DL.NFs K C := by
  obtain ⟨h1, h⟩ := ba2 h
  obtain ⟨h2, h⟩ := ba2 h
  obtain ⟨h3, h4⟩ := ba2 h
  exact ⟨h1, h2, h3, h4⟩
theorem ktuB_ok {a : Addr} (h : ktuB K a = true) : DL.KTu K a := by
  unfold ktuB at h
  split at h
  · rename_i o e
    split at h
    · rename_i n its k e1 e2
      obtain ⟨h1, h2⟩ := ba2 h
      have hl : its.toList = [] := List.isEmpty_iff.mp h2
      refine ⟨o, its, k, e, by rw [e1, beq_iff_eq.mp h1], e2, ?_, by rw [hl]; exact .nil⟩
      have : its.size = 0 := by rw [← Array.length_toList, hl]; rfl
      rw [this]; exact Nat.zero_le _
    · cases h
  · cases h
end
end NW
namespace DL
open PySem PySem.Spec PyProof.Rows L2 NW
def kD : Key → DV
  | .inl i => .int i
  | .inr s => .str s
def items (ks : List Key) (xs : List DV) : List DV := List.zipWith (fun k x => .tup [kD k, x]) ks xs
theorem kD_is {W : Wd} {H : Hp} (k : Key) : Is W H (kV k) (kD k) := by
  cases k with
  | inl i => exact .int i
  | inr s => exact .str s
section
variable {X : Cx} {e : Expr} {w : WE}
def wItems (w : WE) : WE := fun ρ R => w ρ fun d => ∃ ks xs, d = .dic ks xs ∧ R (.lst (items ks xs))
theorem items_iss {W : Wd} {H H' : Hp} (hs : Same H H') (o : W.Ok H) : ∀ {ts : List Addr} {kvs : List (Key × V)} {xs : List DV}, (∀ t ∈ ts, H t = none) → Paired (fun (t : Addr) (q : Key × V) => H' t = some (.tup [kV q.1, q.2])) ts kvs → Iss W H' (kvs.map (·.2)) xs → Iss W H' (ts.map V.ref) (items (kvs.map (·.1)) xs)
  | _, _, _, _, .nil, h => by cases h; exact .nil
  | t :: ts, q :: kvs, _, hn, .cons p r, h => by
    cases h with
    | cons a b => exact .cons (.tup p (o.fresh (hn t List.mem_cons_self)) (by show 2 ≤ 1000000; decide) (.cons (kD_is q.1) (.cons a .nil))) (items_iss hs o (fun u hu => hn u (List.mem_cons_of_mem _ hu)) r b)
theorem pair_len {α β : Type} {F : α → β → Prop} : ∀ {xs : List α} {ys : List β}, Paired F xs ys → xs.length = ys.length
  | _, _, .nil => rfl
  | _, _, .cons _ t => congrArg (· + 1) (pair_len t)
/-- list(e.items()), the dict walked by somebody or not -/
def rItemsR : V → Hp → VK → Prop := fun x H Q => ∃ (d : Addr) (kvs : List (Key × V)), x = .ref d ∧ Rd H d (.dK kvs) ∧
  ∀ (H' : Hp) (p : Addr) (ts : List Addr), (∀ b o, H b = some o → H' b = some o) → H p = none → (∀ t ∈ ts, H t = none) → p ∉ ts → H' p = some (.lst (ts.map V.ref)) → Paired (fun (t : Addr) (q : Key × V) => H' t = some (.tup [kV q.1, q.2])) ts kvs → Q (.ref p) H'
def tListItemsR (te : TE) : TE := fun σ H Q => te σ H fun x H1 => rItemsR x H1 Q
theorem pe_listItemsR {te : TE} {p apos cpos pos : Pos} (hc : X.calm = true) (he : PE X e te) (hg : Gl X "list") (hm : X.mg "list" = none) (hv : bootBuiltins "list" = some (.type "list")) (hbase : attributeBase e "items" X.env (eval e X.env) = eval e X.env := by rfl) (hline : (apos.endLine == cpos.line) = true := by rfl)
    (hs : starEach [.Call (.Attribute e "items" apos) [] [] cpos] X.env = (false, eval (.Call (.Attribute e "items" apos) [] [] cpos) X.env) :: starEach [] X.env := by rfl) :
    PE X (.Call (.Name "list" p) [.Call (.Attribute e "items" apos) [] [] cpos] [] pos) (tListItemsR te) := by
  refine ⟨fun pins s σ H Q I hq => ?_⟩
  refine wpAny_Call_Name_kw (ld_blt I hg hm hv ?_)
  refine PyProof.Rows.callWith_type1 ?_ hs rfl
  rw [hs]
  show wpAny _ _ (spliced ((false, eval (.Call (.Attribute e "items" apos) [] [] cpos) X.env) :: backTo pos (starEach [] X.env))) _ _ s
  refine Calls.spliced_cons ?_
  refine wpAny_Call_method (T := "dict") (id := "dict.items") hbase rfl hline F.plainAttrs_dict F.slot_dict_items F.type_dict_items (thn (he.run pins s σ H _ I hq) fun u s1 ⟨x, H1, I1, rx, d, kvs, ex, hd, q⟩ => ?_)
  subst ex
  obtain rfl : u = Value.ref d := rx
  obtain ⟨hz, hs0, vs, kv, hdo⟩ := hd.ok I1.hok
  obtain ⟨ep, hat⟩ := hdo.dictAt
  have lk : kvs.length = vs.length := Paired.length kv
  have I2 : Inv X pins σ H1 { s1 with heap := s1.heap.push { cls := .type "dict_items", data := .fields #[.ref d] } } := I1.kept (t' := s1.toks) fun b ob q => Heap.get?_push_of_some _ q
  refine ⟨hdo.typeIs, hdo.mapOf.noDict, ?_⟩
  show wpAny _ _ (callWith cpos (.builtin "dict.items") [.ref d] [] []) _ X.xe s1
  refine method_meetsIn F.slot_dict_items F.entry_dict_items rfl (PySem.evalArgs_none ⟨rfl, hdo.typeIs, F.args_dict_items_1 _, _, meets_dict_items (mixKind X.prog X.w) d hs0, ⟨vs, hdo⟩, ?_⟩)
  refine Calls.spliced_nil ?_
  refine PySem.W.kdx_call (knd := mixKind X.prog X.w) (kvs := vs) (ep := ep) (I1.ok.hd hc) ⟨_, Heap.get?_push_size _ rfl, rfl, rfl⟩ (hat.push _) (by omega) fun h' tk acc c as hk hS hl hG hacc => ?_
  obtain ⟨H', k1, k2, k3, k4, k5, k6, J⟩ := LiI.items_laid (tk := tk) I2 hz kv hk hS hl hG hacc
  exact ⟨.ref _, H', J, rfl, q H' _ as k1 k2 k3 k4 k5 k6⟩
theorem ditems (h : PE X e (tListItemsR (lift w))) : PE X e (lift (wItems w)) := pe_weak h fun σ H Q q => by
  obtain ⟨W, own, ρ, R, o, i, z, f⟩ := q
  refine ⟨W, own, ρ, _, o, i, z, fun d v H1 r k1 o1 i1 => ?_⟩
  obtain ⟨ks, xs, rfl, r⟩ := r
  cases i1 with
  | @dic a kvs _ _ b1 b2 b3 b4 b5 b6 =>
    refine ⟨a, kvs, rfl, b1, fun H' p ts hs hp ht hpt hl pr => ?_⟩
    have s : Same H1 H' := hs
    subst b4
    refine f _ _ _ r (k1.trans (Kp.same s)) (o1.same s) (.lst hl (o1.fresh hp) (by rw [List.length_map, pair_len pr]; exact b3) ?_)
    exact items_iss s o1 ht pr (b6.mono (Kp.same s))
end
end DL
namespace NW
open PySem PySem.Spec PyProof.Rows L2
section
variable {prog : Program} {w : World} {A : Around} {E : Value → Shared → Prop} {s : Shared} {l : Addr}
theorem sum_intTupG {xs : Array (Int × Tok)} {Q : Value → Shared → Prop} (hh : A.handled = none) (hl : s.heap.IsTuple l (intItems xs))
    (h : ∀ h' tk t', (∀ b o, s.heap.get? b = some o → h'.get? b = some o) → Q (.int (preSum (numAt xs) xs.size) t') { s with heap := h', toks := tk }) :
    wpAny (model prog w) A (call (.builtin "sum") [.ref l]) Q E s := by
  refine call_sum_walkG (wpAny_pyIter_tuple hl ?_)
  have hlt : l < s.heap.objs.size := by obtain ⟨o, ho, _⟩ := hl; exact Heap.lt_size ho
  have st : (s.heap.push { cls := .type "tuple_iterator", data := .fields #[.ref l, rawInt 0] }).IsTupleIter s.heap.objs.size l 0 := ⟨_, Heap.get?_push_size _ rfl, rfl, rfl⟩
  refine ⟨_, _, _, _, _, _, numAt xs, rfl, Walks.tuple (A := A.in1) hh s.heap.objs.size l (Nat.ne_of_lt hlt) (intItems xs), ⟨st, ?_⟩, ?_, (fun _ _ => intItems_at), fun h' tk t' hk => ?_⟩
  · obtain ⟨o, ho, hc, n, hd⟩ := hl
    exact ⟨o, Heap.get?_push_of_some _ ho, hc, n, hd⟩
  · intro b hb
    show b < (s.heap.push _).objs.size
    rw [Heap.size_push]
    rcases List.mem_cons.mp hb with rfl | hb
    · exact Nat.lt_succ_self _
    · rcases List.mem_cons.mp hb with rfl | hb
      · exact Nat.lt_succ_of_lt hlt
      · cases hb
  · have hk' : ∀ b o, s.heap.get? b = some o → h'.get? b = some o := fun b o e => hk b o (fun hm => by
      rcases List.mem_cons.mp hm with e1 | hm
      · exact absurd (e1 ▸ Heap.lt_size e) (Nat.lt_irrefl _)
      · cases hm) (Heap.get?_push_of_some _ e)
    have := h h' tk t' hk'
    simpa [intItems] using this
theorem sum_rawT {its : List Value} {ns : List Int} {Q : Value → Shared → Prop} (hh : A.handled = none) (hl : s.heap.IsTuple l its.toArray) (hi : IntsAre its ns)
    (h : ∀ h' tk t', (∀ b o, s.heap.get? b = some o → h'.get? b = some o) → Q (.int ns.sum t') { s with heap := h', toks := tk }) : wpAny (model prog w) A (call (.builtin "sum") [.ref l]) Q E s := by
  obtain ⟨xs, e⟩ := hi.allInts.items
  have hn : numsOf (intItems xs).toList = ns := by rw [← e]; exact hi.numsOf
  rw [nums_intItems] at hn
  rw [e] at hl
  refine sum_intTupG hh hl fun h' tk t' hk => ?_
  have := h h' tk t' hk
  rw [preSum_eq, List.take_of_length_le (by simp), hn]; exact this
end
def rSumA (K : PySem.W.Frag) : List V → Hp → VK → Prop := fun vs H Q => rSum K vs H Q ∨ ∃ (a : Addr) (ns : List Int), vs = [V.ref a] ∧ SqT K H a (ns.map V.int) ∧ Q (.int ns.sum) H
theorem cr_sumA {X : Cx} (hc : X.calm = true) : CallR X (.builtin "sum") (rSumA X.K) := by
  intro pins s σ H vs us Q I r h
  rcases h with h | ⟨a, ns, rfl, hs, q⟩
  · exact cr_sum hc pins s σ H vs us Q I r h
  · obtain ⟨its, rv, hl, _⟩ := I.tuple hs
    rw [Vals.ref1 r]
    exact sum_rawT (I.ok.hd hc) (show s.heap.IsTuple a its.toArray from hl) rv.ints fun h' tk t' hk => ⟨.int _, H, I.kept hk, ⟨_, rfl⟩, q⟩
theorem dp_ints {K : PySem.W.Frag} {H : Hp} : ∀ ns : List Int, DpAll K H (ns.map V.int) (ns.map PyData.int)
  | [] => .nil
  | n :: ns => .cons (.int n) (dp_ints ns)
theorem eqv_ints : ∀ ns ms : List Int, PyData.eqvAll (ns.map PyData.int) (ms.map PyData.int) = decide (ns = ms)
  | [], [] => rfl
  | [], _ :: _ => rfl
  | _ :: _, [] => rfl
  | n :: ns, m :: ms => by
    show (PyData.eqv (.int n) (.int m) && PyData.eqvAll (ns.map PyData.int) (ms.map PyData.int)) = _
    rw [eqv_ints ns ms]
    show ((n == m) && _) = _
    by_cases e : n = m
    · by_cases e2 : ns = ms
      · simp [e, e2]
      · simp [e, e2]
    · simp [e]
theorem can_ints : ∀ ns : List Int, PyData.canLayAll0 (ns.map PyData.int) = true
  | [] => by simp [PyData.canLayAll0]
  | n :: ns => by
    have ih := can_ints ns
    simp [PyData.canLayAll0, PyData.canLay0, ih]
theorem depA_ints : ∀ ns : List Int, PyData.depthAll (ns.map PyData.int) = 0
  | [] => by simp [PyData.depthAll]
  | n :: ns => by
    have ih := depA_ints ns
    simp [PyData.depthAll, PyData.depth, ih]
theorem shaped_ints (ns : List Int) : SeqAt.shaped (.tuple (ns.map PyData.int)) = true := by
  unfold SeqAt.shaped
  have h1 : (PyData.tuple (ns.map PyData.int)).canLay0 = true := by simp [PyData.canLay0, can_ints]
  have h2 : (PyData.tuple (ns.map PyData.int)).depth = 1 := by simp [PyData.depth, depA_ints]
  rw [h1, h2]
  rfl
def rEqTI (K : PySem.W.Frag) : R2 := fun x y H Q => ∃ (a b : Addr) (ns ms : List Int), x = .ref a ∧ y = .ref b ∧ SqT K H a (ns.map V.int) ∧ SqT K H b (ms.map V.int) ∧ Q (.bl (decide (ns = ms))) H
theorem op_eqTI {X : Cx} (hu : X.A.units + 64 < cLine) : OpR X (compareOp .Eq) (rEqTI X.K) := by
  intro pins s σ H x y v u Q I rx ry h
  obtain ⟨a, b, ns, ms, rfl, rfl, ha, hb, q⟩ := h
  refine op_eqD hu pins s σ H _ _ v u Q I rx ry ⟨_, _, .tup ha (dp_ints ns), .tup hb (dp_ints ms), shaped_ints ns, shaped_ints ms, ?_⟩
  show Q (.bl (PyData.eqvAll (ns.map PyData.int) (ms.map PyData.int))) H
  rw [eqv_ints]
  exact q
theorem hu64 {k : Nat} {A : Around} (h : Room k A) : A.units + 64 < cLine := by have := h.un; omega
end NW
namespace DL
open PySem PySem.Spec PyProof.Rows L2 NW
def dSumA : DA := fun ds R => match ds with
  | [.lst xs] => ∃ ns : List Int, xs = ns.map DV.int ∧ R (.int ns.sum)
  | [.tup xs] => ∃ ns : List Int, xs = ns.map DV.int ∧ R (.int ns.sum)
  | _ => False
theorem clSumA {K : PySem.W.Frag} : Cl (rSumA K) dSumA := by
  intro W own H vs ds R Q o h hd f
  unfold dSumA at hd
  split at hd
  · obtain ⟨v, rfl, i⟩ := pair1 h
    obtain ⟨ns, rfl, r⟩ := hd
    obtain ⟨p, us, rfl, h1, h2, h3⟩ := i.lst
    obtain rfl := iss_int h3
    exact .inl ⟨p, ns, rfl, SqL.of h1, f.int o r⟩
  · obtain ⟨v, rfl, i⟩ := pair1 h
    obtain ⟨ns, rfl, r⟩ := hd
    obtain ⟨p, us, rfl, h1, h2, h3⟩ := i.tup
    obtain rfl := iss_int h3
    exact .inr ⟨p, ns, rfl, SqT.of h1, f.int o r⟩
  · exact hd.elim
/-- == of tuples of ints -/
def dEqT : D2 := fun x y R => ∃ ns ms : List Int, x = .tup (ns.map DV.int) ∧ y = .tup (ms.map DV.int) ∧ R (.bl (decide (ns = ms)))
theorem opEqT {K : PySem.W.Frag} : OpI (rEqTI K) dEqT := fun W H x y a b R Q o hx hy h f => by
  obtain ⟨ns, ms, rfl, rfl, h⟩ := h
  cases hx with
  | tup h1 h2 h3 h4 =>
    cases hy with
    | tup g1 g2 g3 g4 =>
      rw [iss_int h4] at h1
      rw [iss_int g4] at g1
      exact ⟨_, _, ns, ms, rfl, rfl, SqT.of h1, SqT.of g1, f.bl o h⟩
/-- int of a long text -/
def dIntL : DA := fun ds R => match ds with
  | [.str s] => ∃ n, PySem.intText? s = some n ∧ s.length ≤ 1000000 ∧ R (.int n)
  | _ => False
theorem clIntL : Cl rIntL dIntL := by
  intro W own H vs ds R Q o h hd f
  unfold dIntL at hd
  split at hd
  · obtain ⟨v, rfl, i⟩ := pair1 h
    cases i.str
    obtain ⟨n, h1, h2, r⟩ := hd
    exact ⟨_, n, rfl, h1, le_line h2, f.int o r⟩
  · exact hd.elim
end DL
namespace DL
open PySem PySem.Spec PyProof.Rows L2 NW
def flatR : DV → Prop
  | .bl _ => True
  | .int _ => True
  | .str _ => True
  | .non => True
  | _ => False
def wCallF (s : DS1) (r : WA) : WE := fun ρ R => r (frzE ρ) fun ds => s ds fun d => flatR d ∧ R d
theorem dcallF {X : Cx} {e : Expr} {r : WA} {s : DS1} (h : PE X e (tCall (dsp s) [] E0 (liftA r))) : PE X e (lift (wCallF s r)) := pe_weak h fun σ H Q q => by
  obtain ⟨W, own, ρ, R, o, i, z, f⟩ := q
  refine ⟨W0of W own, fun _ => none, frzE ρ, _, ok_less (W := W) (W' := W0of W own) rfl w0of_sub o, isE_all o i, z, fun ds vs H1 r1 k1 o1 i1 => ?_⟩
  show dsp s (vs ++ []) H1 Q E0
  rw [List.append_nil]
  refine ⟨W0of W own, ds, _, o1, i1, r1, fun d v H2 r2 k2 o2 i2 => ?_⟩
  obtain ⟨hf, r2⟩ := r2
  have ok := ok_keep o (k1.trans k2) o2.s
  cases i2 with
  | bl b => exact f _ _ H2 r2 (k1.trans k2) ok (.bl b)
  | int b => exact f _ _ H2 r2 (k1.trans k2) ok (.int b)
  | str b => exact f _ _ H2 r2 (k1.trans k2) ok (.str b)
  | non => exact f _ _ H2 r2 (k1.trans k2) ok .non
  | _ => exact hf.elim
def kset (l : List Int) : List Int := l.foldl (fun ks n => if n ∈ ks then ks else ks ++ [n]) []
theorem kset_snoc (l : List Int) (n : Int) : kset (l ++ [n]) = if n ∈ kset l then kset l else kset l ++ [n] := by
  unfold kset
  rw [List.foldl_append]
  rfl
theorem kset_take {l : List Int} {i : Nat} {n : Int} (h : l[i]? = some n) : l.take (i + 1) = l.take i ++ [n] := by
  rw [List.take_add_one, h]
  rfl
theorem kset_ind {P : List Int → List Int → Prop} (h0 : P [] []) (hs : ∀ l n, P l (kset l) → P (l ++ [n]) (if n ∈ kset l then kset l else kset l ++ [n])) : ∀ l, P l (kset l) := by
  have key : ∀ m (l : List Int), l.length = m → P l (kset l) := by
    intro m
    induction m with
    | zero =>
      intro l hl
      rw [List.length_eq_zero_iff.mp hl]
      exact h0
    | succ m ih =>
      intro l hl
      have ne : l ≠ [] := fun e => by rw [e] at hl; cases hl
      have e := List.dropLast_concat_getLast ne
      rw [← e, kset_snoc]
      exact hs _ _ (ih _ (by rw [List.length_dropLast, hl]; rfl))
  exact fun l => key _ l rfl
theorem kset_mem (n : Int) (l : List Int) : n ∈ kset l ↔ n ∈ l := by
  refine kset_ind (P := fun l ks => n ∈ ks ↔ n ∈ l) Iff.rfl (fun l m h => ?_) l
  split
  · rename_i z
    rw [h, List.mem_append, List.mem_singleton]
    refine ⟨.inl, fun q => q.elim id fun q => ?_⟩
    subst q
    exact h.mp z
  · rw [List.mem_append, List.mem_append, h]
theorem kset_len (l : List Int) : (kset l).length ≤ l.length := by
  refine kset_ind (P := fun l ks => ks.length ≤ l.length) (Nat.le_refl _) (fun l m h => ?_) l
  rw [List.length_append]
  split
  · omega
  · rw [List.length_append]; omega
theorem lk_map (g : Int → DV) (n : Int) : ∀ ks : List Int, lkK (ks.map Sum.inl) (ks.map g) (Sum.inl n) = if n ∈ ks then some (g n) else none
  | [] => rfl
  | k :: ks => by
    show (if (Sum.inl k : Key) = Sum.inl n then some (g k) else lkK (ks.map Sum.inl) (ks.map g) (Sum.inl n)) = _
    rw [lk_map g n ks]
    by_cases e : k = n
    · subst e
      rw [if_pos rfl, if_pos List.mem_cons_self]
    · rw [if_neg fun z => e (Sum.inl.inj z)]
      by_cases h : n ∈ ks
      · rw [if_pos h, if_pos (List.mem_cons_of_mem _ h)]
      · rw [if_neg h, if_neg fun z => (List.mem_cons.mp z).elim (fun q => e q.symm) h]
def bagT (l : List Int) : DV := .dic ((kset l).map Sum.inl) ((kset l).map fun k => .int ((l.count k : Nat) : Int))
def bagD (K : PySem.W.Frag) (l : List Int) : DV := .obj (He.ga K "Bag") ["_table", "_items"] [bagT l, .tup (l.map DV.int)]
theorem lk_count (l : List Int) (n : Int) : (lkK ((kset l).map Sum.inl) ((kset l).map fun k => .int ((l.count k : Nat) : Int)) (Sum.inl n)).getD (.int 0) = .int ((l.count n : Nat) : Int) := by
  rw [lk_map]
  split
  · rfl
  · rename_i h
    rw [kset_mem] at h
    rw [List.count_eq_zero_of_not_mem h]
    rfl
theorem hasK_int {ks : List Int} {n : Int} : hasK (ks.map Sum.inl) (Sum.inl n) = decide (n ∈ ks) := by
  rw [Bool.eq_iff_iff, hasK_iff, decide_eq_true_eq, List.mem_map]
  constructor
  · rintro ⟨y, hy, e⟩; cases e; exact hy
  · intro h; exact ⟨n, h, rfl⟩
theorem put_ks (l : List Int) (n : Int) : putKs ((kset l).map Sum.inl) (Sum.inl n) = (kset (l ++ [n])).map Sum.inl := by
  unfold putKs
  rw [hasK_int, kset_snoc]
  by_cases h : n ∈ kset l
  · rw [if_pos h, if_pos (decide_eq_true h)]
  · rw [if_neg h, if_neg (by rw [decide_eq_false h]; decide), List.map_append]
    rfl
theorem zip_map (ks : List Int) (g : Int → DV) (n : Int) (v : DV) : List.zipWith (fun (k' : Key) x => if k' = Sum.inl n then v else x) (ks.map Sum.inl) (ks.map g) = ks.map fun k => if k = n then v else g k := by
  induction ks with
  | nil => rfl
  | cons k ks ih =>
    show (if (Sum.inl k : Key) = Sum.inl n then v else g k) :: _ = _
    rw [ih]
    show _ = (if k = n then v else g k) :: _
    by_cases e : k = n
    · rw [if_pos e, if_pos (congrArg Sum.inl e)]
    · rw [if_neg e, if_neg fun z => e (Sum.inl.inj z)]
theorem put_xs (l : List Int) (n : Int) : putXs ((kset l).map Sum.inl) ((kset l).map fun k => .int ((l.count k : Nat) : Int)) (Sum.inl n) (.int (((l.count n : Nat) : Int) + 1)) = (kset (l ++ [n])).map fun k => .int (((l ++ [n]).count k : Nat) : Int) := by
  unfold putXs
  rw [hasK_int, kset_snoc]
  have cn : ∀ k, (l ++ [n]).count k = l.count k + if k = n then 1 else 0 := fun k => by
    rw [List.count_append, List.count_singleton]
    by_cases e : k = n
    · subst e; simp
    · rw [if_neg e, if_neg (by simpa using fun z => e z.symm)]
  by_cases h : n ∈ kset l
  · rw [if_pos h, if_pos (decide_eq_true h), zip_map]
    refine List.map_congr_left fun k hk => ?_
    rw [cn k]
    by_cases e : k = n
    · subst e; rw [if_pos rfl, if_pos rfl]; rfl
    · rw [if_neg e, if_neg e]; rfl
  · rw [if_neg h, if_neg (by rw [decide_eq_false h]; decide), List.map_append]
    congr 1
    · refine List.map_congr_left fun k hk => ?_
      rw [cn k, if_neg fun e => h (by rw [← e]; exact hk)]
      rfl
    · show _ = [DV.int (((l ++ [n]).count n : Nat) : Int)]
      rw [cn n, if_pos rfl]
      rfl
end DL
namespace DL
open PySem PySem.Spec PyProof.Rows L2 NW
local macro_rules | `(tactic| walk_at "dl1") => `(tactic| simp only [wAsgD, wPutD, atD, atDR, asK, wInOD, wLenOD, fCallN, wCallB, wCallK, wCallD, wDropK, frzE, frz1, wFld, wProp, wMeth, wMeth0, wLenI, dInI, dEqI, tyOk, iOwnD, iVk, wIsC, isC, wSelf, wSelfD, atS, wGet, asD, wGetO, wInDD, wDict, wTrev, dTrev, wMkI, wMkI0, wDropI, wAsgIO, frzL1, wSetO, dSumA, dEqT, dIntL, wCallF, flatR, wRaise1, fSrt, wItems, wTry, wAsgX, wDropX, wKd, wXf, wSeq, wAsg, wAsgO, wRet, wIfS, wNx, wPass, wBk, wCt, wDrop, wAug, wApp, wAppPop, wPop, wFor, wFz, wV, wVP, atV, atP, atO, wC, wOp, wCall, wCallN, wCB, aC, aN, wL, wTu, fL, wF, fCat, fList, wTB, wTru, wAnd, wOr, wNot, wAndV, wOrV, wNotV, wIf, wChain, wIsN, wNeg, dNeg, wSl, pN, pP, dSl, wLrev, dLrev, wIsi, wIsi2, iL, iT, iV, iS, iR1, iR2, gN, fLc, wYes, wiL,
  dAdd, dSub, dMul, dMulS, dMulL, dDiv, dMod, dLt, dLe, dGt, dGe, dEq, dNe, eqD, dIn, dNi, dIx, dTru, isNon, dLen, dInt, dAbs, dMax, dMin, dList, dTup, dStr, dIAdd, frzE, frz1, startD, List.map_cons, List.map_nil, List.length_cons, List.length_nil, List.replicate_succ, List.replicate_zero, List.cons_append, List.nil_append, List.append_nil, List.getElem?_cons_zero, List.getElem?_cons_succ, List.set_cons_zero, List.set_cons_succ, Nat.reduceSub, Nat.reduceAdd, if_true, if_false, ite_true, ite_false, reduceIte, Bool.false_eq_true, decide_true, decide_false, Bool.not_true, Bool.not_false, Bool.not_eq_true', decide_eq_true_eq, decide_eq_false_iff_not, isi_int_int, isi_int_bool, isi_bl_int, isi_bl_bool, isi_non_int, isi_non_bool, isi_str_int, isi_str_bool, isi_str_str, isi_lst_list, isi_tup_tuple, Option.some.injEq, exists_eq_left', exists_eq_left, DV.int.injEq, DV.str.injEq, DV.bl.injEq, List.cons.injEq, and_true, true_and])
local macro_rules | `(tactic| walk_at "dl") => `(tactic| try walk_at "dl1")
local macro_rules | `(tactic| walk_at "go") => `(tactic| repeat' (first
  | (intro _)
  | walk_at "dl1"
  | (refine ⟨by first | decide | omega, ?_⟩)
  | split))
theorem lk_items (a b : DV) : lkD ["_table", "_items"] [a, b] "_items" = some b := rfl
theorem lk_table (a b : DV) : lkD ["_table", "_items"] [a, b] "_table" = some a := rfl
def w_PBag_numbers (K : PySem.W.Frag) : WS :=
  (wRet (wFld (He.ga K "Bag") "_items" (wV 0)))
def s_PBag_numbers (K : PySem.W.Frag) : DS1 := fun ds R => ∃ l, ds = [bagD K l] ∧ R (.tup (l.map DV.int))
theorem l_PBag_numbers (K : PySem.W.Frag) : ∀ ds R, s_PBag_numbers K ds R → ds.length = 1 := by
  rintro ds R ⟨_, rfl, _⟩
  rfl
theorem o_PBag_numbers (K : PySem.W.Frag) : Owes 1 (s_PBag_numbers K) (w_PBag_numbers K) := by
  intro ds R h
  obtain ⟨l, rfl, r⟩ := h
  unfold w_PBag_numbers
  walk_at "dl"
  exact ⟨_, _, _, rfl, lk_items _ _, r⟩
def w_PBag_total (K : PySem.W.Frag) : WS :=
  (wRet (wCB dSumA (aC (wFld (He.ga K "Bag") "_items" (wV 0)) aN)))
def s_PBag_total (K : PySem.W.Frag) : DS1 := fun ds R => ∃ l, ds = [bagD K l] ∧ R (.int l.sum)
theorem l_PBag_total (K : PySem.W.Frag) : ∀ ds R, s_PBag_total K ds R → ds.length = 1 := by
  rintro ds R ⟨_, rfl, _⟩
  rfl
theorem o_PBag_total (K : PySem.W.Frag) : Owes 1 (s_PBag_total K) (w_PBag_total K) := by
  intro ds R h
  obtain ⟨l, rfl, r⟩ := h
  unfold w_PBag_total
  walk_at "dl"
  exact ⟨_, _, _, rfl, lk_items _ _, l, rfl, r⟩
def w_PBag_table (K : PySem.W.Frag) : WS :=
  (wRet (wDict (wFld (He.ga K "Bag") "_table" (wV 0))))
def s_PBag_table (K : PySem.W.Frag) : DS1 := fun ds R => ∃ l, ds = [bagD K l] ∧ R (bagT l)
theorem l_PBag_table (K : PySem.W.Frag) : ∀ ds R, s_PBag_table K ds R → ds.length = 1 := by
  rintro ds R ⟨_, rfl, _⟩
  rfl
theorem o_PBag_table (K : PySem.W.Frag) : Owes 1 (s_PBag_table K) (w_PBag_table K) := by
  intro ds R h
  obtain ⟨l, rfl, r⟩ := h
  unfold w_PBag_table
  walk_at "dl"
  exact ⟨_, _, _, rfl, lk_table _ _, _, _, rfl, r⟩
def w_PBag___len__ (K : PySem.W.Frag) : WS :=
  (wRet (wCB dLen (aC (wFld (He.ga K "Bag") "_items" (wV 0)) aN)))
def s_PBag___len__ (K : PySem.W.Frag) : DS1 := fun ds R => ∃ l, ds = [bagD K l] ∧ R (.int ((l.length : Nat) : Int))
theorem l_PBag___len__ (K : PySem.W.Frag) : ∀ ds R, s_PBag___len__ K ds R → ds.length = 1 := by
  rintro ds R ⟨_, rfl, _⟩
  rfl
theorem o_PBag___len__ (K : PySem.W.Frag) : Owes 1 (s_PBag___len__ K) (w_PBag___len__ K) := by
  intro ds R h
  obtain ⟨l, rfl, r⟩ := h
  unfold w_PBag___len__
  walk_at "dl"
  exact ⟨_, _, _, rfl, lk_items _ _, by show R (.int (((l.map DV.int).length : Nat) : Int)); rw [List.length_map]; exact r⟩
def w_PBag_times (K : PySem.W.Frag) : WS :=
  (wRet (wGet (wFld (He.ga K "Bag") "_table" (wV 0)) (wV 1) (wC (.int 0))))
def s_PBag_times (K : PySem.W.Frag) : DS1 := fun ds R => ∃ l n, ds = [bagD K l, .int n] ∧ R (.int ((l.count n : Nat) : Int))
theorem l_PBag_times (K : PySem.W.Frag) : ∀ ds R, s_PBag_times K ds R → ds.length = 2 := by
  rintro ds R ⟨_, _, rfl, _⟩
  rfl
theorem o_PBag_times (K : PySem.W.Frag) : Owes 2 (s_PBag_times K) (w_PBag_times K) := by
  intro ds R h
  obtain ⟨l, n, rfl, r⟩ := h
  unfold w_PBag_times
  walk_at "dl"
  refine ⟨_, _, _, rfl, lk_table _ _, ?_⟩
  show R _
  rw [lk_count]
  exact r
def w_PBag___contains__ (K : PySem.W.Frag) : WS :=
  (wRet (wInDD (wV 1) (wFld (He.ga K "Bag") "_table" (wV 0))))
def s_PBag___contains__ (K : PySem.W.Frag) : DS1 := fun ds R => ∃ l n, ds = [bagD K l, .int n] ∧ R (.bl (decide (n ∈ l)))
theorem l_PBag___contains__ (K : PySem.W.Frag) : ∀ ds R, s_PBag___contains__ K ds R → ds.length = 2 := by
  rintro ds R ⟨_, _, rfl, _⟩
  rfl
theorem o_PBag___contains__ (K : PySem.W.Frag) : Owes 2 (s_PBag___contains__ K) (w_PBag___contains__ K) := by
  intro ds R h
  obtain ⟨l, n, rfl, r⟩ := h
  unfold w_PBag___contains__
  walk_at "dl"
  refine ⟨_, _, _, rfl, lk_table _ _, _, _, rfl, ?_⟩
  show R _
  rw [hasK_int]
  have e : decide (n ∈ kset l) = decide (n ∈ l) := by simp only [kset_mem]
  rw [e]
  exact r
def w_PBag___eq__ (K : PySem.W.Frag) : WS :=
  (wRet (wAndV (wIsC (He.ga K "Bag") (wV 1)) (wOp dEqT (wFld (He.ga K "Bag") "_items" (wV 0)) (wFld (He.ga K "Bag") "_items" (wV 1)))))
def s_PBag___eq__ (K : PySem.W.Frag) : DS1 := fun ds R => ∃ l d, ds = [bagD K l, d] ∧ ((∃ m, d = bagD K m ∧ R (.bl (decide (l = m)))) ∨ (((∃ xs, d = .lst xs) ∨ (∃ xs, d = .tup xs) ∨ d = .non) ∧ R (.bl false)))
theorem l_PBag___eq__ (K : PySem.W.Frag) : ∀ ds R, s_PBag___eq__ K ds R → ds.length = 2 := by
  rintro ds R ⟨_, _, rfl, _⟩
  rfl
theorem o_PBag___eq__ (K : PySem.W.Frag) : Owes 2 (s_PBag___eq__ K) (w_PBag___eq__ K) := by
  intro ds R h
  obtain ⟨l, d, rfl, r⟩ := h
  unfold w_PBag___eq__
  rcases r with ⟨m, rfl, r⟩ | ⟨⟨xs, rfl⟩ | ⟨xs, rfl⟩ | rfl, r⟩
  · walk_at "dl"
    unfold bagD
    walk_at "dl"
    exact ⟨_, _, _, rfl, lk_items _ _, _, _, _, rfl, lk_items _ _, l, m, rfl, rfl, r⟩
  · walk_at "dl"
    exact r
  · walk_at "dl"
    exact r
  · walk_at "dl"
    exact r
def w_PBag___init__ (K : PySem.W.Frag) : WS :=
  (wSeq (wFor (iVk K 1) (gN 2) (wIfS (wTru (wIsi "bool" (wVP 2))) (wRaise1 K "BadNumber" "number" (wV 2)) wNx))
    (wSeq (wAsgD 3)
    (wSeq (wFor (iL (wF (fSrt K (wVP 1)))) (gN 2) (wPutD 3 (wV 2) (wOp dAdd (wGetO 3 (wV 2) (wC (.int 0))) (wC (.int 1)))))
    (wSeq (wSelfD (He.ga K "Bag") "_table" 3)
    (wSelf (He.ga K "Bag") "_items" (wCB dTup (aC (wF (fSrt K (wVP 1))) aN)))))))
def s_PBag___init__ (K : PySem.W.Frag) : DS2 := fun ds R RX => ∃ d xs, ds = [d] ∧ (d = .lst xs ∨ d = .tup xs ∨ (d = .ktu K ∧ xs = [])) ∧ xs.length ≤ 900000 ∧
  ((∃ ns : List Int, xs = ns.map DV.int ∧ R (bagD K (srt ns))) ∨ ∃ (i : Nat) (b : Bool), xs[i]? = some (.bl b) ∧ (∀ j, j < i → ∃ n, xs[j]? = some (.int n)) ∧ RX (.err (He.ga K "BadNumber") ["number"] [.bl b]))
theorem l_PBag___init__ (K : PySem.W.Frag) : ∀ ds R RX, s_PBag___init__ K ds R RX → ds.length = 1 := by
  rintro ds R RX ⟨d, xs, rfl, _⟩
  rfl
theorem o_PBag___init__ (K : PySem.W.Frag) : OwesI 3 (He.ga K "Bag") (s_PBag___init__ K) (w_PBag___init__ K) := by
  rintro a ds R RX ⟨d, xs, rfl, hd, hl, h⟩
  unfold w_PBag___init__
  walk_at "dl"
  refine ⟨xs, hd, ?_⟩
  rcases h with ⟨ns, rfl, r⟩ | ⟨k, b, hk, hj, r⟩
  · rw [List.length_map] at hl
    have ls : (srt ns).length = ns.length := (srt_perm ns).length_eq
    have hsd : ∀ F : List Int → Prop, F (srt ns) → sortD K d F := fun F q => ⟨ns, hd.imp_right (Or.imp_right fun z => ⟨z.1, List.map_eq_nil_iff.mp z.2⟩), q⟩
    refine forL_ind (fun i ρ => ∃ v : Sl, ρ = [.oi a (He.ga K "Bag") [] [], .dt d, v, .un]) ⟨_, rfl⟩ ?_ ?_
    · rintro i x ρ K' hx ⟨v, rfl⟩ hK
      rw [List.getElem?_map] at hx
      cases e : ns[i]? with
      | none => rw [e] at hx; cases hx
      | some n =>
        rw [e] at hx
        cases hx
        walk_at "dl"
        exact hK _ ⟨_, rfl⟩
    · rintro ρ ⟨v, rfl⟩
      walk_at "dl"
      refine hsd _ ⟨_, rfl, ?_⟩
      refine forL_ind (fun i ρ => ∃ v : Sl, ρ = [.oi a (He.ga K "Bag") [] [], .dt d, v, .od ((kset ((srt ns).take i)).map Sum.inl) ((kset ((srt ns).take i)).map fun k => .int ((((srt ns).take i).count k : Nat) : Int))]) ⟨_, rfl⟩ ?_ ?_
      · rintro i x ρ K' hx ⟨v, rfl⟩ hK
        rw [List.getElem?_map] at hx
        cases e : (srt ns)[i]? with
        | none => rw [e] at hx; cases hx
        | some n =>
          rw [e] at hx
          cases hx
          walk_at "dl"
          have hi : i < (srt ns).length := (List.getElem?_eq_some_iff.mp e).1
          have hk : (kset ((srt ns).take i)).length ≤ i := Nat.le_trans (kset_len _) (by rw [List.length_take]; omega)
          rw [lk_count]
          walk_at "dl"
          refine ⟨by rw [List.length_map]; omega, hK _ ⟨.dt (.int n), ?_⟩⟩
          rw [kset_take e, put_ks, put_xs]
      · rintro ρ ⟨v, rfl⟩
        rw [List.length_map, List.take_length]
        walk_at "dl"
        refine ⟨by decide, by decide, by decide, hsd _ ⟨by decide, by decide, ?_⟩⟩
        exact ⟨_, _, rfl, r⟩
  · have hkl : k < xs.length := (List.getElem?_eq_some_iff.mp hk).1
    refine forL_ind (fun i ρ => i ≤ k ∧ ∃ v : Sl, ρ = [.oi a (He.ga K "Bag") [] [], .dt d, v, .un]) ⟨Nat.zero_le _, _, rfl⟩ ?_ ?_
    · rintro i x ρ K' hx ⟨hi, v, rfl⟩ hK
      rcases Nat.lt_or_ge i k with z | z
      · obtain ⟨n, e⟩ := hj i z
        rw [e] at hx
        cases hx
        walk_at "dl"
        exact hK _ ⟨z, _, rfl⟩
      · have e : i = k := Nat.le_antisymm hi z
        rw [e, hk] at hx
        cases hx
        walk_at "dl"
        exact r
    · rintro ρ ⟨hi, _⟩
      omega
end DL
namespace DL
open PySem PySem.Spec PyProof.Rows L2 NW
local macro_rules | `(tactic| walk_at "dl1") => `(tactic| simp only [wAsgD, wPutD, atD, atDR, asK, wInOD, wLenOD, fCallN, wCallB, wCallK, wCallD, wDropK, frzE, frz1, wFld, wProp, wMeth, wMeth0, wLenI, dInI, dEqI, tyOk, iOwnD, iVk, wIsC, isC, wSelf, wSelfD, atS, wGet, asD, wGetO, wInDD, wDict, wTrev, dTrev, wMkI, wMkI0, wDropI, wAsgIO, frzL1, wSetO, dSumA, dEqT, dIntL, wCallF, flatR, wRaise1, fSrt, wItems, wTry, wAsgX, wDropX, wKd, wXf, wSeq, wAsg, wAsgO, wRet, wIfS, wNx, wPass, wBk, wCt, wDrop, wAug, wApp, wAppPop, wPop, wFor, wFz, wV, wVP, atV, atP, atO, wC, wOp, wCall, wCallN, wCB, aC, aN, wL, wTu, fL, wF, fCat, fList, wTB, wTru, wAnd, wOr, wNot, wAndV, wOrV, wNotV, wIf, wChain, wIsN, wNeg, dNeg, wSl, pN, pP, dSl, wLrev, dLrev, wIsi, wIsi2, iL, iT, iV, iS, iR1, iR2, gN, fLc, wYes, wiL,
  dAdd, dSub, dMul, dMulS, dMulL, dDiv, dMod, dLt, dLe, dGt, dGe, dEq, dNe, eqD, dIn, dNi, dIx, dTru, isNon, dLen, dInt, dAbs, dMax, dMin, dList, dTup, dStr, dIAdd, frzE, frz1, startD, List.map_cons, List.map_nil, List.length_cons, List.length_nil, List.replicate_succ, List.replicate_zero, List.cons_append, List.nil_append, List.append_nil, List.getElem?_cons_zero, List.getElem?_cons_succ, List.set_cons_zero, List.set_cons_succ, Nat.reduceSub, Nat.reduceAdd, if_true, if_false, ite_true, ite_false, reduceIte, Bool.false_eq_true, decide_true, decide_false, Bool.not_true, Bool.not_false, Bool.not_eq_true', decide_eq_true_eq, decide_eq_false_iff_not, isi_int_int, isi_int_bool, isi_bl_int, isi_bl_bool, isi_non_int, isi_non_bool, isi_str_int, isi_str_bool, isi_str_str, isi_lst_list, isi_tup_tuple, Option.some.injEq, exists_eq_left', exists_eq_left, DV.int.injEq, DV.str.injEq, DV.bl.injEq, List.cons.injEq, and_true, true_and])
local macro_rules | `(tactic| walk_at "dl") => `(tactic| try walk_at "dl1")
local macro_rules | `(tactic| walk_at "go") => `(tactic| repeat' (first
  | (intro _)
  | walk_at "dl1"
  | (refine ⟨by first | decide | omega, ?_⟩)
  | split))
theorem dig_0D (k : Nat) (hk : k < 4000) : (repS "0" k).length = k ∧ ∃ n, PySem.intText? ("1" ++ repS "0" k) = some n ∧ ("1" ++ repS "0" k).length ≤ 1000000 := by
  have hb : (repS "0" k).cps.toList = List.replicate k 48 := by
    unfold repS
    rw [show ("0" : Str).cps.toList = [48] from rfl]
    simp
  have e : ("1" ++ repS "0" k : Str).cps.toList = 49 :: List.replicate k 48 := by
    rw [app_cps, hb]
    rfl
  have l : ("1" ++ repS "0" k : Str).length = k + 1 := by
    rw [len_cps, e, List.length_cons, List.length_replicate]
  obtain ⟨n, hn⟩ := NW.digits_some (b := "1" ++ repS "0" k) (by rw [e]; intro c hc; exact (List.mem_cons.mp hc).elim (fun z => by omega) fun z => by rw [(List.mem_replicate.mp z).2]; decide) (by rw [e]; simp) (by rw [l]; omega)
  exact ⟨by rw [len_cps, hb, List.length_replicate], n, hn, by rw [l]; omega⟩
def w_integer : WS :=
  (wSeq (wAsg 1 (wCall s_take (aC (wV 0) (aC (wC (.int 6)) aN))))
    (wSeq (wIfS (wTB (wOp dEq (wVP 1) (wC (.int 0)))) (wRet (wOp dSub (wCall s_take (aC (wV 0) (aC (wC (.int 3)) aN))) (wC (.int 1)))) wNx)
    (wSeq (wIfS (wTB (wOp dEq (wVP 1) (wC (.int 1)))) (wRet (wCall s_take (aC (wV 0) (aC (wC (.int 10000000000000000000000000000000000000000)) aN)))) wNx)
    (wSeq (wIfS (wTB (wOp dEq (wVP 1) (wC (.int 2)))) (wRet (wNeg (wCall s_take (aC (wV 0) (aC (wC (.int 10000000000000000000000000000000000000000)) aN))))) wNx)
    (wRet (wOp dSub (wCall s_take (aC (wV 0) (aC (wC (.int 9)) aN))) (wC (.int 4))))))))
def s_integer : DS1 := fun ds R => match ds with
  | [.sto] => ∀ i : Int, R (.int i)
  | _ => False
theorem l_integer : ∀ ds R, s_integer ds R → ds.length = 1 := by
  intro ds R h
  unfold s_integer at h
  split at h
  · rfl
  · exact h.elim
theorem o_integer : Owes 2 (s_integer) (w_integer) := by
  intro ds R h
  unfold s_integer at h
  split at h
  · unfold w_integer
    walk_at "dl"
    simp only [s_take]
    refine ⟨by decide, fun r r0 r1 => ?_⟩
    split
    · exact ⟨by decide, fun q q0 q1 => h _⟩
    split
    · exact ⟨by decide, fun q q0 q1 => h _⟩
    split
    · exact ⟨by decide, fun q q0 q1 => h _⟩
    · exact ⟨by decide, fun q q0 q1 => h _⟩
  · exact h.elim
def w_integers : WS :=
  (wSeq (wAsgO 2 (fL aN))
    (wSeq (wFor (iR1 (aC (wCall s_number (aC (wV 0) (aC (wC (.int 0)) (aC (wV 1) aN)))) aN)) (gN 3) (wIfS (wAnd (wTru (wVP 2)) (wTru (wCall s_edge (aC (wV 0) aN)))) (wApp 2 (wCallF s_pick (aC (wV 0) (aC (wV 2) aN)))) (wApp 2 (wCall s_integer (aC (wV 0) aN)))))
    (wRet (wV 2))))
def s_integers : DS1 := fun ds R => match ds with
  | [.sto, .int m] => 0 ≤ m ∧ m ≤ 100 ∧ ∀ ns : List Int, (ns.length : Int) ≤ m → R (.lst (ns.map DV.int))
  | _ => False
theorem l_integers : ∀ ds R, s_integers ds R → ds.length = 2 := by
  intro ds R h
  unfold s_integers at h
  split at h
  · rfl
  · exact h.elim
theorem o_integers : Owes 4 (s_integers) (w_integers) := by
  intro ds R h
  unfold s_integers at h
  split at h
  · unfold w_integers
    walk_at "dl"
    rename_i m
    obtain ⟨h0, h1, h⟩ := h
    simp only [s_number]
    refine ⟨by decide, by omega, fun r r0 r1 => ⟨r, rfl, by omega, by omega, ?_⟩⟩
    refine forL_ind (fun i ρ => ∃ (ns : List Int) (v : Sl), ρ = [.dt .sto, .dt (.int m), .ow (ns.map DV.int), v] ∧ ns.length = i) ⟨[], _, rfl, rfl⟩ ?_ ?_
    · rintro i x ρ K hx ⟨ns, v, rfl, hl⟩ hK
      obtain ⟨rfl, hi⟩ := intL_at hx
      walk_at "dl"
      have lm : (ns.map DV.int).length = i := by rw [List.length_map, hl]
      have put : ∀ n : Int, K [.dt .sto, .dt (.int m), .ow (ns.map DV.int ++ [DV.int n]), .dt (.int (0 + (i : Int)))] := fun n => hK _ ⟨ns ++ [n], _, by rw [List.map_append]; rfl, by rw [List.length_append, hl]; rfl⟩
      have two : (∀ n : Int, i < 1000000 ∧ K [.dt .sto, .dt (.int m), .ow (ns.map DV.int ++ [DV.int n]), .dt (.int (0 + (i : Int)))]) := fun n => ⟨by omega, put n⟩
      have third : s_integer [DV.sto] fun d => (List.map DV.int ns).length < 1000000 ∧ K [.dt .sto, .dt (.int m), .ow (ns.map DV.int ++ [d]), .dt (.int (0 + (i : Int)))] := by
        simp only [s_integer]
        exact fun n => ⟨by rw [lm]; omega, put n⟩
      by_cases he : ns = []
      · subst he
        exact third
      · have e1 : (ns.map DV.int).isEmpty = false := by
          cases ns with
          | nil => exact absurd rfl he
          | cons a b => rfl
        rw [if_pos e1]
        simp only [s_edge]
        intro b
        split
        · simp only [s_pick]
          refine ⟨by rw [lm]; have := List.length_pos_iff.mpr he; omega, by rw [lm]; omega, fun x hx => ?_⟩
          obtain ⟨n, _, rfl⟩ := List.mem_map.mp hx
          exact ⟨trivial, by rw [lm]; omega, put n⟩
        · exact third
    · rintro ρ ⟨ns, v, rfl, hl⟩
      rw [intL_len] at hl
      walk_at "dl"
      exact h ns (by omega)
  · exact h.elim
end DL
namespace DL
open PySem PySem.Spec PyProof.Rows L2 NW
local macro_rules | `(tactic| walk_at "dl1") => `(tactic| simp only [wAsgD, wPutD, atD, atDR, asK, wInOD, wLenOD, fCallN, wCallB, wCallK, wCallD, wDropK, frzE, frz1, wFld, wProp, wMeth, wMeth0, wLenI, dInI, dEqI, tyOk, iOwnD, iVk, wIsC, isC, wSelf, wSelfD, atS, wGet, asD, wGetO, wInDD, wDict, wTrev, dTrev, wMkI, wMkI0, wDropI, wAsgIO, frzL1, wSetO, dSumA, dEqT, dIntL, wCallF, flatR, wRaise1, fSrt, wItems, wTry, wAsgX, wDropX, wKd, wXf, wSeq, wAsg, wAsgO, wRet, wIfS, wNx, wPass, wBk, wCt, wDrop, wAug, wApp, wAppPop, wPop, wFor, wFz, wV, wVP, atV, atP, atO, wC, wOp, wCall, wCallN, wCB, aC, aN, wL, wTu, fL, wF, fCat, fList, wTB, wTru, wAnd, wOr, wNot, wAndV, wOrV, wNotV, wIf, wChain, wIsN, wNeg, dNeg, wSl, pN, pP, dSl, wLrev, dLrev, wIsi, wIsi2, iL, iT, iV, iS, iR1, iR2, gN, fLc, wYes, wiL,
  dAdd, dSub, dMul, dMulS, dMulL, dDiv, dMod, dLt, dLe, dGt, dGe, dEq, dNe, eqD, dIn, dNi, dIx, dTru, isNon, dLen, dInt, dAbs, dMax, dMin, dList, dTup, dStr, dIAdd, frzE, frz1, startD, List.map_cons, List.map_nil, List.length_cons, List.length_nil, List.replicate_succ, List.replicate_zero, List.cons_append, List.nil_append, List.append_nil, List.getElem?_cons_zero, List.getElem?_cons_succ, List.set_cons_zero, List.set_cons_succ, Nat.reduceSub, Nat.reduceAdd, if_true, if_false, ite_true, ite_false, reduceIte, Bool.false_eq_true, decide_true, decide_false, Bool.not_true, Bool.not_false, Bool.not_eq_true', decide_eq_true_eq, decide_eq_false_iff_not, isi_dic_bool, isi_dic_int, isi_dic_str, isi_dic_dict, Bool.true_eq_false, isi_int_int, isi_int_bool, isi_bl_int, isi_bl_bool, isi_non_int, isi_non_bool, isi_str_int, isi_str_bool, isi_str_str, isi_lst_list, isi_tup_tuple, Option.some.injEq, exists_eq_left', exists_eq_left, DV.int.injEq, DV.str.injEq, DV.bl.injEq, List.cons.injEq, and_true, true_and])
local macro_rules | `(tactic| walk_at "dl") => `(tactic| try walk_at "dl1")
local macro_rules | `(tactic| walk_at "go") => `(tactic| repeat' (first
  | (intro _)
  | walk_at "dl1"
  | (refine ⟨by first | decide | omega, ?_⟩)
  | split))
def w_sameD : WS :=
  (wSeq (wIfS (wOr (wTB (wIsN (wVP 0))) (wTB (wIsN (wVP 1)))) (wRet (wAndV (wIsN (wVP 0)) (wIsN (wVP 1)))) wNx)
    (wSeq (wIfS (wOr (wTru (wIsi "bool" (wVP 0))) (wTru (wIsi "bool" (wVP 1)))) (wRet (wAndV (wIsi "bool" (wVP 0)) (wAndV (wIsi "bool" (wVP 1)) (wOp dEq (wVP 0) (wVP 1))))) wNx)
    (wSeq (wIfS (wTru (wIsi "int" (wVP 0))) (wRet (wAndV (wIsi "int" (wVP 1)) (wOp dEq (wVP 0) (wVP 1)))) wNx)
    (wSeq (wIfS (wTru (wIsi "str" (wVP 0))) (wRet (wAndV (wIsi "str" (wVP 1)) (wOp dEq (wVP 0) (wVP 1)))) wNx)
    (wSeq (wIfS (wTru (wIsi "dict" (wVP 0))) (wRet (wAndV (wIsi "dict" (wVP 1)) (wCall (s_same 3) (aC (wItems (wV 0)) (aC (wItems (wV 1)) aN))))) wNx)
    (wSeq (wIfS (wAnd (wTru (wIsi "list" (wVP 0))) (wNot (wTru (wIsi "list" (wVP 1))))) (wRet (wC (.bl false))) wNx)
    (wSeq (wIfS (wAnd (wTru (wIsi "tuple" (wVP 0))) (wNot (wTru (wIsi "tuple" (wVP 1))))) (wRet (wC (.bl false))) wNx)
    (wSeq (wIfS (wOr (wNot (wTru (wIsi2 "list" "tuple" (wVP 0)))) (wTB (wOp dNe (wCB dLen (aC (wVP 0) aN)) (wCB dLen (aC (wVP 1) aN))))) (wRet (wC (.bl false))) wNx)
    (wSeq (wFor (iR1 (aC (wCB dLen (aC (wVP 0) aN)) aN)) (gN 2) (wIfS (wNot (wTru (wCall (s_same 3) (aC (wOp dIx (wVP 0) (wVP 2)) (aC (wOp dIx (wVP 1) (wVP 2)) aN))))) (wRet (wC (.bl false))) wNx))
    (wRet (wC (.bl true))))))))))))
def s_sameD (n : Nat) : DS1 := fun ds R => ∃ ks xs, ds = [.dic ks xs, .dic ks xs] ∧ ks.length ≤ 100000 ∧ (∀ x ∈ xs, flD n x) ∧ R (.bl true)
theorem l_sameD (n : Nat) : ∀ ds R, s_sameD n ds R → ds.length = 2 := by
  rintro ds R ⟨ks, xs, rfl, _⟩
  rfl
theorem fl_items : ∀ {ks : List Key} {xs : List DV}, (∀ x ∈ xs, flD 0 x) → ∀ y ∈ items ks xs, flD 1 y
  | [], _, _, y, hy => by cases hy
  | _ :: _, [], _, y, hy => by cases hy
  | k :: ks, x :: xs, h, y, hy => by
    rcases List.mem_cons.mp hy with rfl | hy
    · intro z hz
      rcases List.mem_cons.mp hz with rfl | hz
      · cases k <;> trivial
      · rcases List.mem_cons.mp hz with rfl | hz
        · exact h _ List.mem_cons_self
        · cases hz
    · exact fl_items (fun z hz => h z (List.mem_cons_of_mem _ hz)) y hy
theorem o_sameD : Owes 3 (s_sameD 0) w_sameD := by
  rintro ds R ⟨ks, xs, rfl, hl, hf, r⟩
  unfold w_sameD
  walk_at "dl"
  exact ⟨_, _, rfl, _, _, rfl, rfl, fl_items hf, r⟩
theorem erase_perm : ∀ {l : List DV} {k : Nat} (h : k < l.length), (l[k] :: l.eraseIdx k).Perm l
  | x :: l, 0, _ => List.Perm.refl _
  | x :: l, k + 1, h => (List.Perm.swap x _ _).trans (List.Perm.cons x (erase_perm (l := l) (k := k) (Nat.lt_of_succ_lt_succ h)))
def s_shuffP : DS1 := fun ds R => match ds with
  | [.sto, .lst xs] => xs.length ≤ 1000 ∧ ∀ ys : List DV, ys.Perm xs → R (.lst ys)
  | _ => False
theorem l_shuffP : ∀ ds R, s_shuffP ds R → ds.length = 2 := by
  intro ds R h
  unfold s_shuffP at h
  split at h
  · rfl
  · exact h.elim
theorem o_shuffP : Owes 5 s_shuffP w_shuffled := by
  intro ds R h
  unfold s_shuffP at h
  split at h
  · unfold w_shuffled
    walk_at "dl"
    rename_i xs
    obtain ⟨h0, h⟩ := h
    refine ⟨by omega, by omega, by omega, ?_⟩
    refine forL_ind (fun i ρ => ∃ (rs ys : List DV) (v : Sl), ρ = [.dt .sto, .dt (.lst xs), .ow rs, .ow ys, v] ∧ ys.length = i ∧ (ys ++ rs).Perm xs) ⟨xs, [], _, rfl, rfl, List.Perm.refl _⟩ ?_ ?_
    · rintro i x ρ K hx ⟨rs, ys, v, rfl, hl, hp⟩ hK
      obtain ⟨rfl, hi⟩ := intL_at hx
      walk_at "dl"
      simp only [s_take]
      have le := hp.length_eq
      rw [List.length_append] at le
      refine ⟨by omega, fun r r0 r1 => ?_⟩
      obtain ⟨k, rfl⟩ : ∃ k : Nat, r = (k : Int) := ⟨r.toNat, by omega⟩
      have hk : k < rs.length := by omega
      refine ⟨by decide, by omega, k, rfl, rs[k], List.getElem?_eq_getElem hk, hK _ ⟨_, _, _, rfl, by rw [List.length_append, hl]; rfl, ?_⟩⟩
      have q : (rs[k] :: rs.eraseIdx k).Perm rs := erase_perm hk
      rw [List.append_assoc]
      exact (List.Perm.append_left ys q).trans hp
    · rintro ρ ⟨rs, ys, v, rfl, hl, hp⟩
      rw [intL_len] at hl
      walk_at "dl"
      have le := hp.length_eq
      rw [List.length_append] at le
      have e : rs = [] := List.length_eq_zero_iff.mp (by omega)
      subst e
      rw [List.append_nil] at hp
      exact h ys hp
  · exact h.elim
theorem fl_tupI (n : Nat) (ns : List Int) : flD (n + 1) (.tup (ns.map DV.int)) := by
  intro x hx
  obtain ⟨k, _, rfl⟩ := List.mem_map.mp hx
  cases n <;> trivial
end DL
namespace DL
open PySem PySem.Spec PyProof.Rows L2 NW
local macro_rules | `(tactic| walk_at "dl1") => `(tactic| simp only [wAsgD, wPutD, atD, atDR, asK, wInOD, wLenOD, fCallN, wCallB, wCallK, wCallD, wDropK, frzE, frz1, wFld, wProp, wMeth, wMeth0, wLenI, dInI, dEqI, tyOk, iOwnD, iVk, wIsC, isC, wSelf, wSelfD, atS, wGet, asD, wGetO, wInDD, wDict, wTrev, dTrev, wMkI, wMkI0, wDropI, wAsgIO, frzL1, wSetO, dSumA, dEqT, dIntL, wCallF, flatR, wRaise1, fSrt, wItems, wTry, wAsgX, wDropX, wKd, wXf, wSeq, wAsg, wAsgO, wRet, wIfS, wNx, wPass, wBk, wCt, wDrop, wAug, wApp, wAppPop, wPop, wFor, wFz, wV, wVP, atV, atP, atO, wC, wOp, wCall, wCallN, wCB, aC, aN, wL, wTu, fL, wF, fCat, fList, wTB, wTru, wAnd, wOr, wNot, wAndV, wOrV, wNotV, wIf, wChain, wIsN, wNeg, dNeg, wSl, pN, pP, dSl, wLrev, dLrev, wIsi, wIsi2, iL, iT, iV, iS, iR1, iR2, gN, fLc, wYes, wiL,
  dAdd, dSub, dMul, dMulS, dMulL, dDiv, dMod, dLt, dLe, dGt, dGe, dEq, dNe, eqD, dIn, dNi, dIx, dTru, isNon, dLen, dInt, dAbs, dMax, dMin, dList, dTup, dStr, dIAdd, frzE, frz1, startD, List.map_cons, List.map_nil, List.length_cons, List.length_nil, List.replicate_succ, List.replicate_zero, List.cons_append, List.nil_append, List.append_nil, List.getElem?_cons_zero, List.getElem?_cons_succ, List.set_cons_zero, List.set_cons_succ, Nat.reduceSub, Nat.reduceAdd, if_true, if_false, ite_true, ite_false, reduceIte, Bool.false_eq_true, decide_true, decide_false, Bool.not_true, Bool.not_false, Bool.not_eq_true', decide_eq_true_eq, decide_eq_false_iff_not, isi_dic_bool, isi_dic_int, isi_dic_str, isi_dic_dict, Bool.true_eq_false, isi_int_int, isi_int_bool, isi_bl_int, isi_bl_bool, isi_non_int, isi_non_bool, isi_str_int, isi_str_bool, isi_str_str, isi_lst_list, isi_tup_tuple, Option.some.injEq, exists_eq_left', exists_eq_left, DV.int.injEq, DV.str.injEq, DV.bl.injEq, List.cons.injEq, and_true, true_and])
local macro_rules | `(tactic| walk_at "dl") => `(tactic| try walk_at "dl1")
local macro_rules | `(tactic| walk_at "go") => `(tactic| repeat' (first
  | (intro _)
  | walk_at "dl1"
  | (refine ⟨by first | decide | omega, ?_⟩)
  | split))
end DL
namespace DL
open PySem PySem.Spec PyProof.Rows L2 NW
local macro_rules | `(tactic| walk_at "dl1") => `(tactic| simp only [wAsgD, wPutD, atD, atDR, asK, wInOD, wLenOD, fCallN, wCallB, wCallK, wCallD, wDropK, frzE, frz1, wFld, wProp, wMeth, wMeth0, wLenI, dInI, dEqI, tyOk, iOwnD, iVk, wIsC, isC, wSelf, wSelfD, atS, wGet, asD, wGetO, wInDD, wDict, wTrev, dTrev, wMkI, wMkI0, wDropI, wAsgIO, frzL1, wSetO, dSumA, dEqT, dIntL, wCallF, flatR, wRaise1, fSrt, wItems, wTry, wAsgX, wDropX, wKd, wXf, wSeq, wAsg, wAsgO, wRet, wIfS, wNx, wPass, wBk, wCt, wDrop, wAug, wApp, wAppPop, wPop, wFor, wFz, wV, wVP, atV, atP, atO, wC, wOp, wCall, wCallN, wCB, aC, aN, wL, wTu, fL, wF, fCat, fList, wTB, wTru, wAnd, wOr, wNot, wAndV, wOrV, wNotV, wIf, wChain, wIsN, wNeg, dNeg, wSl, pN, pP, dSl, wLrev, dLrev, wIsi, wIsi2, iL, iT, iV, iS, iR1, iR2, gN, fLc, wYes, wiL,
  dAdd, dSub, dMul, dMulS, dMulL, dDiv, dMod, dLt, dLe, dGt, dGe, dEq, dNe, eqD, dIn, dNi, dIx, dTru, isNon, dLen, dInt, dAbs, dMax, dMin, dList, dTup, dStr, dIAdd, frzE, frz1, startD, List.map_cons, List.map_nil, List.length_cons, List.length_nil, List.replicate_succ, List.replicate_zero, List.cons_append, List.nil_append, List.append_nil, List.getElem?_cons_zero, List.getElem?_cons_succ, List.set_cons_zero, List.set_cons_succ, Nat.reduceSub, Nat.reduceAdd, if_true, if_false, ite_true, ite_false, reduceIte, Bool.false_eq_true, decide_true, decide_false, Bool.not_true, Bool.not_false, Bool.not_eq_true', decide_eq_true_eq, decide_eq_false_iff_not, isi_dic_bool, isi_dic_int, isi_dic_str, isi_dic_dict, Bool.true_eq_false, isi_int_int, isi_int_bool, isi_bl_int, isi_bl_bool, isi_non_int, isi_non_bool, isi_str_int, isi_str_bool, isi_str_str, isi_lst_list, isi_tup_tuple, Option.some.injEq, exists_eq_left', exists_eq_left, DV.int.injEq, DV.str.injEq, DV.bl.injEq, List.cons.injEq, and_true, true_and])
local macro_rules | `(tactic| walk_at "dl") => `(tactic| try walk_at "dl1")
local macro_rules | `(tactic| walk_at "go") => `(tactic| repeat' (first
  | (intro _)
  | walk_at "dl1"
  | (refine ⟨by first | decide | omega, ?_⟩)
  | split))
end DL
namespace NW
open PySem PySem.Spec PyProof.Rows L2
section
variable {P : Program} {w : World} {K : PySem.W.Frag} {mg : Str → Option Value} {base : Heap} {C : Addr} {m qual : Str} {params : Arguments} {body : List Stmt} {scope : Scope} {N ps : List Str} {k : Nat} {sp : Sp}
theorem hasM_of {t : TS} (F : ∃ f fd, Meth K C m f ∧ FunD K m qual params body scope [] [] f fd) (S : FnScope N ps scope) (len : ∀ vs H Q E, sp vs H Q E → vs.length = ps.length)
    (bn : ∀ (kV doc pm : Value) (an : Option Addr) (cdv ct : Value) (us : List Value), us.length = ps.length → bindArgs (PySem.W.fnOf m qual params body scope .none kV doc pm an cdv ct) ⟨us, []⟩ = pure (ps.zip us))
    (d : ∀ (f : Addr) (cdv : Value) (A : Around) (outer : List PySem.Env) (s : Shared) (H : Hp) (E : XK), Room k (A.deeper (envOfC qual scope s.heap.objs.size f cdv)) → PSs (cxOf (L2N.CX P w) P w K mg base N qual scope f cdv A outer s H E).nox body t)
    (pure_ : ∀ vs H Q E, sp vs H Q E → t { nx := fun _ H' => Q .non H', rt := Q } (L2.start N vs) H) : HasM P w K mg base C m (k + 1) ps sp := by
  obtain ⟨f, fd, hm, F⟩ := F
  exact ⟨f, fd, hm, F.bindsN bn, F.ok S len fun cdv A outer s H vs Q E hr h => ⟨t, PSs.nox (d f cdv A outer s H E hr), pure_ vs H Q E h⟩⟩
theorem hasP_of {t : TS} (F : ∃ p g fd, PropOf K C m p g ∧ FunD K m qual params body scope [] [] g fd) (S : FnScope N ps scope) (len : ∀ vs H Q E, sp vs H Q E → vs.length = ps.length)
    (bn : ∀ (kV doc pm : Value) (an : Option Addr) (cdv ct : Value) (us : List Value), us.length = ps.length → bindArgs (PySem.W.fnOf m qual params body scope .none kV doc pm an cdv ct) ⟨us, []⟩ = pure (ps.zip us))
    (d : ∀ (f : Addr) (cdv : Value) (A : Around) (outer : List PySem.Env) (s : Shared) (H : Hp) (E : XK), Room k (A.deeper (envOfC qual scope s.heap.objs.size f cdv)) → PSs (cxOf (L2N.CX P w) P w K mg base N qual scope f cdv A outer s H E).nox body t)
    (pure_ : ∀ vs H Q E, sp vs H Q E → t { nx := fun _ H' => Q .non H', rt := Q } (L2.start N vs) H) : HasP P w K mg base C m (k + 1) ps sp := by
  obtain ⟨p, g, fd, hm, F⟩ := F
  exact ⟨p, g, fd, hm, F.bindsN bn, F.ok S len fun cdv A outer s H vs Q E hr h => ⟨t, PSs.nox (d g cdv A outer s H E hr), pure_ vs H Q E h⟩⟩
/-- __init__ with one default at its end -/
theorem hasI_of {t : XK → TS} {a0 : Addr} {n : Nat} (F : ∃ f fd, Mk K C f ∧ FunD K m qual params body scope [.ref a0] [] f fd) (S : FnScope N ps scope) (len : ∀ vs H Q E, sp vs H Q E → vs.length = ps.length) (hn : n + 1 = ps.length)
    (b0 : ∀ (T : Addr) (kV doc pm : Value) (an : Option Addr) (cdv ct : Value) (us its : List Value), us.length = ps.length → its.length = 1 →
      ∃ kk, bindArgs (PySem.W.fnOf m qual params body scope (.ref T) kV doc pm an cdv ct) ⟨us, []⟩ = seqItems? (.ref T) >>= kk ∧ kk (some its.toArray) = pure (ps.zip (us ++ its.drop 1)))
    (b1 : ∀ (T : Addr) (kV doc pm : Value) (an : Option Addr) (cdv ct : Value) (us its : List Value), us.length = n → its.length = 1 →
      ∃ kk, bindArgs (PySem.W.fnOf m qual params body scope (.ref T) kV doc pm an cdv ct) ⟨us, []⟩ = seqItems? (.ref T) >>= kk ∧ kk (some its.toArray) = pure (ps.zip (us ++ its.drop 0)))
    (d : ∀ (f : Addr) (cdv : Value) (A : Around) (outer : List PySem.Env) (s : Shared) (H : Hp) (E : XK), Room k (A.deeper (envOfC qual scope s.heap.objs.size f cdv)) →
      L2N.Takes (cxOf (L2N.CX P w) P w K mg base N qual scope f cdv A outer s H E) (fun cls d _ H => E cls d H) → PSs (cxOf (L2N.CX P w) P w K mg base N qual scope f cdv A outer s H E) body (t E))
    (pure_ : ∀ vs H Q E, sp vs H Q E → t E { nx := fun _ H' => Q .non H', rt := Q } (L2.start N vs) H) : HasI P w K mg base C (k + 1) ps [.ref a0] sp := by
  obtain ⟨f, fd, hm, F⟩ := F
  obtain ⟨ds0, v0, bb0⟩ := F.binds1 (ps := ps) ps.length 1 (fun z => nomatch z) (by show ps.length + (1 - 1) = ps.length; omega) b0
  obtain ⟨ds1, v1, bb1⟩ := F.binds1 (ps := ps) n 0 (fun z => nomatch z) (by show n + (1 - 0) = ps.length; omega) b1
  cases v0
  exact ⟨f, fd, hm, bb0, ⟨ds1, v1, bb1⟩, F.ok S len fun cdv A outer s H vs Q E hr h => ⟨t E, d f cdv A outer s H E hr (L2N.takes_of rfl rfl rfl rfl), pure_ vs H Q E h⟩⟩
end
end NW
namespace DL
open PySem PySem.Spec PyProof.Rows L2 NW
theorem hok_unlock {P : Program} {w : World} {H : Hp} {B : Heap} {d : Addr} {od : Obj} {u : HO} (x : HOk P w H B) (h : H d = some (.frz od u)) : HOk P w (upd H d u) B := fun b o e => by
  have neH : ∀ b o, H b = some o → (∀ o' u', o ≠ .frz o' u') → b ≠ d := fun b o e hne z => by
    rw [z, h] at e
    cases e
    exact hne _ _ rfl
  by_cases hb : b = d
  · rw [hb, upd_same] at e
    cases e
    rw [hb]
    obtain ⟨_, x⟩ := x d _ h
    exact x.stay (fun c v _ q => q) (fun c q => by rw [upd_ne (neH c _ q (fun _ _ z => nomatch z))]; exact q) fun c xs q => by rw [upd_ne (neH c _ q (fun _ _ z => nomatch z))]; exact q
  · rw [upd_ne hb] at e
    exact (x b o e).stay (fun c v _ q => q) (fun c q => by rw [upd_ne (neH c _ q (fun _ _ z => nomatch z))]; exact q) fun c xs q => by rw [upd_ne (neH c _ q (fun _ _ z => nomatch z))]; exact q
def unl (d : Addr) (od : Obj) (u : HO) (E : XK) : XK := fun cls dd H' => H' d = some (.frz od u) ∧ E cls dd (upd H' d u)
theorem cx_unlock {P : Program} {w : World} {outer : List PySem.Env} {H : Hp} {s s' : Shared} {E : XK} {v : Value} {d : Addr} {od : Obj} {u : HO} (hn : ∀ o' u', H d ≠ some (.frz o' u')) 
    (c : L2N.CX P w outer H s (unl d od u E) v s') : L2N.CX P w outer H s E v s' := by
  obtain ⟨a, B, H', cls, dd, e, fl, hok, ub, na, os, ag, hf, hE⟩ := c
  have neH : ∀ b o, H' b = some o → (∀ o' u', o ≠ .frz o' u') → b ≠ d := fun b o e hne z => by
    rw [z, hf] at e
    cases e
    exact hne _ _ rfl
  refine ⟨a, B, upd H' d u, cls, dd, e, fl, hok_unlock hok hf, ⟨ub.keep, ub.slot, fun b o e n => ?_, ub.there, fun b xs e => ?_, fun b o xs e => ?_, fun b ps e => ?_⟩, ?_, os, ag, hE⟩
  · have q := ub.free b o e n
    rw [upd_ne (fun z => by rw [z, hf] at q; cases q)]; exact q
  · have q := ub.tups b xs e
    rw [upd_ne (neH b _ q (fun _ _ z => nomatch z))]; exact q
  · have q := ub.frzs b o xs e
    rw [upd_ne (fun z => by rw [z] at e; exact hn _ _ e)]; exact q
  · obtain ⟨m, q⟩ := ub.tbls b ps e
    exact ⟨m, by rw [upd_ne (neH b _ q (fun _ _ z => nomatch z))]; exact q⟩
  · rw [upd_ne (fun z => by rw [z, hf] at na; cases na)]; exact na
/-- the locked run of a statement, exceptions told apart -/
def tLockX (t : XK → TS) (E : XK) : TS := fun D σ H => ∃ d kvs, H d = some (.dK kvs) ∧ ∀ od, t (unl d od (.dK kvs) E) ⟨fun σ' H' => H' d = some (.frz od (.dK kvs)) ∧ D.nx σ' (upd H' d (.dK kvs)), fun v H' => H' d = some (.frz od (.dK kvs)) ∧ D.rt v (upd H' d (.dK kvs)), fun σ' H' => H' d = some (.frz od (.dK kvs)) ∧ D.bk σ' (upd H' d (.dK kvs)), fun σ' H' => H' d = some (.frz od (.dK kvs)) ∧ D.ct σ' (upd H' d (.dK kvs))⟩ σ (upd H d (.frz od (.dK kvs)))
theorem ps_lockX {P : Program} {w : World} {K : PySem.W.Frag} {mg : Str → Option Value} {base : Heap} {N : List Str} {qual : Str} {scope : Scope} {f : Addr} {cd : Value} {A : Around} {outer : List PySem.Env} {s0 : Shared} {H0 : Hp} {E : XK} {st : Stmt} {t : XK → TS}
    (h : ∀ E', PS (cxOf (L2N.CX P w) P w K mg base N qual scope f cd A outer s0 H0 E') st (t E')) : PS (cxOf (L2N.CX P w) P w K mg base N qual scope f cd A outer s0 H0 E) st (tLockX t E) := by
  refine ⟨fun pins s σ H D I hw => ?_⟩
  obtain ⟨d, kvs, hd, hw⟩ := hw
  have mu : Mut (some (.dK kvs)) := trivial
  obtain ⟨od, I1⟩ := I.lock hd mu
  have hn := I.nofrz hd mu
  have I2 : Inv (cxOf (L2N.CX P w) P w K mg base N qual scope f cd A outer s0 H0 (unl d od (.dK kvs) E)) pins σ (upd H d (.frz od (.dK kvs))) s := I1.wish _
  have r := (h (unl d od (.dK kvs) E)).run pins s σ _ _ I2 (hw od)
  refine wpAny_mono r (fun fl s1 q => ?_) fun v s1 q => ?_
  · have q := SP.unwish (X := cxOf (L2N.CX P w) P w K mg base N qual scope f cd A outer s0 H0 E) q
    cases fl with
    | next => obtain ⟨σ', H', I2, e, q⟩ := q; exact ⟨σ', _, I2.unlock e hn, q⟩
    | brk => obtain ⟨σ', H', I2, e, q⟩ := q; exact ⟨σ', _, I2.unlock e hn, q⟩
    | cont => obtain ⟨σ', H', I2, e, q⟩ := q; exact ⟨σ', _, I2.unlock e hn, q⟩
    | ret v => obtain ⟨x, σ', H', I2, r, e, q⟩ := q; exact ⟨x, σ', _, I2.unlock e hn, r, q⟩
  · exact wpAny_mono q (fun _ s2 c => cx_unlock hn c) fun _ s2 c => cx_unlock hn c
structure Lk (p : Addr) (kvs : List (Key × V)) (H H' : Hp) : Prop where
  ne : ∀ b, b ≠ p → H' b = H b
  rd : Rd H p (.dK kvs)
  rd' : Rd H' p (.dK kvs)
theorem Lk.symm {p : Addr} {kvs : List (Key × V)} {H H' : Hp} (l : Lk p kvs H H') : Lk p kvs H' H := ⟨fun b n => (l.ne b n).symm, l.rd', l.rd⟩
section
variable {p : Addr} {kvs : List (Key × V)} {H H' : Hp} {W W' : Wd} {st : Option Addr}
theorem Lk.get (l : Lk p kvs H H') {b : Addr} {o : HO} (h : H b = some o) (n1 : ∀ k, o ≠ .dK k) (n2 : ∀ ob u, o ≠ .frz ob u) : H' b = some o := by
  by_cases e : b = p
  · rw [e] at h
    rcases l.rd with r | ⟨ob, r⟩
    · rw [h] at r; exact absurd (Option.some.inj r) (n1 _)
    · rw [h] at r; exact absurd (Option.some.inj r) (n2 _ _)
  · rw [l.ne b e]; exact h
theorem Lk.dic (l : Lk p kvs H H') {b : Addr} {k2 : List (Key × V)} (h : Rd H b (.dK k2)) : Rd H' b (.dK k2) := by
  by_cases e : b = p
  · rw [e] at h ⊢
    have : k2 = kvs := by
      rcases l.rd with r | ⟨ob, r⟩
      · rcases h with h | ⟨ob, h⟩
        · rw [h] at r; cases r; rfl
        · rw [h] at r; cases r
      · rcases h with h | ⟨ob, h⟩
        · rw [h] at r; cases r
        · rw [h] at r; cases r; rfl
    rw [this]; exact l.rd'
  · rcases h with h | ⟨ob, h⟩
    · exact .inl (by rw [l.ne b e]; exact h)
    · exact .inr ⟨ob, by rw [l.ne b e]; exact h⟩
theorem Lk.some (l : Lk p kvs H H') {b : Addr} (h : ∃ o, H b = some o) : ∃ o, H' b = some o := by
  by_cases e : b = p
  · rw [e]
    rcases l.rd' with r | ⟨ob, r⟩
    · exact ⟨_, r⟩
    · exact ⟨_, r⟩
  · rw [l.ne b e]; exact h
mutual
theorem Is.lk (l : Lk p kvs H H') (e1 : W'.st = W.st) (k : ∀ b, W.ok b → W'.ok b) : ∀ {v : V} {d : DV}, Is W H v d → Is W' H' v d
  | _, _, .non => .non
  | _, _, .bl b => .bl b
  | _, _, .int i => .int i
  | _, _, .str x => .str x
  | _, _, .lst h o n t => .lst (l.get h (fun _ z => nomatch z) (fun _ _ z => nomatch z)) (k _ o) n (Iss.lk l e1 k t)
  | _, _, .tup h o n t => .tup (l.get h (fun _ z => nomatch z) (fun _ _ z => nomatch z)) (k _ o) n (Iss.lk l e1 k t)
  | _, _, .dic h o n e d t => .dic (l.dic h) (k _ o) n e d (Iss.lk l e1 k t)
  | _, _, .obj h o e t => .obj (l.get h (fun _ z => nomatch z) (fun _ _ z => nomatch z)) (k _ o) e (Iss.lk l e1 k t)
  | _, _, .err h h2 o o2 e t => .err (l.get h (fun _ z => by unfold exo at z; cases z) (fun _ _ z => by unfold exo at z; cases z)) (l.get h2 (fun _ z => by unfold exd at z; cases z) (fun _ _ z => by unfold exd at z; cases z)) (k _ o) (k _ o2) e (Iss.lk l e1 k t)
  | _, _, .err0 h o => .err0 (l.get h (fun _ z => by unfold exo at z; cases z) (fun _ _ z => by unfold exo at z; cases z)) (k _ o)
  | _, _, .hot h o e t => .hot (l.get h (fun _ z => by cases z) (fun _ _ z => by cases z)) (k _ o) e (Iss.lk l e1 k t)
  | _, _, .sto z => .sto (e1.trans z)
  | _, _, .ktu z => .ktu z
  | _, _, .cls => .cls
theorem Iss.lk (l : Lk p kvs H H') (e1 : W'.st = W.st) (k : ∀ b, W.ok b → W'.ok b) : ∀ {vs : List V} {ds : List DV}, Iss W H vs ds → Iss W' H' vs ds
  | _, _, .nil => .nil
  | _, _, .cons a t => .cons (Is.lk l e1 k a) (Iss.lk l e1 k t)
end
theorem StoW.lk (l : Lk p kvs H H') (s : StoW st H) : StoW st H' := by
  cases st with
  | none => trivial
  | some a =>
    obtain ⟨cl, ns, q1, q2, q3, q4, q5, w1, w2, w3⟩ := s
    exact ⟨cl, ns, q1, q2, q3, q4, q5, l.get w1 (fun _ z => nomatch z) (fun _ _ z => nomatch z), l.get w2 (fun _ z => nomatch z) (fun _ _ z => nomatch z), w3⟩
theorem Wd.Ok.lk (l : Lk p kvs H H') (o : W.Ok H) : W.Ok H' := ⟨o.s.lk l, fun a ha => ⟨l.some (o.h a ha).1, (o.h a ha).2⟩⟩
theorem kp_upd2 {H0 : Hp} {o : HO} (k : Kp st H0 H) (n : st ≠ some p) : Kp st (upd H0 p o) (upd H p o) := by
  cases st with
  | none =>
    intro b u z
    by_cases e : b = p
    · rw [e, upd_same] at z ⊢; exact z
    · rw [upd_ne e] at z ⊢; exact k b u z
  | some a =>
    have na : a ≠ p := fun e => n (by rw [e])
    refine ⟨fun b u z m => ?_, fun v r z => ?_⟩
    · by_cases e : b = p
      · rw [e, upd_same] at z ⊢; exact z
      · rw [upd_ne e] at z ⊢; exact Keep.o k b u z m
    · rw [upd_ne na] at z ⊢; exact Keep.h k v r z
theorem upd_back {o u : HO} (h : H p = some u) : upd (upd H p o) p u = H := by
  funext b
  by_cases e : b = p
  · rw [e, upd_same, h]
  · rw [upd_ne e, upd_ne e]
theorem lk_lock {od : Obj} (h : H p = some (.dK kvs)) : Lk p kvs H (upd H p (.frz od (.dK kvs))) := ⟨fun b n => upd_ne n, .inl h, .inr ⟨od, upd_same⟩⟩
theorem lk_unlock {od : Obj} (h : H p = some (.frz od (.dK kvs))) : Lk p kvs H (upd H p (.dK kvs)) := ⟨fun b n => upd_ne n, .inr ⟨od, h⟩, .inl upd_same⟩
theorem IsE.lk {own : Nat → Option Addr} {σ : L2.St} {ρ : Env} (l : Lk p kvs H H') (n : ∀ i, own i ≠ some p) (h : IsE W own H σ ρ) : IsE W own H' σ ρ :=
  ⟨h.len, fun i d e => by
    obtain ⟨v, a, b⟩ := h.dt i d e
    exact ⟨v, a, Is.lk l rfl (fun _ z => z) b⟩, fun i xs e => by
    obtain ⟨a, vs, h1, h2, h3, h4, h5⟩ := h.ow i xs e
    exact ⟨a, vs, h1, h2, by rw [l.ne a fun z => n i (by rw [← z]; exact h1)]; exact h3, h4, Iss.lk l rfl (fun _ z => z) h5⟩, fun i ks xs e => by
    obtain ⟨a, kvs, h1, h2, h3, h4, h5⟩ := h.od i ks xs e
    exact ⟨a, kvs, h1, h2, by rw [l.ne a fun z => n i (by rw [← z]; exact h1)]; exact h3, h4, Iss.lk l rfl (fun _ z => z) h5⟩, fun i A C ns xs e => by
    obtain ⟨a, fs, h1, h2, ⟨dx, h3⟩, h4, h5⟩ := h.oi i A C ns xs e
    exact ⟨a, fs, h1, h2, ⟨dx, by rw [l.ne a fun z => n i (by rw [← z]; exact h1)]; exact h3⟩, h4, Iss.lk l rfl (fun _ z => z) h5⟩, h.hd⟩
end
/-- the base behind which the dict stands locked -/
noncomputable def Bs.lock (B : Bs) (own : Nat → Option Addr) (H : Hp) (p : Addr) (o : HO) : Bs := { B with H0 := upd (B.base own H).H0 p o }
section
variable {B : Bs} {own own' : Nat → Option Addr} {H H' : Hp} {σ σ' : L2.St} {ρ ρ' : Env} {p : Addr} {kvs : List (Key × V)} {od : Obj} {E : WEnds} {D : Ends} {Ex : L2.WX}
theorem Ctx.lock (c : Ctx B own H σ ρ) (h : H p = some (.dK kvs)) (ok : (B.w own).ok p) : Ctx (B.lock own H p (.frz od (.dK kvs))) own (upd H p (.frz od (.dK kvs))) σ ρ := by
  have cb := c.base
  have l := lk_lock (od := od) h
  have hb : (B.base own H).H0 p = some (.dK kvs) := base_get ok h
  have no : ∀ i, own i ≠ some p := fun i z => ok.2 (.inr ⟨i, z⟩)
  refine ⟨StoW.lk (lk_lock hb) cb.s0, kp_upd2 cb.k ok.1, Wd.Ok.lk l c.ok, IsE.lk l no c.e, fun i a z => ⟨?_, (c.o i a z).2⟩, c.inj⟩
  show upd _ p _ a = none
  rw [upd_ne fun e => no i (by rw [← e]; exact z)]
  exact (cb.o i a z).1
theorem lock_at (c : Ctx B own H σ ρ) (ok : (B.w own).ok p) (k : Kp B.st (B.lock own H p (.frz od (.dK kvs))).H0 H') : H' p = some (.frz od (.dK kvs)) := k.o upd_same ok.1
theorem kp_unlock (c : Ctx B own H σ ρ) (h : H p = some (.dK kvs)) (ok : (B.w own).ok p) (k : Kp B.st (B.lock own H p (.frz od (.dK kvs))).H0 H') : Kp B.st (B.base own H).H0 (upd H' p (.dK kvs)) := by
  have hb : (B.base own H).H0 p = some (.dK kvs) := base_get ok h
  have z := kp_upd2 (o := .dK kvs) k ok.1
  have e : upd (B.lock own H p (.frz od (.dK kvs))).H0 p (.dK kvs) = (B.base own H).H0 := upd_back hb
  rw [e] at z
  exact z
theorem Ctx.unlock (c : Ctx B own H σ ρ) (h : H p = some (.dK kvs)) (ok : (B.w own).ok p) (c' : Ctx (B.lock own H p (.frz od (.dK kvs))) own' H' σ' ρ') : H' p = some (.frz od (.dK kvs)) ∧ Ctx B own' (upd H' p (.dK kvs)) σ' ρ' := by
  have hf := lock_at c ok c'.k
  have hb : (B.base own H).H0 p = some (.dK kvs) := base_get ok h
  have l := lk_unlock hf
  have no : ∀ i, own' i ≠ some p := fun i z => by
    have q := (c'.o i p z).1
    have q : upd _ p _ p = none := q
    rw [upd_same] at q
    cases q
  refine ⟨hf, c.of_base ⟨c.base.s0, (kp_unlock (B := B) c h ok c'.k : Kp B.st (B.base own H).H0 _), Wd.Ok.lk l c'.ok, IsE.lk l no c'.e, fun i a z => ⟨?_, (c'.o i a z).2⟩, c'.inj⟩⟩
  have q := (c'.o i a z).1
  have q : upd (B.base own H).H0 p _ a = none := q
  rw [upd_ne fun e => no i (by rw [← e]; exact z)] at q
  exact q
def endsL (p : Addr) (od : Obj) (u : HO) (D : Ends) : Ends := ⟨fun σ' H' => H' p = some (.frz od u) ∧ D.nx σ' (upd H' p u), fun v H' => H' p = some (.frz od u) ∧ D.rt v (upd H' p u), fun σ' H' => H' p = some (.frz od u) ∧ D.bk σ' (upd H' p u), fun σ' H' => H' p = some (.frz od u) ∧ D.ct σ' (upd H' p u)⟩
theorem Dl.lock (c : Ctx B own H σ ρ) (h : H p = some (.dK kvs)) (ok : (B.w own).ok p) (d : Dl B E D Ex) : Dl (B.lock own H p (.frz od (.dK kvs))) E (endsL p od (.dK kvs) D) (fun cls dd σ H' => H' p = some (.frz od (.dK kvs)) ∧ Ex cls dd σ (upd H' p (.dK kvs))) :=
  ⟨fun o r s h2 z cc => have q := Ctx.unlock c h ok cc; ⟨q.1, d.nx _ _ _ _ z q.2⟩, fun o r s h2 z cc => have q := Ctx.unlock c h ok cc; ⟨q.1, d.bk _ _ _ _ z q.2⟩, fun o r s h2 z cc => have q := Ctx.unlock c h ok cc; ⟨q.1, d.ct _ _ _ _ z q.2⟩,
    fun x v H' z k o i => have hf := lock_at c ok k; ⟨hf, d.rt x v _ z (c.kp_base (kp_unlock c h ok k)) (Wd.Ok.lk (lk_unlock hf) o) (Is.lk (W := B.w0) (lk_unlock hf) rfl (fun _ z => z) i)⟩,
    fun o r s h2 cc ns xs dd fs z c2 g1 g2 g3 g4 => have q := Ctx.unlock c h ok c2; have l := lk_unlock q.1; ⟨q.1, d.xc _ _ _ _ _ _ _ _ _ z q.2 (l.get g1 (fun _ z => nomatch z) (fun _ _ z => nomatch z)) g2 g3 (Iss.lk (W := B.w o) l rfl (fun _ z => z) g4)⟩⟩
end
section
variable {W : Wd} {H Hb : Hp} {p : Addr} {od : Obj} {kvs : List (Key × V)}
/-- where the dict stands -/
def Src (td : TE) (sd : Env → (List Key → List DV → Prop) → Prop) : Prop := ∀ (W : Wd) (own : Nat → Option Addr) (H : Hp) (σ : L2.St) (ρ : Env) (R : List Key → List DV → Prop), IsE W own H σ ρ → sd ρ R →
  ∃ p kvs xs, Rd H p (.dK kvs) ∧ W.ok p ∧ kvs.length ≤ 1000000 ∧ (kvs.map (·.1)).Nodup ∧ Iss W H (kvs.map (·.2)) xs ∧ R (kvs.map (·.1)) xs ∧ ∀ H2, (∀ b, b ≠ p → H2 b = H b) → ∀ Q : VK, Q (.ref p) H2 → td σ H2 Q
/-- a name's dict -/
def asDI (R : List Key → List DV → Prop) : DV → Prop
  | .dic ks xs => R ks xs
  | _ => False
theorem asDI_ex {R : List Key → List DV → Prop} {d : DV} (h : asDI R d) : ∃ ks xs, d = .dic ks xs ∧ R ks xs := by
  unfold asDI at h
  split at h
  · exact ⟨_, _, rfl, h⟩
  · exact h.elim
def sV (i : Nat) (ρ : Env) (R : List Key → List DV → Prop) : Prop := atV (asDI R) ρ[i]?
theorem src_v (i : Nat) : Src (tVar i) (sV i) := fun W own H σ ρ R ie h => by
  obtain ⟨d, hx, h⟩ := atV_ex h
  obtain ⟨ks, xs, rfl, h⟩ := asDI_ex h
  obtain ⟨v, h1, h2⟩ := ie.dt i _ hx
  cases h2 with
  | @dic a kvs _ _ g1 g2 g3 g4 g5 g6 =>
    subst g4
    exact ⟨a, kvs, xs, g1, g2, g3, g5, g6, h, fun H2 _ Q q => ⟨_, h1, q⟩⟩
/-- a field of what a name holds -/
def sFd (C : Addr) (f : Str) (i : Nat) (ρ : Env) (R : List Key → List DV → Prop) : Prop := atV (fun d => ∃ ns xs x, d = .obj C ns xs ∧ lkD ns xs f = some x ∧ asDI R x) ρ[i]?
end
theorem wks_items (h : H p = some (.frz od (.dK kvs))) (ok : W.ok p) {xs : List DV} (is : Iss W H (kvs.map (·.2)) xs) (t : Thr W H Hb) : Wks (Iti p od kvs) W Hb (items (kvs.map (·.1)) xs) := by
  have hb := t p _ ok h
  have lx : kvs.length = xs.length := by have := is.len; rw [List.length_map] at this; exact this
  have el : (items (kvs.map (·.1)) xs).length = kvs.length := by unfold items; rw [List.length_zipWith, List.length_map]; omega
  refine ⟨fun n H' k l => ⟨k.o hb ok.1, by omega⟩, fun n H' k l => ⟨k.o hb ok.1, by omega⟩, fun n H' v H2 k y l => ?_⟩
  obtain ⟨T, q, u, hq, rfl, hT, rfl⟩ := y
  obtain ⟨x, hx, ix⟩ := is.get' (i := n) (v := u) (by rw [List.getElem?_map, hq]; rfl)
  refine ⟨same_new hT, .tup [kD q, x], ?_, fun W2 e o2 hw => ?_⟩
  · unfold items
    rw [List.getElem?_zipWith, List.getElem?_map, hq, hx]
    rfl
  · refine .tup upd_same (o2.fresh hT) (by show 2 ≤ 1000000; decide) (.cons (kD_is q) (.cons (Is.tr (W := W) (W' := W2) e (fun b o kk z => ?_) ix) .nil))
    have zb := t b o kk z
    exact ⟨hw b o kk zb, same_new hT _ _ (k.o zb kk.1)⟩
/-- how a locked dict is walked -/
structure DIt (ti : TE → TI) (mk : List Key → List DV → List DV) where
  J : Addr → Obj → List (Key × V) → It
  fits : ∀ {td : TE} {σ : L2.St} {H : Hp} {p : Addr} {od : Obj} {kvs : List (Key × V)} {R : It → Hp → Prop}, H p = some (.frz od (.dK kvs)) → (∀ Q : VK, Q (.ref p) H → td σ H Q) → R (J p od kvs) H → ti td σ H R
  wk : ∀ {W : Wd} {H Hb : Hp} {p : Addr} {od : Obj} {kvs : List (Key × V)} {xs : List DV}, H p = some (.frz od (.dK kvs)) → W.ok p → Iss W H (kvs.map (·.2)) xs → Thr W H Hb → Wks (J p od kvs) W Hb (mk (kvs.map (·.1)) xs)
def itI : DIt iItems items := ⟨Iti, fun h ht r => ht _ ⟨_, _, _, rfl, h, r⟩, fun h ok is t => wks_items h ok is t⟩
abbrev SD := Env → (List Key → List DV → Prop) → Prop
def wForK (mk : List Key → List DV → List DV) (sd : SD) (g : WG) (s : WS) : WS := fun E ρ => sd ρ fun ks xs => forL g s E (mk ks xs) ρ
section
variable {X : Cx} {e : Expr} {st : Stmt} {td : TE} {sd : SD} {g : TG} {gg : WG} {s : WS} {Ex : L2.WX} {ti : TE → TI} {mk : List Key → List DV → List DV}
theorem forK_locked (it : DIt ti mk) {B : Bs} {own : Nat → Option Addr} {H : Hp} {σ : L2.St} {ρ : Env} {E : WEnds} {D : Ends} {p : Addr} {od : Obj} {kvs : List (Key × V)} {xs : List DV} (hgg : Tg g gg) (c : Ctx B own H σ ρ) (h : H p = some (.frz od (.dK kvs))) (ok : (B.w own).ok p) (is : Iss (B.w own) H (kvs.map (·.2)) xs)
    (hf : forL gg s E (mk (kvs.map (·.1)) xs) ρ) (d : Dl B E D Ex) (ht : ∀ Q : VK, Q (.ref p) H → td σ H Q) : tFor (ti td) g (liftS Ex s) D σ H :=
  it.fits h ht (loop_wks hgg c (it.wk h ok is fun b o k z => base_get k z) hf d)
theorem dforKX (it : DIt ti mk) {P : Program} {w : World} {K : PySem.W.Frag} {mg : Str → Option Value} {base : Heap} {N : List Str} {qual : Str} {scope : Scope} {f : Addr} {cd : Value} {A : Around} {outer : List PySem.Env} {s0 : Shared} {H0 : Hp} {E0 : XK} (src : Src td sd) (hgg : Tg g gg)
    (h : ∀ E', L2N.Takes (cxOf (L2N.CX P w) P w K mg base N qual scope f cd A outer s0 H0 E') (fun cls d _ H => E' cls d H) → PS (cxOf (L2N.CX P w) P w K mg base N qual scope f cd A outer s0 H0 E') st (tFor (ti td) g (liftS (fun cls d _ H => E' cls d H) s))) :
    PS (cxOf (L2N.CX P w) P w K mg base N qual scope f cd A outer s0 H0 E0) st (liftS (fun cls d _ H => E0 cls d H) (wForK mk sd gg s)) := by
  have h1 := fun E' => h E' (L2N.takes_of rfl rfl rfl rfl)
  have hl := ps_lockX (E := E0) h1
  refine ⟨fun pins s σ H D I hw => ?_⟩
  obtain ⟨B, own, ρ, E, c, z, d⟩ := hw
  obtain ⟨p, kvs, xs, rd, ok, l, nd, is, hf, ht⟩ := src _ _ _ _ _ _ c.e z
  rcases rd with rd | ⟨od, rd⟩
  · refine hl.run pins s σ H D I ⟨p, kvs, rd, fun od => ?_⟩
    exact forK_locked it hgg (c.lock rd ok) upd_same ok (Iss.lk (W := B.w own) (lk_lock rd) rfl (fun _ z => z) is) hf (d.lock (od := od) c rd ok) (ht _ fun b n => upd_ne n)
  · exact (h1 E0).run pins s σ H D I (forK_locked it hgg c rd ok is hf d (ht _ fun _ _ => rfl))
end
def fLcK (mk : List Key → List DV → List DV) (sd : SD) (gg : WG) (t : WT) (w : WE) (vs : List Nat) : WF := fun ρ R => sd ρ fun ks xs => (mk ks xs).length ≤ 1000000 ∧ lcL gg t w (mk ks xs) (wiL ρ vs) [] R
end DL
namespace NW
open PySem PySem.Spec PyProof.Rows L2
section
variable {P : Program} {w : World} {K : PySem.W.Frag} {mg : Str → Option Value} {base : Heap} {C : Addr} {m qual : Str} {params : Arguments} {body : List Stmt} {scope : Scope} {N ps : List Str} {k : Nat} {sp : Sp}
/-- a method that may raise -/
theorem hasMX_of {t : XK → TS} (F : ∃ f fd, Meth K C m f ∧ FunD K m qual params body scope [] [] f fd) (S : FnScope N ps scope) (len : ∀ vs H Q E, sp vs H Q E → vs.length = ps.length)
    (bn : ∀ (kV doc pm : Value) (an : Option Addr) (cdv ct : Value) (us : List Value), us.length = ps.length → bindArgs (PySem.W.fnOf m qual params body scope .none kV doc pm an cdv ct) ⟨us, []⟩ = pure (ps.zip us))
    (d : ∀ (f : Addr) (cdv : Value) (A : Around) (outer : List PySem.Env) (s : Shared) (H : Hp) (E : XK), Room k (A.deeper (envOfC qual scope s.heap.objs.size f cdv)) →
      L2N.Takes (cxOf (L2N.CX P w) P w K mg base N qual scope f cdv A outer s H E) (fun cls d _ H => E cls d H) → PSs (cxOf (L2N.CX P w) P w K mg base N qual scope f cdv A outer s H E) body (t E))
    (pure_ : ∀ vs H Q E, sp vs H Q E → t E { nx := fun _ H' => Q .non H', rt := Q } (L2.start N vs) H) : HasM P w K mg base C m (k + 1) ps sp := by
  obtain ⟨f, fd, hm, F⟩ := F
  exact ⟨f, fd, hm, F.bindsN bn, F.ok S len fun cdv A outer s H vs Q E hr h => ⟨t E, d f cdv A outer s H E hr (L2N.takes_of rfl rfl rfl rfl), pure_ vs H Q E h⟩⟩
end
end NW
namespace DL
open PySem PySem.Spec PyProof.Rows L2 NW
def isO (C : Addr) (d : DV) : Prop := ∃ ns xs, d = .obj C ns xs
def isOb (d : DV) : Prop := ∃ D ns xs, d = .obj D ns xs
def dBinI (C : Addr) (s : DS1) : D2 := fun x y R => isO C x ∧ isO C y ∧ s [x, y] fun v => isOb v ∧ R v
def dBinX (C : Addr) (s : DS2) : D2 := fun x y R => isO C x ∧ isO C y ∧ s [x, y] (fun v => isOb v ∧ R v) fun _ => False
section
variable {Ex : L2.WX} {X : Cx} {e a b : Expr} {w wa wb : WE} {pos : Pos} {st : Stmt} {C : Addr}
/-- x = a - b, what it raises wished for -/
def wAsgB (i : Nat) (C : Addr) (s : DS2) (wa wb : WE) : WS := fun E ρ => wa ρ fun x => wb ρ fun y => isO C x ∧ isO C y ∧ s [x, y] (fun v => isOb v ∧ E.nx (ρ.set i (.dt v))) fun z => E.xc z ρ
/-- t + u of tuples -/
def dAddT : D2 := fun x y R => ∃ xs ys, x = .tup xs ∧ y = .tup ys ∧ xs.length + ys.length ≤ 1000000 ∧ R (.tup (xs ++ ys))
/-- x.extend(e) of a list of one's own -/
def wExt (i : Nat) (w : WE) : WS := fun E ρ => atO (fun xs => w ρ fun d => ∃ ys, d = .lst ys ∧ xs.length + ys.length ≤ 1000000 ∧ E.nx (ρ.set i (.ow (xs ++ ys)))) ρ[i]?
theorem dext {K : PySem.W.Frag} (i : Nat) (h : ∀ te, PE X e te → PS X st (tDrop (tBM K "list" rExtend (tVar i) (tCons te tNil)))) (he : PE X e (lift w)) : PS X st (liftS Ex (wExt i w)) := ps_weak (h _ he) fun D σ H q => by
  obtain ⟨B, own, ρ, E, c, hx, d⟩ := q
  obtain ⟨xs, hx, h1⟩ := atO_ex hx
  obtain ⟨a, vs, g1, g2, g3, g4, g5⟩ := c.e.ow i xs hx
  refine ⟨_, g2, .inl ⟨rfl, vs, SqL.of g3⟩, B.w own, own, ρ, _, c.ok, c.e, h1, fun y u H1 r1 k1 o1 i1 => ?_⟩
  obtain ⟨ys, rfl, hl, r1⟩ := r1
  have g3' := k1.o g3 (c.ok.h a (.inr ⟨i, g1⟩)).2
  cases i1 with
  | @lst b us _ e1 e2 e3 e4 =>
    have l1 := g5.len
    have l2 := e4.len
    refine ⟨a, b, vs, us, rfl, rfl, g3', e1, Nat.le_trans (by omega) (by decide : (1000000 : Nat) ≤ sizeLine), d.nx _ _ _ _ r1 ((c.mono k1 o1).updO i g1 hx ?_ ((g5.mono k1).app e4))⟩
    rw [List.length_append]; omega
/-- sorted(set(xs)) of ints -/
def fSortI (w : WE) : WF := fun ρ R => w ρ fun d => ∃ ns : List Int, d = .lst (ns.map DV.int) ∧ ns.length ≤ 2000 ∧ ∀ ms : List Int, ms.Pairwise (· < ·) → (∀ k, k ∈ ms ↔ k ∈ ns) → ms.length ≤ ns.length → R (ms.map DV.int)
theorem dsortFI {p p2 q : Pos} (hc : X.calm = true) (hm : X.mg "sorted" = none) (hm2 : X.mg "set" = none) (ha : PE X a (liftP w)) (hg : Gl X "sorted" := by rfl) (hg2 : Gl X "set" := by rfl)
    (na : starEach [a] X.env = (false, eval a X.env) :: starEach [] X.env := by rfl) : PE X (.Call (.Name "sorted" p) [.Call (.Name "set" p2) [a] [] q] [] pos) (liftF (fSortI w)) := pe_weak (DS.pe_sortSetI hc hg hm hg2 hm2 ha na) fun σ H Q z => by
  obtain ⟨W, own, ρ, R, o, i, z, f⟩ := z
  refine ⟨W, own, ρ, _, o, i, z, fun d v H1 r k o1 i1 => ?_⟩
  obtain ⟨ns, rfl, hl, r⟩ := r
  obtain ⟨l, vs, rfl, h1, h2, h3⟩ := i1.lst
  rw [iss_int h3] at h1
  exact ⟨l, ns, rfl, SqL.of h1, hl, fun ms p h1 h2 h3 h4 => (f.mono k).new o1 (by rw [List.length_map]; omega) (int_iss ms) (r ms h1 h2 h3) p h4⟩
/-- a list's part, as a list of one's own -/
def fSl (w : WE) (l h : WP) : WF := fun ρ R => w ρ fun d => l ρ fun lo => h ρ fun hi => ∃ xs, d = .lst xs ∧ R (cutG xs lo hi)
end
end DL
namespace DL
open PySem PySem.Spec PyProof.Rows L2 NW
local macro_rules | `(tactic| walk_at "dl1") => `(tactic| simp only [wForK, fLcK, sFd, sV, wExt, dAddT, dBinI, dBinX, wAsgB, fSortI, fSl, wAsgD, wPutD, atD, atDR, asK, wInOD, wLenOD, fCallN, wCallB, wCallK, wCallD, wDropK, frzE, frz1, wFld, wProp, wMeth, wMeth0, wLenI, dInI, dEqI, tyOk, iOwnD, iVk, wIsC, isC, wSelf, wSelfD, atS, wGet, asD, wGetO, wInDD, wDict, wTrev, dTrev, wMkI, wMkI0, wDropI, wAsgIO, frzL1, wSetO, dSumA, dEqT, dIntL, wCallF, flatR, wRaise1, fSrt, wItems, wTry, wAsgX, wDropX, wKd, wXf, wSeq, wAsg, wAsgO, wRet, wIfS, wNx, wPass, wBk, wCt, wDrop, wAug, wApp, wAppPop, wPop, wFor, wFz, wV, wVP, atV, atP, atO, wC, wOp, wCall, wCallN, wCB, aC, aN, wL, wTu, fL, wF, fCat, fList, wTB, wTru, wAnd, wOr, wNot, wAndV, wOrV, wNotV, wIf, wChain, wIsN, wNeg, dNeg, wSl, pN, pP, dSl, wLrev, dLrev, wIsi, wIsi2, iL, iT, iV, iS, iR1, iR2, gN, fLc, wYes, wiL,
  dAdd, dSub, dMul, dMulS, dMulL, dDiv, dMod, dLt, dLe, dGt, dGe, dEq, dNe, eqD, dIn, dNi, dIx, dTru, isNon, dLen, dInt, dAbs, dMax, dMin, dList, dTup, dStr, dIAdd, frzE, frz1, startD, List.map_cons, List.map_nil, List.length_cons, List.length_nil, List.replicate_succ, List.replicate_zero, List.cons_append, List.nil_append, List.append_nil, List.getElem?_cons_zero, List.getElem?_cons_succ, List.set_cons_zero, List.set_cons_succ, Nat.reduceSub, Nat.reduceAdd, if_true, if_false, ite_true, ite_false, reduceIte, Bool.false_eq_true, decide_true, decide_false, Bool.not_true, Bool.not_false, Bool.not_eq_true', decide_eq_true_eq, decide_eq_false_iff_not, isi_dic_bool, isi_dic_int, isi_dic_str, isi_dic_dict, Bool.true_eq_false, isi_int_int, isi_int_bool, isi_bl_int, isi_bl_bool, isi_non_int, isi_non_bool, isi_str_int, isi_str_bool, isi_str_str, isi_lst_list, isi_tup_tuple, Option.some.injEq, exists_eq_left', exists_eq_left, DV.int.injEq, DV.str.injEq, DV.bl.injEq, List.cons.injEq, and_true, true_and])
local macro_rules | `(tactic| walk_at "dl") => `(tactic| try walk_at "dl1")
local macro_rules | `(tactic| walk_at "go") => `(tactic| repeat' (first
  | (intro _)
  | walk_at "dl1"
  | (refine ⟨by first | decide | omega, ?_⟩)
  | split))
theorem pss_nx {Ex : L2.WX} {X : Cx} {bs : List Stmt} {t : TS} (h : PSs X bs t) : PSs X bs (tSeq (liftS Ex wNx) t) := pss_weak h fun D σ H q => by
  obtain ⟨B, own, ρ, E, c, h, d⟩ := q
  exact d.nx _ _ _ _ h c
theorem rep_one (k : Nat) (x : DV) : (List.replicate k [x]).flatten = List.replicate k x := by
  induction k with
  | zero => rfl
  | succ k ih => rw [List.replicate_succ, List.flatten_cons, ih]; rfl
end DL
namespace DL
open PySem PySem.Spec PyProof.Rows L2 NW
local macro_rules | `(tactic| walk_at "dl1") => `(tactic| simp only [wForK, fLcK, sFd, sV, wExt, dAddT, dBinI, dBinX, wAsgB, fSortI, fSl, wAsgD, wPutD, atD, atDR, asK, wInOD, wLenOD, fCallN, wCallB, wCallK, wCallD, wDropK, frzE, frz1, wFld, wProp, wMeth, wMeth0, wLenI, dInI, dEqI, tyOk, iOwnD, iVk, wIsC, isC, wSelf, wSelfD, atS, wGet, asD, wGetO, wInDD, wDict, wTrev, dTrev, wMkI, wMkI0, wDropI, wAsgIO, frzL1, wSetO, dSumA, dEqT, dIntL, wCallF, flatR, wRaise1, fSrt, wItems, wTry, wAsgX, wDropX, wKd, wXf, wSeq, wAsg, wAsgO, wRet, wIfS, wNx, wPass, wBk, wCt, wDrop, wAug, wApp, wAppPop, wPop, wFor, wFz, wV, wVP, atV, atP, atO, wC, wOp, wCall, wCallN, wCB, aC, aN, wL, wTu, fL, wF, fCat, fList, wTB, wTru, wAnd, wOr, wNot, wAndV, wOrV, wNotV, wIf, wChain, wIsN, wNeg, dNeg, wSl, pN, pP, dSl, wLrev, dLrev, wIsi, wIsi2, iL, iT, iV, iS, iR1, iR2, gN, fLc, wYes, wiL,
  dAdd, dSub, dMul, dMulS, dMulL, dDiv, dMod, dLt, dLe, dGt, dGe, dEq, dNe, eqD, dIn, dNi, dIx, dTru, isNon, dLen, dInt, dAbs, dMax, dMin, dList, dTup, dStr, dIAdd, frzE, frz1, startD, List.map_cons, List.map_nil, List.length_cons, List.length_nil, List.replicate_succ, List.replicate_zero, List.cons_append, List.nil_append, List.append_nil, List.getElem?_cons_zero, List.getElem?_cons_succ, List.set_cons_zero, List.set_cons_succ, Nat.reduceSub, Nat.reduceAdd, if_true, if_false, ite_true, ite_false, reduceIte, Bool.false_eq_true, decide_true, decide_false, Bool.not_true, Bool.not_false, Bool.not_eq_true', decide_eq_true_eq, decide_eq_false_iff_not, isi_dic_bool, isi_dic_int, isi_dic_str, isi_dic_dict, Bool.true_eq_false, isi_int_int, isi_int_bool, isi_bl_int, isi_bl_bool, isi_non_int, isi_non_bool, isi_str_int, isi_str_bool, isi_str_str, isi_lst_list, isi_tup_tuple, Option.some.injEq, exists_eq_left', exists_eq_left, DV.int.injEq, DV.str.injEq, DV.bl.injEq, List.cons.injEq, and_true, true_and])
local macro_rules | `(tactic| walk_at "dl") => `(tactic| try walk_at "dl1")
local macro_rules | `(tactic| walk_at "go") => `(tactic| repeat' (first
  | (intro _)
  | walk_at "dl1"
  | (refine ⟨by first | decide | omega, ?_⟩)
  | split))
theorem ints_of_perm {ys : List DV} {ns : List Int} (p : ys.Perm (ns.map DV.int)) : ∃ ms : List Int, ys = ms.map DV.int ∧ ms.Perm ns := by
  have h : ∀ y ∈ ys, ∃ n : Int, y = .int n := fun y hy => by
    obtain ⟨n, _, rfl⟩ := List.mem_map.mp (p.mem_iff.mp hy)
    exact ⟨n, rfl⟩
  let g : DV → Int := fun d => match d with
    | .int i => i
    | _ => 0
  refine ⟨ys.map g, ?_, ?_⟩
  · rw [List.map_map]
    refine (List.map_id _).symm.trans (List.map_congr_left fun y hy => ?_)
    obtain ⟨n, rfl⟩ := h y hy
    rfl
  · have q := p.map g
    rw [List.map_map] at q
    have e : ns.map (g ∘ DV.int) = ns := (List.map_congr_left fun _ _ => rfl).trans (List.map_id _)
    rw [e] at q
    exact q
theorem srt_count (ns : List Int) (n : Int) : (srt ns).count n = ns.count n := (srt_perm ns).count_eq n
end DL
namespace DL
open PySem PySem.Spec PyProof.Rows L2 NW
local macro_rules | `(tactic| walk_at "dl1") => `(tactic| simp only [wForK, fLcK, sFd, sV, wExt, dAddT, dBinI, dBinX, wAsgB, fSortI, fSl, wAsgD, wPutD, atD, atDR, asK, wInOD, wLenOD, fCallN, wCallB, wCallK, wCallD, wDropK, frzE, frz1, wFld, wProp, wMeth, wMeth0, wLenI, dInI, dEqI, tyOk, iOwnD, iVk, wIsC, isC, wSelf, wSelfD, atS, wGet, asD, wGetO, wInDD, wDict, wTrev, dTrev, wMkI, wMkI0, wDropI, wAsgIO, frzL1, wSetO, dSumA, dEqT, dIntL, wCallF, flatR, wRaise1, fSrt, wItems, wTry, wAsgX, wDropX, wKd, wXf, wSeq, wAsg, wAsgO, wRet, wIfS, wNx, wPass, wBk, wCt, wDrop, wAug, wApp, wAppPop, wPop, wFor, wFz, wV, wVP, atV, atP, atO, wC, wOp, wCall, wCallN, wCB, aC, aN, wL, wTu, fL, wF, fCat, fList, wTB, wTru, wAnd, wOr, wNot, wAndV, wOrV, wNotV, wIf, wChain, wIsN, wNeg, dNeg, wSl, pN, pP, dSl, wLrev, dLrev, wIsi, wIsi2, iL, iT, iV, iS, iR1, iR2, gN, fLc, wYes, wiL,
  dAdd, dSub, dMul, dMulS, dMulL, dDiv, dMod, dLt, dLe, dGt, dGe, dEq, dNe, eqD, dIn, dNi, dIx, dTru, isNon, dLen, dInt, dAbs, dMax, dMin, dList, dTup, dStr, dIAdd, frzE, frz1, startD, List.map_cons, List.map_nil, List.length_cons, List.length_nil, List.replicate_succ, List.replicate_zero, List.cons_append, List.nil_append, List.append_nil, List.getElem?_cons_zero, List.getElem?_cons_succ, List.set_cons_zero, List.set_cons_succ, Nat.reduceSub, Nat.reduceAdd, if_true, if_false, ite_true, ite_false, reduceIte, Bool.false_eq_true, decide_true, decide_false, Bool.not_true, Bool.not_false, Bool.not_eq_true', decide_eq_true_eq, decide_eq_false_iff_not, isi_dic_bool, isi_dic_int, isi_dic_str, isi_dic_dict, Bool.true_eq_false, isi_int_int, isi_int_bool, isi_bl_int, isi_bl_bool, isi_non_int, isi_non_bool, isi_str_int, isi_str_bool, isi_str_str, isi_lst_list, isi_tup_tuple, Option.some.injEq, exists_eq_left', exists_eq_left, DV.int.injEq, DV.str.injEq, DV.bl.injEq, List.cons.injEq, and_true, true_and])
local macro_rules | `(tactic| walk_at "dl") => `(tactic| try walk_at "dl1")
local macro_rules | `(tactic| walk_at "go") => `(tactic| repeat' (first
  | (intro _)
  | walk_at "dl1"
  | (refine ⟨by first | decide | omega, ?_⟩)
  | split))
theorem fl_int (n : Nat) (k : Int) : flD n (.int k) := by cases n <;> trivial
end DL
namespace DL
open PySem PySem.Spec PyProof.Rows L2 NW
abbrev DSFD := List DV → (List Key → List DV → Prop) → (DV → Prop) → Prop
abbrev WFD := Env → (List Key → List DV → Prop) → Prop
def FinFD (W : Wd) (H : Hp) (R : List Key → List DV → Prop) (Q : VK) : Prop := ∀ ks xs (kvs : List (Key × V)) q H1, R ks xs → Kp W.st H H1 → W.Ok H1 → Iss W H1 (kvs.map (·.2)) xs → kvs.map (·.1) = ks → ks.Nodup → kvs.length ≤ 1000000 → H1 q = none → Q (.ref q) (upd H1 q (.dK kvs))
def dspFD (s : DSFD) : Sp := fun vs H Q E => ∃ W ds R RX, W.Ok H ∧ Iss W H vs ds ∧ s ds R RX ∧ FinFD W H R Q ∧ FinX W H RX E
/-- .. taken as data -/
def sD (s : DSFD) : DS2 := fun ds R RX => s ds (fun ks xs => R (.dic ks xs)) RX
theorem len_dspFD {s : DSFD} {n : Nat} (h : ∀ ds R RX, s ds R RX → ds.length = n) : ∀ vs H Q E, dspFD s vs H Q E → vs.length = n := fun vs H Q E q => by
  obtain ⟨W, ds, R, RX, o, i, z, _, _⟩ := q
  rw [i.len, h ds R RX z]
theorem Fin.fd {W : Wd} {H : Hp} {R : DV → Prop} {Q : VK} (f : Fin W H R Q) : FinFD W H (fun ks xs => R (.dic ks xs)) Q := fun ks xs kvs q H1 r k o i e n l hq =>
  f (.dic ks xs) (.ref q) _ r (k.trans (Kp.same (same_new hq))) (o.new hq) (.dic (.inl upd_same) (o.fresh hq) l e n (i.mono (Kp.same (same_new hq))))
theorem dspFD_weak {s : DSFD} : ∀ vs H Q E, dspX (sD s) vs H Q E → dspFD s vs H Q E := fun vs H Q E q => by
  obtain ⟨W, ds, R, RX, o, i, z, f, g⟩ := q
  exact ⟨W, ds, _, RX, o, i, z, f.fd, g⟩
def liftFD (w : WFD) : TE := fun σ H Q => ∃ W own ρ R, W.Ok H ∧ IsE W own H σ ρ ∧ w ρ R ∧ FinFD W H R Q
theorem FinFD.mono {W : Wd} {H H' : Hp} {R : List Key → List DV → Prop} {Q : VK} (f : FinFD W H R Q) (k : Kp W.st H H') : FinFD W H' R Q := fun ks xs kvs q H1 r k1 => f ks xs kvs q H1 r (k.trans k1)
section
variable {Ex : L2.WX} {X : Cx} {e : Expr} {st : Stmt} {w : WE} {r : WA} {C : Addr} {m : Str}
/-- dict(d) -/
def fDict (w : WE) : WFD := fun ρ R => w ρ fun d => asDI R d
theorem ddictF (h : PE X e (tCB (fun xs H Q => ∃ (a : Addr) (kvs : List (Key × V)), xs = [.ref a] ∧ Rd H a (.dK kvs) ∧ ∀ p, H p = none → Q (.ref p) (upd H p (.dK kvs))) (tCons (lift w) tNil))) : PE X e (liftFD (fDict w)) := pe_weak h fun σ H Q q => by
  obtain ⟨W, own, ρ, R, o, i, z, f⟩ := q
  refine ⟨W, own, ρ, _, o, i, z, fun d v H1 r k1 o1 i1 => ?_⟩
  obtain ⟨ks, xs, rfl, r⟩ := asDI_ex r
  cases i1 with
  | @dic _ kvs _ _ b1 b2 b3 b4 b5 b6 => exact ⟨_, _, rfl, b1, fun p hp => f _ _ kvs p H1 r k1 o1 b6 b4 b5 b3 hp⟩
/-- a call of such a def -/
def fCallD (s : DSFD) (r : WA) : WFD := fun ρ R => r ρ fun ds => s ds R fun _ => False
theorem dcallFD {s : DSFD} (h : PE X e (tCall (dspFD s) [] E0 (liftA r))) : PE X e (liftFD (fCallD s r)) := pe_weak h fun σ H Q q => by
  obtain ⟨W, own, ρ, R, o, i, z, f⟩ := q
  refine ⟨W, own, ρ, _, o, i, z, fun ds vs H1 r1 k1 o1 i1 => ?_⟩
  show dspFD s (vs ++ []) H1 Q E0
  rw [List.append_nil]
  exact ⟨W, ds, _, _, o1, i1, r1, f.mono k1, fun _ _ _ _ _ _ z => z.elim⟩
/-- .. of such a method -/
def fMethD (C : Addr) (m : Str) (s : DSFD) (w : WE) : WFD := fun ρ R => w ρ fun d => (∃ ns xs, d = .obj C ns xs ∧ m ∉ ns) ∧ s [d] R fun _ => False
theorem dmethFD {s : DSFD} (h : PE X e (tMeth C m (dspFD s) [] E0 (lift w) tNil)) : PE X e (liftFD (fMethD C m s w)) := pe_weak h fun σ H Q q => by
  obtain ⟨W, own, ρ, R, o, i, z, g⟩ := q
  refine ⟨W, own, ρ, _, o, i, z, fun d v H1 r1 k o1 i1 => ?_⟩
  obtain ⟨⟨ns, xs, rfl, hm⟩, r1⟩ := r1
  have i2 := i1
  cases i1 with
  | obj h1 h2 h3 h4 =>
    subst h3
    exact ⟨_, _, _, rfl, h1, lookup_none hm, W, _, _, _, o1, .cons i2 .nil, r1, g.mono k, fun _ _ _ _ _ _ z => z.elim⟩
/-- x = such a dict -/
def wAsgFD (i : Nat) (w : WFD) : WS := fun E ρ => w ρ fun ks xs => E.nx (ρ.set i (.od ks xs))
theorem dasgFD {w : WFD} (i : Nat) (h : ∀ te, PE X e te → PS X st (tAsg te (gName i))) (he : PE X e (liftFD w)) : PS X st (liftS Ex (wAsgFD i w)) := ps_weak (h _ he) fun D σ H q => by
  obtain ⟨B, own, ρ, E, c, h, d⟩ := q
  refine ⟨B.w own, own, ρ, _, c.ok, c.e, h, fun ks xs kvs q H1 r k o i1 e1 n1 l1 hq => ?_⟩
  exact d.nx _ _ _ _ r ((c.mono k o).setD (kv := kvs) i hq ⟨l1, e1, n1⟩ i1)
end
def OwesFD (n : Nat) (s : DSFD) (w : WS) (f : WFD) : Prop := ∀ ds R RX, s ds R RX → w { nx := fun ρ => f ρ R, rt := fun _ => False, xc := fun e _ => RX e } (startD n ds)
theorem dl_startFD {s : DSFD} {w : WS} {f : WFD} {N : List Str} (o : OwesFD N.length s w f) (vs : List V) (H : Hp) (Q : VK) (E : XK) (h : dspFD s vs H Q E) :
    tSeq (liftS (fun cls d _ H => E cls d H) w) (tRet (liftFD f)) { nx := fun _ H' => Q .non H', rt := Q } (L2.start N vs) H := by
  obtain ⟨W, ds, R, RX, ok, i, hs, g, gx⟩ := h
  refine ⟨⟨W.st, W.hid, H⟩, fun _ => none, _, _, ⟨ok.s, Kp.refl _ _, by rw [w_none]; exact ok, by rw [w_none]; exact isE_start i, (fun _ _ z => nomatch z), (fun _ _ _ z => nomatch z)⟩, o ds R RX hs, ⟨fun own ρ σ H' r c => ?_, fun _ _ _ _ z => z.elim, fun _ _ _ _ z => z.elim, fun _ _ _ z => z.elim, fun own ρ σ H' C ns xs dd fs r c h1 h2 h3 h4 => ?_⟩⟩
  · refine ⟨_, own, ρ, R, c.ok, c.e, r, fun ks xs kvs q H1 r1 k1 o1 i1 e1 n1 l1 hq => ?_⟩
    have c1 := c.mono k1 o1
    exact g ks xs kvs q H1 r1 c1.k c1.ok0 i1.w0 e1 n1 l1 hq
  · exact gx C ns xs dd H' fs r c.k c.ok0 h1 ⟨h2.1, fun z => h2.2 (.inl z)⟩ h3 h4.w0
/-- the last statement returns a dict of one's own -/
def OwesFV (n : Nat) (s : DSFD) (w : WS) (i : Nat) : Prop := ∀ ds R RX, s ds R RX → w { nx := fun ρ => ∃ ks xs, ρ[i]? = some (.od ks xs) ∧ R ks xs, rt := fun _ => False, xc := fun e _ => RX e } (startD n ds)
theorem dl_startFV {s : DSFD} {w : WS} {i : Nat} {N : List Str} (o : OwesFV N.length s w i) (vs : List V) (H : Hp) (Q : VK) (E : XK) (h : dspFD s vs H Q E) :
    tSeq (liftS (fun cls d _ H => E cls d H) w) (tRet (tVar i)) { nx := fun _ H' => Q .non H', rt := Q } (L2.start N vs) H := by
  obtain ⟨W, ds, R, RX, ok, ii, hs, g, gx⟩ := h
  refine ⟨⟨W.st, W.hid, H⟩, fun _ => none, _, _, ⟨ok.s, Kp.refl _ _, by rw [w_none]; exact ok, by rw [w_none]; exact isE_start ii, (fun _ _ z => nomatch z), (fun _ _ _ z => nomatch z)⟩, o ds R RX hs, ⟨fun own ρ σ H' r c => ?_, fun _ _ _ _ z => z.elim, fun _ _ _ _ z => z.elim, fun _ _ _ z => z.elim, fun own ρ σ H' C ns xs dd fs r c h1 h2 h3 h4 => ?_⟩⟩
  · obtain ⟨ks, xs, e, r⟩ := r
    obtain ⟨p, kvs, g1, g2, g3, ⟨l1, e1, n1⟩, i1⟩ := c.e.od i ks xs e
    have hp0 : H p = none := (c.o i p g1).1
    have np : W.st ≠ some p := (c.ok.h p (.inr ⟨i, g1⟩)).2
    refine ⟨_, g2, ?_⟩
    have z := g ks xs kvs p (mns H' p) r (Kp.mns c.k hp0 np) ⟨StoW.mns ok.s c.k c.ok0.s hp0 np, fun a ha => ?_⟩ (Iss.tr (W := (⟨W.st, W.hid, H⟩ : Bs).w own) (W' := W) rfl (fun b o k z => ⟨⟨k.1, fun w => k.2 (.inl w)⟩, by rw [mns_ne fun e => k.2 (.inr ⟨i, by rw [e]; exact g1⟩)]; exact z⟩) i1) e1 n1 l1 mns_same
    · rw [mns_upd g3] at z
      exact z
    · obtain ⟨⟨o, ho⟩, na⟩ := ok.h a ha
      exact ⟨⟨o, by rw [mns_ne fun e => by rw [e, hp0] at ho; cases ho]; exact c.k.o ho na⟩, na⟩
  · exact gx C ns xs dd H' fs r c.k c.ok0 h1 ⟨h2.1, fun z => h2.2 (.inl z)⟩ h3 h4.w0
end DL
namespace NWK
open PySem PySem.Spec PyProof.Rows PySem.W
section
variable {prog : Program} {w : World} {K : Type} [DecidableEq K] {knd : KeyKind prog w K} {A : Around} {E : Value → Shared → Prop} {s : Shared}
theorem end_hot {it d x1 : Addr} {i ep : Nat} {kvs : List (K × Value)} {ok ov c0 c1 : Value} {Q : Option Value → Shared → Prop} (hot : HotX.HotAt A x1 s.heap) (hx1 : x1 ≠ it)
    (hit : s.heap.get? it = some { cls := .type "dict_itemiterator", data := .fields #[c0, c1, .ref d, .int i 0, .int kvs.length 0, .int ep 0, ok, ov] })
    (hm : s.heap.DictAt knd d kvs ep) (hx : kvs[i]? = none)
    (hQ : ∀ h', (∀ b o, b ≠ it → s.heap.get? b = some o → h'.get? b = some o) → Q none { s with heap := h' }) : wpAny (model prog w) A (pyNext (.ref it)) Q E s := by
  obtain ⟨od, es, hod, hcd, hdd, hk, hpr, hn⟩ := id hm
  obtain ⟨hh, o1, vs1, h1, d1, e1⟩ := hot
  have hT : s.TypeIs (.ref it) "dict_itemiterator" := ⟨_, hit, rfl⟩
  unfold pyNext
  refine wpAny_bind (wpAny_attempt (wpAny_callSpecial?_slot (name := Str.ofString "__next__") hT PySem.F.slot_dict_itemiterator_next
    (wpAny_call_entry PySem.F.slot_dict_itemiterator_next hT PySem.F.entry_dict_itemiterator_next ?_ (PySem.F.args_dict_itemiterator_next_1 _))))
  refine wpAny_bind (wpAny_pure ?_)
  refine wpAny_bind ?_
  refine wpAny_bind ?_
  first | refine wpAny_bind (wpAny_typeNameOfWhole_itemiter hT (wpAny_pure ?_)) | refine wpAny_bind (wpAny_typeNameOf_itemiter hT (wpAny_pure ?_))
  refine wpAny_bind (wpAny_fieldsOf hit rfl ?_)
  have hown : Builtin.Dict_items.ownsTuple "dict_itemiterator" = true := by decide
  simp only [hown, if_true]
  show wpAny _ _ (if (Value.ref d == Value.none) = true then _ else _) _ _ s
  rw [if_neg (show ¬ ((Value.ref d == Value.none) = true) from Bool.false_ne_true)]
  refine wpAny_bind (wpAny_pure ?_)
  refine wpAny_bind (wpAny_dictEntries hod hdd ?_)
  have hsz : es.size = kvs.length := by rw [← hpr.length]; simp
  rw [if_neg (by rw [hsz]; simp)]
  refine wpAny_bind (wpAny_pure ?_)
  refine wpAny_bind (wpAny_dictEpoch hod hdd ?_)
  rw [if_neg (by simp)]
  refine wpAny_pure ?_
  have hge : es.size ≤ i := by rw [hsz]; simpa using hx
  simp only [show ¬ ((i : Int) < 0) from by omega, if_false, Int.toNat_natCast, Array.getElem?_eq_none hge]
  refine wpAny_bind ?_
  first | refine wpAny_bind (wpAny_typeNameOfWhole_itemiter hT (wpAny_pure ?_)) | refine wpAny_bind (wpAny_typeNameOf_itemiter hT (wpAny_pure ?_))
  show wpAny _ _ (setField (.ref it) 2 .none >>= _) _ _ s
  refine wpAny_bind (wpAny_setField hit rfl (by simp) ?_)
  have up : ∀ {g : Obj → Obj} b o, b ≠ it → s.heap.get? b = some o → (s.heap.update it g).get? b = some o := fun b o hb e => (Heap.get?_update_other _ _ (Ne.symm hb)).trans e
  show wpAny _ _ (newExc (.type "StopIteration") [] >>= _) _ _ _
  refine wpAny_bind ?_
  simp only [newExc, newTuple]
  refine wpAny_bind (wpAny_newObj_type ?_ (by size_fits))
  refine wpAny_bind (m := firstArgMember _ _) (wpAny_of_eq (a := Value.none) (by first | rfl | (simp only [firstArgMember]; rfl)) ?_)
  refine wpAny_newObj_type ?_ (by size_fits)
  refine HotX.raiseNew_hot ⟨hh, o1, vs1, Heap.get?_push_of_some _ (Heap.get?_push_of_some _ (up _ _ hx1 h1)), d1, e1⟩ (Nat.ne_of_lt (Heap.lt_size (Heap.get?_push_of_some _ (up _ _ hx1 h1)))) (Heap.get?_push_size _ rfl) rfl (by first | (simp; done) | (simp; omega) | (simp only [Array.size_append]; simp; omega)) ?_
  refine wpAny_bind (wpAny_isInstance (T := "StopIteration") (b := true) ⟨_, Heap.get?_update_self _ (Heap.get?_push_size _ rfl) rfl, rfl⟩ isSubtype_stop ?_)
  refine wpAny_pure (hQ _ fun b o hb e => ?_)
  rw [Heap.get?_update_other _ _ (Nat.ne_of_gt (Heap.lt_size (Heap.get?_push_of_some _ (up b o hb e))))]
  exact Heap.get?_push_of_some _ (Heap.get?_push_of_some _ (up b o hb e))
theorem done_hot {it d S x1 : Addr} {i ep : Nat} {kvs : List (K × Value)} {Q : Option Value → Shared → Prop} (hot : HotX.HotAt A x1 s.heap) (hx1 : x1 ≠ it) (hst : KdxSt s.heap it d S i kvs.length ep) (hm : s.heap.DictAt knd d kvs ep) (hx : kvs[i]? = none)
    (hQ : ∀ h', (∀ b o, b ≠ it → s.heap.get? b = some o → h'.get? b = some o) → Q none { s with heap := h' }) : wpAny (model prog w) A (pyNext (.ref it)) Q E s := by
  rcases hst with ⟨rfl, ok, ov, hit⟩ | ⟨ok, ov, a, f, oa, hit, _, _, _⟩
  · exact end_hot hot hx1 hit hm hx hQ
  · exact end_hot hot hx1 hit hm hx hQ
end
section
variable {prog : Program} {w : World} {K : Type} [DecidableEq K] {knd : KeyKind prog w K} {A : Around} {s : Shared} {R : Result → Shared → Prop} {kvs : List (K × Value)} {ep : Nat}
/-- what stands when i pairs are in the list -/
structure Half (knd : KeyKind prog w K) (kvs : List (K × Value)) (ep : Nat) (S I d : Addr) (h₁ : Heap) (i : Nat) (h : Heap) (c : Nat) (acc : Array Value) (as : List Addr) : Prop where
  le : i ≤ kvs.length
  st : KdxSt h I d S i kvs.length ep
  dict : h.DictAt knd d kvs ep
  keep : ∀ b o, b ≠ S → b ≠ I → h₁.get? b = some o → h.get? b = some o
  list : h.get? S = some { cls := .type "list", dict := none, data := .seq acc c, slots := #[] }
  acc : acc.toList = as.map Value.ref
  len : as.length = i
  pairs : KdxG knd kvs I h as
  above : I < h.objs.size
theorem Half.next {S I d : Addr} {h₁ h h' : Heap} {i c : Nat} {acc : Array Value} {as : List Addr} {key x : Value} {kk : K} (T : Half knd kvs ep S I d h₁ i h c acc as) (hSI : S < I) (hSd : d ≠ S) (hId : d ≠ I) (hx : kvs[i]? = some (kk, x)) (hkey : knd.is kk key = true)
    (st : KdxSt h' I d S (i + 1) kvs.length ep) (ht : h'.get? h.objs.size = some { cls := .type "tuple", data := .seq #[key, x] }) (hk : ∀ b o, b ≠ I → h.get? b = some o → h'.get? b = some o) :
    ∃ c', Half knd kvs ep S I d h₁ (i + 1) (h'.update S (Obj.mapSeq (·.push (Value.ref h.objs.size)))) c' (acc.push (Value.ref h.objs.size)) (as ++ [h.objs.size]) := by
  have hlt : i < kvs.length := (List.getElem?_eq_some_iff.mp hx).1
  have ne : S ≠ I := Nat.ne_of_lt hSI
  have hS' := hk S _ ne T.list
  have hSl : S < h.objs.size := Heap.lt_size T.list
  have up : ∀ b o, b ≠ S → h'.get? b = some o → (h'.update S (Obj.mapSeq (·.push (Value.ref h.objs.size)))).get? b = some o := fun b o hb e => (Heap.get?_update_other _ _ (Ne.symm hb)).trans e
  have new := up _ _ (Nat.ne_of_gt hSl) ht
  refine ⟨_, hlt, st.keep up (Ne.symm ne), T.dict.at' fun o e => up d o hSd (hk d o hId e), fun b o h1 h2 e => up b o h1 (hk b o h2 (T.keep b o h1 h2 e)), Heap.get?_update_self _ hS' rfl, by rw [Array.toList_push, T.acc, List.map_append]; rfl, by rw [List.length_append, T.len]; rfl, ⟨?_, fun a ha => ?_, fun j b hj => ?_⟩, Nat.lt_trans T.above (Heap.lt_size new)⟩
  · exact List.pairwise_append.mpr ⟨T.pairs.rise, List.pairwise_singleton _ _, fun a ha b hb => by rw [List.mem_singleton.mp hb]; exact T.pairs.there ha⟩
  · rcases List.mem_append.mp ha with ha | ha
    · exact T.pairs.above a ha
    · rw [List.mem_singleton.mp ha]; exact T.above
  · by_cases h1 : j < as.length
    · rw [List.getElem?_append_left h1] at hj
      obtain ⟨key', k', x', e1, e2, e3⟩ := T.pairs.pairs j b hj
      have hb := T.pairs.above b (List.mem_of_getElem? hj)
      exact ⟨key', k', x', e1, e2, up b _ (Nat.ne_of_gt (Nat.lt_trans hSI hb)) (hk b _ (Nat.ne_of_gt hb) e3)⟩
    · rw [List.getElem?_append_right (Nat.le_of_not_lt h1)] at hj
      have hj0 : j - as.length = 0 := by
        cases z : j - as.length with
        | zero => rfl
        | succ n => rw [z] at hj; cases hj
      rw [hj0] at hj
      cases hj
      have ej : j = i := by rw [← T.len]; omega
      rw [ej]
      exact ⟨key, kk, x, hx, hkey, new⟩
theorem loop_hot {S I d x1 : Addr} (hh : A.handled = some (.ref x1)) {h₁ : Heap} (hx : ∃ (o : Obj) (vs : Array Value), h₁.get? x1 = some o ∧ o.data = .fields vs ∧ vs[2]? = some .none) (n1 : x1 ≠ S) (n2 : x1 ≠ I) (hSI : S < I) (hSd : d ≠ S) (hId : d ≠ I) (hn : kvs.length ≤ sizeLine) (res : Value)
    (hR : ∀ h' tk acc c as, (∀ b o, b ≠ S → b ≠ I → h₁.get? b = some o → h'.get? b = some o) → h'.get? S = some { cls := .type "list", dict := none, data := .seq acc c, slots := #[] } → as.length = kvs.length → KdxG knd kvs I h' as →
      acc.toList = as.map Value.ref → R (.ok (.ret res)) { s with heap := h', toks := tk }) :
    ∀ (k i : Nat) (h : Heap) (tk c : Nat) (acc : Array Value) (as : List Addr), kvs.length - i = k → Half knd kvs ep S I d h₁ i h c acc as →
      codeAny (model prog w) A (.builtin "list.extend.loop" ⟨[.ref S, .ref I, res], []⟩) R { s with heap := h, toks := tk } := by
  have ne : S ≠ I := Nat.ne_of_lt hSI
  intro k
  induction k with
  | zero =>
    intro i h tk c acc as hk T
    obtain ⟨o1, vs1, e1, e2, e3⟩ := hx
    have T1 := T.le
    refine codeAny_builtin PySem.F.entry_extend_loop ?_
    rw [Around.under_plainId PySem.F.plain_extend_loop _]
    show wpAny _ A.in1 (pyNext (.ref I) >>= _) _ _ _
    refine wpAny_bind (done_hot (s := { s with heap := h, toks := tk }) (A := A.in1) ⟨hh, o1, vs1, T.keep _ _ n1 n2 e1, e2, e3⟩ n2 T.st T.dict (List.getElem?_eq_none (by omega)) fun h' he => ?_)
    refine wpAny_pure (hR h' tk acc c as (fun b o h1 h2 e => he b o h2 (T.keep b o h1 h2 e)) (he S _ ne T.list) (by have := T.len; omega) ⟨T.pairs.rise, T.pairs.above, fun j a hj => ?_⟩ T.acc)
    obtain ⟨key, kk, x, f1, f2, f3⟩ := T.pairs.pairs j a hj
    exact ⟨key, kk, x, f1, f2, he a _ (Nat.ne_of_gt (T.pairs.above a (List.mem_of_getElem? hj))) f3⟩
  | succ k ih =>
    intro i h tk c acc as hk T
    have hlt : i < kvs.length := by omega
    obtain ⟨⟨kk, x⟩, hx⟩ : ∃ p, kvs[i]? = some p := ⟨kvs[i], List.getElem?_eq_getElem hlt⟩
    have hsz : acc.size = i := by rw [← Array.length_toList, T.acc, List.length_map, T.len]
    refine codeAny_builtin PySem.F.entry_extend_loop ?_
    rw [Around.under_plainId PySem.F.plain_extend_loop _]
    show wpAny _ A.in1 (pyNext (.ref I) >>= _) _ _ _
    refine wpAny_bind (kdx_item (s := { s with heap := h, toks := tk }) (S := S) T.st (Heap.lt_size T.list) T.dict hx fun key h' hkey hst' ht hz hkp => ?_)
    dsimp only at ht hz hkp ⊢
    obtain ⟨c', T'⟩ := T.next hSI hSd hId hx hkey hst' ht hkp
    have hS' := hkp S _ ne T.list
    show wpAny _ A.in1 (updateSeq S (·.push (Value.ref h.objs.size)) >>= _) _ _ _
    refine wpAny_bind ?_
    exact wpAny_updateSeq hS' rfl (wpAny_pure ⟨plainId_quiet PySem.F.plain_extend_loop _, ih (i + 1) _ tk _ _ _ (by omega) T'⟩) (by rw [hsz]; omega) (by show (acc.push (Value.ref h.objs.size)).size ≤ sizeLine + 1; rw [Array.size_push, hsz]; omega)
end
section
variable {prog : Program} {w : World} {K : Type} [DecidableEq K] {knd : KeyKind prog w K} {A : Around} {E : Value → Shared → Prop} {s : Shared} {r d x1 : Addr} {kvs : List (K × Value)} {ep : Nat}
/-- what a list made of the pairs is -/
def Got (knd : KeyKind prog w K) (kvs : List (K × Value)) (s : Shared) (S : Addr) (R : Shared → Prop) : Prop := ∀ h' tk acc c as, (∀ b o, b ≠ S → s.heap.get? b = some o → h'.get? b = some o) → h'.get? S = some { cls := .type "list", dict := none, data := .seq acc c, slots := #[] } →
  as.length = kvs.length → KdxG knd kvs S h' as → acc.toList = as.map Value.ref → R { s with heap := h', toks := tk }
theorem extend_hot {R : Result → Shared → Prop} (hh : A.handled = some (.ref x1)) (hx : ∃ (o : Obj) (vs : Array Value), s.heap.get? x1 = some o ∧ o.data = .fields vs ∧ vs[2]? = some .none) (hv : s.heap.IsItemsView r d) (hm : s.heap.DictAt knd d kvs ep) (S : Addr) (n1 : x1 ≠ S) (hSr : S ≠ r) (hSd : d ≠ S) (res : Value) (c₀ : Nat)
    (hS : s.heap.get? S = some { cls := .type "list", data := .seq #[] c₀ }) (hR : Got knd kvs s S fun s' => R (.ok (.ret res)) s') (hn : kvs.length ≤ sizeLine) :
    wpAny (model prog w) A.in1 (Builtin.List.listExtendWith (.ref S) (.ref r) res)
      (fun fin s' => match fin with | .done f => R (.ok f) s' | .again c' => c'.quiet = true ∧ codeAny (model prog w) A c' R s') (fun e s' => R (.error e) s') s := by
  have hSI : S < s.heap.objs.size := Heap.lt_size hS
  have hdI : d < s.heap.objs.size := hm.lt_size
  have hxI : x1 ≠ s.heap.objs.size := let ⟨_, _, e, _⟩ := hx; Nat.ne_of_lt (Heap.lt_size e)
  have key : ∀ (h : Heap) (c₁ tk : Nat), (∀ b o, b ≠ S → (s.heap.push { cls := .type "dict_itemiterator", data := .fields #[.none, .bool false, .ref d, .int 0 0, .int kvs.length 0, .int ep 0, .none, .none] }).get? b = some o → h.get? b = some o) →
      h.get? S = some { cls := .type "list", data := .seq #[] c₁ } → codeAny (model prog w) A (.builtin "list.extend.loop" ⟨[.ref S, .ref s.heap.objs.size, res], []⟩) R { s with heap := h, toks := tk } := by
    intro h c₁ tk hk hS₁
    have hI := hk s.heap.objs.size _ (Nat.ne_of_gt hSI) (Heap.get?_push_size _ rfl)
    refine loop_hot (knd := knd) (kvs := kvs) (ep := ep) (s := s) (h₁ := s.heap) hh hx n1 hxI hSI hSd (Nat.ne_of_lt hdI) hn res
      (fun h' tk' acc c as hk' hS' hl hG hacc => hR h' tk' acc c as (fun b o hb e => hk' b o hb (Nat.ne_of_lt (Heap.lt_size e)) e) hS' hl (hG.low (Nat.le_of_lt hSI)) hacc) kvs.length 0 h tk c₁ #[] [] (Nat.sub_zero _) ?_
    exact ⟨Nat.zero_le _, .inl ⟨rfl, .none, .none, hI⟩, hm.at' fun o e => hk d o hSd (Heap.get?_push_of_some _ e), fun b o hb _ e => hk b o hb (Heap.get?_push_of_some _ e), hS₁, rfl, rfl, ⟨List.Pairwise.nil, (fun _ ha => nomatch ha), (fun j a hj => by simp at hj)⟩, Heap.lt_size hI⟩
  unfold Builtin.List.listExtendWith
  refine wpAny_bind (wpAny_typeOf (T := "dict_items") hv.typeIs ?_)
  have h1 : Builtin.List.listSameRef (.ref S) (.ref r) = false := by simp [Builtin.List.listSameRef, hSr]
  have h2 : (Value.type "dict_items" == Value.type "list") = false := by decide
  have h3 : (Value.type "dict_items" == Value.type "tuple") = false := by decide
  simp only [h1, h2, h3, Bool.or_false, Bool.false_eq_true, if_false]
  refine wpAny_bind (wpAny_pyIter_items hv hm ?_)
  have hS₁ := Heap.get?_push_of_some { cls := .type "dict_itemiterator", data := .fields #[.none, .bool false, .ref d, .int 0 0, .int kvs.length 0, .int ep 0, .none, .none] } hS
  refine wpAny_bind (wpAny_holding (kdx_hint (let ⟨o, ho, hc, _⟩ := hv; ⟨o, Heap.get?_push_of_some _ ho, hc⟩) ?_))
  refine wpAny_ite_split (fun _ => ?_) (fun _ => wpAny_pure ⟨plainId_quiet PySem.F.plain_extend_loop _, key _ c₀ _ (fun b o _ e => e) hS₁⟩)
  refine wpAny_bind (wpAny_rule ?_)
  refine wpAny_bind ?_
  show wpAny _ _ (updateSeq S (·.push .none) >>= fun _ => updateSeq S (·.pop)) _ _ _
  refine wpAny_bind (wpAny_updateSeq hS₁ rfl ?_)
  have hS₂ := Heap.get?_update_self (Obj.mapSeq (·.push Value.none)) hS₁ rfl
  refine wpAny_updateSeq (hz := by seq_fits) hS₂ rfl ?_
  have hS₃ := Heap.get?_update_self (Obj.mapSeq (·.pop)) hS₂ rfl
  refine wpAny_pure ⟨plainId_quiet PySem.F.plain_extend_loop _, key _ _ _ (fun b o hb e => ?_) hS₃⟩
  exact (Heap.get?_update_other _ _ (Ne.symm hb)).trans ((Heap.get?_update_other _ _ (Ne.symm hb)).trans e)
theorem init_hot {R : Result → Shared → Prop} (hh : A.handled = some (.ref x1)) (hx : ∃ (o : Obj) (vs : Array Value), s.heap.get? x1 = some o ∧ o.data = .fields vs ∧ vs[2]? = some .none) (hv : s.heap.IsItemsView r d) (hm : s.heap.DictAt knd d kvs ep) (S : Addr) (n1 : x1 ≠ S) (hSr : S ≠ r) (hSd : d ≠ S)
    (hS : s.heap.get? S = some { cls := .type "list", data := .seq #[] }) (hR : Got knd kvs s S fun s' => R (.ok (.ret .none)) s') (hn : kvs.length ≤ sizeLine) :
    wpAny (model prog w) A.in1 (Builtin.«list.__init__» ⟨[.ref S, .ref r], []⟩)
      (fun fin s' => match fin with | .done f => R (.ok f) s' | .again c' => c'.quiet = true ∧ codeAny (model prog w) A c' R s') (fun e s' => R (.error e) s') s := by
  show wpAny _ _ (do let old ← Builtin.List.listItems (.ref S); Builtin.List.listUpdate (.ref S) (fun _ => #[]); letGo old.toList.reverse; Builtin.List.listExtendWith (.ref S) (.ref r) .none) _ _ s
  refine wpAny_bind ?_
  unfold Builtin.List.listItems
  refine wpAny_bind (wpAny_seqItems hS rfl (wpAny_pure ?_))
  show wpAny _ _ (updateSeq S (fun _ => #[]) >>= fun _ => letGo (#[] : Array Value).toList.reverse >>= fun _ => Builtin.List.listExtendWith (.ref S) (.ref r) .none) _ _ s
  refine wpAny_bind (wpAny_updateSeq hS rfl ?_)
  have hS₂ := Heap.get?_update_self (Obj.mapSeq (fun _ => (#[] : Array Value))) hS rfl
  have oth : ∀ b o, b ≠ S → s.heap.get? b = some o → (s.heap.update S (Obj.mapSeq (fun _ => (#[] : Array Value)))).get? b = some o := fun b o hb e => (Heap.get?_update_other _ _ (Ne.symm hb)).trans e
  refine wpAny_bind (wpAny_letGo ?_)
  obtain ⟨o1, vs1, e1, e2, e3⟩ := hx
  refine extend_hot (knd := knd) (kvs := kvs) (ep := ep) hh ⟨o1, vs1, oth _ _ n1 e1, e2, e3⟩ (let ⟨o, ho, x⟩ := hv; ⟨o, oth r o hSr.symm ho, x⟩) (hm.at' fun o e => oth d o hSd e) S n1 hSr hSd .none _ hS₂ (fun h' tk acc c as hk hS' hl hG hacc => ?_) hn
  exact hR h' tk acc c as (fun b o hb e => hk b o hb (oth b o hb e)) hS' hl hG hacc
theorem call_hot {Q : Value → Shared → Prop} (hot : HotX.HotAt A x1 s.heap) (hv : s.heap.IsItemsView r d) (hm : s.heap.DictAt knd d kvs ep) (hn : kvs.length ≤ sizeLine)
    (hQ : ∀ h' tk acc c as, (∀ b o, s.heap.get? b = some o → h'.get? b = some o) → h'.get? s.heap.objs.size = some { cls := .type "list", dict := none, data := .seq acc c, slots := #[] } → as.length = kvs.length → KdxG knd kvs s.heap.objs.size h' as →
      acc.toList = as.map Value.ref → Q (.ref s.heap.objs.size) { s with heap := h', toks := tk }) :
    wpAny (model prog w) A (call (.type "list") [.ref r]) Q E s := by
  obtain ⟨hh, o1, vs1, e1, e2, e3⟩ := hot
  refine callType_codes (Q₁ := fun obj s₁ => obj = .ref s.heap.objs.size ∧ s₁ = { s with heap := s.heap.push { cls := .type "list", data := .seq #[] } }) PySem.F.called_list (PySem.F.typeCall_list_1 _) PySem.F.entry_list_init
    (code_list_new _ ⟨rfl, rfl⟩) fun obj s₁ h₁ => ?_
  obtain ⟨rfl, rfl⟩ := h₁
  have hS : (s.heap.push { cls := .type "list", data := .seq #[] }).get? s.heap.objs.size = some { cls := .type "list", data := .seq #[] } := Heap.get?_push_size _ rfl
  have hr : r < s.heap.objs.size := let ⟨_, ho, _⟩ := hv; Heap.lt_size ho
  have hd : d < s.heap.objs.size := hm.lt_size
  refine ⟨⟨_, hS, rfl⟩, PySem.F.args_list_init_2 _ _, init_hot (knd := knd) (kvs := kvs) (ep := ep) (A := A.in1) hh ⟨o1, vs1, Heap.get?_push_of_some _ e1, e2, e3⟩ (let ⟨o, ho, x⟩ := hv; ⟨o, Heap.get?_push_of_some _ ho, x⟩) (hm.push _) _ (Nat.ne_of_lt (Heap.lt_size e1)) (Nat.ne_of_gt hr) (Nat.ne_of_lt hd) hS (fun h' tk acc c as hk hS' hl hG hacc => ?_) hn⟩
  exact ⟨rfl, hQ h' tk acc c as (fun b o e => hk b o (Nat.ne_of_lt (Heap.lt_size e)) (Heap.get?_push_of_some _ e)) hS' hl hG hacc⟩
end
end NWK
namespace NW
open PySem PySem.Spec PyProof.Rows L2
theorem cmB_ok {K : PySem.W.Frag} {C : Addr} {m : Str} (h : cmB K C m = true) : ClX.CRead K C (.type "type") ∧ ClX.CMet K C (.type "type") m (He.ma K C m) (He5.wf K C "classmethod" m) := by
  obtain ⟨h1, h⟩ := ba2 h
  obtain ⟨h2, h3⟩ := ba2 h
  refine ⟨⟨h1, ?_⟩, He5.cmet_of h2 h3⟩
  unfold PySem.W.readsIn at h1
  obtain ⟨h1, _⟩ := ba2 h1
  obtain ⟨h1, _⟩ := ba2 h1
  obtain ⟨h1, k3⟩ := ba2 h1
  obtain ⟨_, k2⟩ := ba2 h1
  unfold PySem.W.specialIn
  rw [beq_iff_eq.mp k2, Option.bind_some]
  exact beq_iff_eq.mp k3
structure HasCAt (P : Program) (w : World) (K : PySem.W.Frag) (mg : Str → Option Value) (base : Heap) (C : Addr) (m : Str) (k : Nat) (ps : List Str) (sp : Sp) (mc : Value) (p g : Addr) (fd : FuncData) : Prop where
  r : ClX.CRead K C mc
  c : ClX.CMet K C mc m p g
  b : Binds K fd ps []
  ok : FnOk P w K mg base (L2N.CX P w) k g fd ps sp
def HasC (P : Program) (w : World) (K : PySem.W.Frag) (mg : Str → Option Value) (base : Heap) (C : Addr) (m : Str) (k : Nat) (ps : List Str) (sp : Sp) : Prop := ∃ mc p g fd, HasCAt P w K mg base C m k ps sp mc p g fd
section
variable {X : Cx} {C : Addr} {m x : Str} {k j : Nat} {ps : List Str} {sp : Sp} {np pos apos : Pos} {e : Expr} {es : List Expr} {t : TA}
theorem run_cmS {pins : List (Addr × Obj)} {σ : L2.St} {H : Hp} {s : Shared} {g q : Addr} {fd : FuncData} {E : XK} {Q : VK} {us : List Value} {vs : List V} (F : FnOk X.prog X.w X.K X.mg X.base (L2N.CX X.prog X.w) k g fd ps sp) (hb : Binds X.K fd ps []) (hr : Room k X.A) (hx : PassesAt (L2N.CX X.prog X.w) X σ E)
    (I : Inv X ((q, PySem.W.methodObj (.ref g) (.ref C)) :: pins) σ H s) (r : Vals vs us) (h : sp (.ref C :: vs) H Q E) : wpAny (model X.prog X.w) X.A (call (.ref q) us) (EP X pins σ Q) X.xe s := by
  have r2 : Vals (V.ref C :: vs) (Value.ref C :: us) := .cons rfl r
  have hl : ((Value.ref C :: us) ++ []).length = ps.length := by rw [List.append_nil, ← r2.length]; exact F.len _ _ _ _ h
  have b := hb s (Value.ref C :: us) I.kIn hl
  rw [List.append_nil] at b
  refine wpAny_call (PySem.W.method_call (ClX.pin_at I) (codeAny_mono (F.run X.A X.stack s H ⟨Value.ref C :: us, []⟩ (Value.ref C :: us) _ Q E hr I.env0 b r2 h) fun r s' hq => ?_))
  cases r with
  | error e => exact hx _ H s e s' I hq
  | ok fl =>
    cases fl with
    | ret u => exact ClX.unpinE (I.after hq)
    | next => exact False.elim hq
    | brk => exact False.elim hq
    | cont => exact False.elim hq
def tCMS (C : Addr) (sp : Sp) (E : L2.St → XK) (t : TA) : TE := fun σ H Q => t σ H fun vs H2 => sp (.ref C :: vs) H2 Q (E σ)
theorem pe_cmS {pl : Sem Bool} {E : L2.St → XK} (h : HasC X.prog X.w X.K X.mg X.base C m k ps sp) (hm : X.mg x = some (.ref C)) (hr : Room j X.A) (hx : ∀ σ, PassesAt (L2N.CX X.prog X.w) X σ (E σ)) (ha : PA X (e :: es) t) (hk : k ≤ j := by decide) (hg : Gl X x := by rfl) (hdb : (x == ("__debug__" : Str)) = false := by decide)
    (hst : starEach (e :: es) X.env = (false, eval e X.env) :: starEach es X.env := by rfl) (hpl : (backTo pos (starEach es X.env)).any (·.1) = false := by rfl)
    (ht : eval (.Call (.Attribute (.Name x np) m apos) (e :: es) [] pos) X.env = (do
      let ov ← eval (.Name x np) X.env
      standAt apos.atName
      let (f, first) ← holding [ov] (getMethod ov m pl)
      callWith pos f first (backTo pos (starEach (e :: es) X.env)) (backToKw pos (keywordEach [] X.env))) := by rfl) : PE X (.Call (.Attribute (.Name x np) m apos) (e :: es) [] pos) (tCMS C sp E t) := by
  obtain ⟨mc, p, g, fd, F⟩ := h
  refine ⟨fun pins s σ H Q I h => ?_⟩
  refine PySem.W.methodCall_KW (pl := pl) (thn ((pe_glob (v := .ref C) hg hm rfl hdb).run pins s σ H (fun y H1 => y = .ref C ∧ H1 = H) I ⟨rfl, rfl⟩) fun u s1 ⟨y, H1, I1, rx, ey, eH⟩ => ?_) ht
  subst ey eH
  obtain rfl : u = Value.ref C := rx
  refine ClX.getmethcm_ok I1 F.r F.c fun s2 I2 => ?_
  refine ClX.callwith_cm I2 (ClX.base_none I1 (Nat.le_refl _)) F.c.fi (thn (ha.run pos _ s2 σ _ _ I2 h) fun us s3 ⟨vs, H2, I3, rv, q2⟩ => ⟨⟨ClX.pin_at I3, I3.kIn⟩, ?_⟩) hst hpl
  exact run_cmS F.ok F.b (hr.mono hk) (hx σ) I3 rv q2
/-- C(..), C in a name -/
def tMakeL (i : Nat) (C : Addr) (sp : Sp) (t : TA) : TE := fun σ H Q => σ[i]? = some (some (.ref C)) ∧ tMake C sp [] E0 t σ H Q
theorem pe_miL {dvs : List V} {i : Nat} {p : Pos} (h : HasI X.prog X.w X.K X.mg X.base C k ps dvs sp) (hN : X.N[i]? = some x) (hv : Vis X.env.scope x) (hr : Room j X.A) (ha : PA X (e :: es) t) (hk : k + 1 ≤ j := by decide) (hdb : (x == ("__debug__" : Str)) = false := by decide) (hcd : (x == ("__classdict__" : Str)) = false := by decide)
    (he : starEach (e :: es) X.env = (false, eval e X.env) :: starEach es X.env := by rfl) (hpl : (backTo pos (starEach es X.env)).any (·.1) = false := by rfl) : PE X (.Call (.Name x p) (e :: es) [] pos) (tMakeL i C sp t) := by
  obtain ⟨f, fd, F⟩ := h
  refine ⟨fun pins s σ H Q I h => ?_⟩
  obtain ⟨hs, h⟩ := h
  refine wpAny_Call_Name_kw (thn ((pe_var (pos := p) hN hv hdb hcd).run pins s σ H (fun v H1 => v = .ref C ∧ H1 = H) I ⟨.ref C, hs, rfl, rfl⟩) fun u s1 ⟨v, H1, I1, r1, q1⟩ => ?_)
  obtain ⟨rfl, rfl⟩ := q1
  cases r1
  refine PySem.W.callWith_K (h₀ := X.base) I1.ok.mod.kin F.m.kp (thn (ha.run pos pins s1 σ _ _ I1 h) fun us s2 ⟨vs, H2, I2, r, q⟩ => ⟨I2.kIn, ?_⟩) he hpl
  exact run_make F.m F.ok (hr.mono hk) F.b .nil passN I2 r q
end
section
variable {P : Program} {w : World} {K : PySem.W.Frag} {mg : Str → Option Value} {base : Heap} {C : Addr} {m qual : Str} {params : Arguments} {body : List Stmt} {scope : Scope} {N ps : List Str} {k : Nat} {sp : Sp}
theorem hasC_of {t : XK → TS} (F : ∃ mc p g fd, ClX.CRead K C mc ∧ ClX.CMet K C mc m p g ∧ FunD K m qual params body scope [] [] g fd) (S : FnScope N ps scope) (len : ∀ vs H Q E, sp vs H Q E → vs.length = ps.length)
    (bn : ∀ (kV doc pm : Value) (an : Option Addr) (cdv ct : Value) (us : List Value), us.length = ps.length → bindArgs (PySem.W.fnOf m qual params body scope .none kV doc pm an cdv ct) ⟨us, []⟩ = pure (ps.zip us))
    (d : ∀ (f : Addr) (cdv : Value) (A : Around) (outer : List PySem.Env) (s : Shared) (H : Hp) (E : XK), Room k (A.deeper (envOfC qual scope s.heap.objs.size f cdv)) →
      L2N.Takes (cxOf (L2N.CX P w) P w K mg base N qual scope f cdv A outer s H E) (fun cls d _ H => E cls d H) → PSs (cxOf (L2N.CX P w) P w K mg base N qual scope f cdv A outer s H E) body (t E))
    (pure_ : ∀ vs H Q E, sp vs H Q E → t E { nx := fun _ H' => Q .non H', rt := Q } (L2.start N vs) H) : HasC P w K mg base C m (k + 1) ps sp := by
  obtain ⟨mc, p, g, fd, hr, hm, F⟩ := F
  exact ⟨mc, p, g, fd, hr, hm, F.bindsN bn, F.ok S len fun cdv A outer s H vs Q E hr h => ⟨t E, d g cdv A outer s H E hr (L2N.takes_of rfl rfl rfl rfl), pure_ vs H Q E h⟩⟩
end
section
variable {X : Cx}
theorem pe_listItemsH {e : Expr} {te : TE} {p apos cpos pos : Pos} (hc : L2H.HotC X) (he : PE X e te) (hg : Gl X "list") (hm : X.mg "list" = none) (hv : bootBuiltins "list" = some (.type "list")) (hbase : attributeBase e "items" X.env (eval e X.env) = eval e X.env := by rfl) (hline : (apos.endLine == cpos.line) = true := by rfl)
    (hs : starEach [.Call (.Attribute e "items" apos) [] [] cpos] X.env = (false, eval (.Call (.Attribute e "items" apos) [] [] cpos) X.env) :: starEach [] X.env := by rfl) :
    PE X (.Call (.Name "list" p) [.Call (.Attribute e "items" apos) [] [] cpos] [] pos) (DL.tListItemsR te) := by
  refine ⟨fun pins s σ H Q I hq => ?_⟩
  refine wpAny_Call_Name_kw (ld_blt I hg hm hv ?_)
  refine PyProof.Rows.callWith_type1 ?_ hs rfl
  rw [hs]
  show wpAny _ _ (spliced ((false, eval (.Call (.Attribute e "items" apos) [] [] cpos) X.env) :: backTo pos (starEach [] X.env))) _ _ s
  refine Calls.spliced_cons ?_
  refine wpAny_Call_method (T := "dict") (id := "dict.items") hbase rfl hline F.plainAttrs_dict F.slot_dict_items F.type_dict_items (thn (he.run pins s σ H _ I hq) fun u s1 ⟨x, H1, I1, rx, d, kvs, ex, hd, q⟩ => ?_)
  subst ex
  obtain rfl : u = Value.ref d := rx
  obtain ⟨hz, hs0, vs, kv, hdo⟩ := hd.ok I1.hok
  obtain ⟨ep, hat⟩ := hdo.dictAt
  have lk : kvs.length = vs.length := Paired.length kv
  have I2 : Inv X pins σ H1 { s1 with heap := s1.heap.push { cls := .type "dict_items", data := .fields #[.ref d] } } := I1.kept (t' := s1.toks) fun b ob q => Heap.get?_push_of_some _ q
  refine ⟨hdo.typeIs, hdo.mapOf.noDict, ?_⟩
  show wpAny _ _ (callWith cpos (.builtin "dict.items") [.ref d] [] []) _ X.xe s1
  refine method_meetsIn F.slot_dict_items F.entry_dict_items rfl (PySem.evalArgs_none ⟨rfl, hdo.typeIs, F.args_dict_items_1 _, _, meets_dict_items (mixKind X.prog X.w) d hs0, ⟨vs, hdo⟩, ?_⟩)
  refine Calls.spliced_nil ?_
  obtain ⟨x1, hot⟩ := hc.at I2
  refine NWK.call_hot (s := { s1 with heap := s1.heap.push { cls := .type "dict_items", data := .fields #[.ref d] } }) (knd := mixKind X.prog X.w) (kvs := vs) (ep := ep) hot ⟨_, Heap.get?_push_size _ rfl, rfl, rfl⟩ (hat.push _) (by omega) fun h' tk acc c as hk hS hl hG hacc => ?_
  obtain ⟨H', k1, k2, k3, k4, k5, k6, J⟩ := LiI.items_laid (tk := tk) I2 hz kv hk hS hl hG hacc
  exact ⟨.ref _, H', J, rfl, q H' _ as k1 k2 k3 k4 k5 k6⟩
end
end NW
namespace DL
open PySem PySem.Spec PyProof.Rows L2 NW
abbrev SCM := List Key → List DV → (DV → Prop) → (DV → Prop) → Prop
/-- the dict stands at p; what comes back is data of W, which may hide p -/
def spCM (C : Addr) (s : SCM) : Sp := fun vs H Q E => ∃ (W : Wd) (p : Addr) (kvs : List (Key × V)) (xs : List DV) (R RX : DV → Prop), vs = [.ref C, .ref p] ∧ W.Ok H ∧ Rd H p (.dK kvs) ∧ W.st ≠ some p ∧ kvs.length ≤ 1000000 ∧ (kvs.map (·.1)).Nodup ∧ Iss W H (kvs.map (·.2)) xs ∧ s (kvs.map (·.1)) xs R RX ∧ Fin W H R Q ∧ FinX W H RX E
theorem len_spCM {C : Addr} {s : SCM} : ∀ vs H Q E, spCM C s vs H Q E → vs.length = 2 := fun vs H Q E ⟨_, _, _, _, _, _, e, _⟩ => by rw [e]; rfl
theorem flat_is {W W' : Wd} {H H' : Hp} {v : V} {d : DV} (h : flatR d) (i : Is W H v d) : Is W' H' v d := by
  cases i with
  | bl b => exact .bl b
  | int b => exact .int b
  | str b => exact .str b
  | non => exact .non
  | _ => exact h.elim
def OwesCM (C : Addr) (n : Nat) (s : SCM) (w : WS) (i : Nat) (sI : DS2) : Prop := ∀ ks xs R RX, s ks xs R RX →
  w { nx := fun ρ => ∃ ns : List Int, ρ[0]? = some (.dt (.cls C)) ∧ ρ[i]? = some (.ow (ns.map DV.int)) ∧ sI [.lst (ns.map DV.int)] R fun _ => False, rt := fun _ => False, xc := fun e _ => (∃ D n x, e = .err D [n] [x] ∧ flatR x) ∧ RX e } (startD n [.cls C, .dic ks xs])
theorem dl_startCM {C : Addr} {s : SCM} {w : WS} {i : Nat} {sI : DS2} {N : List Str} (o : OwesCM C N.length s w i sI) (vs : List V) (H : Hp) (Q : VK) (E : XK) (h : spCM C s vs H Q E) :
    tSeq (liftS (fun cls d _ H => E cls d H) w) (tRet (tMakeL 0 C (spI C sI) (tCons (tVar i) tNil))) { nx := fun _ H' => Q .non H', rt := Q } (L2.start N vs) H := by
  obtain ⟨W, p, kvs, xs, R, RX, rfl, ok, rd, np, hl, nd, is, hs, g, gx⟩ := h
  let B : Bs := ⟨W.st, fun a => W.hid a ∧ a ≠ p, H⟩
  have ok0 : B.w0.Ok H := ⟨ok.s, fun a ha => ok.h a ha.1⟩
  have i0 : Iss B.w0 H [.ref C, .ref p] [.cls C, .dic (kvs.map (·.1)) xs] := .cons .cls (.cons (.dic rd ⟨np, fun z => z.2 rfl⟩ hl rfl nd (Iss.less (W := W) (W' := B.w0) rfl (fun a z => z.1) is)) .nil)
  have rdk : ∀ {H' : Hp}, Kp W.st H H' → Rd H' p (.dK kvs) := fun k => rd.elim (fun z => .inl (k.o z np)) fun ⟨ob, z⟩ => .inr ⟨ob, k.o z np⟩
  have okW : ∀ {H' : Hp}, Kp W.st H H' → StoW W.st H' → W.Ok H' := fun k s => ok.mono k s
  refine ⟨B, fun _ => none, _, _, ⟨ok.s, Kp.refl _ _, by rw [w_none]; exact ok0, by rw [w_none]; exact isE_start i0, (fun _ _ z => nomatch z), (fun _ _ _ z => nomatch z)⟩, o _ xs R RX hs, ⟨fun own ρ σ H' r c => ?_, fun _ _ _ _ z => z.elim, fun _ _ _ _ z => z.elim, fun _ _ _ z => z.elim, fun own ρ σ H' D ns ys dd fs r c h1 h2 h3 h4 => ?_⟩⟩
  · obtain ⟨ns, e0, e1, hI⟩ := r
    obtain ⟨v0, hv0, iv0⟩ := c.e.dt 0 _ e0
    obtain ⟨a, us, g1, g2, g3, g4, g5⟩ := c.e.ow i _ e1
    have ck : Kp W.st H H' := c.k
    have okH := okW ck c.ok.s
    have na : W.ok a := ⟨(c.ok.h a (.inr ⟨i, g1⟩)).2, fun z => by
      by_cases e : a = p
      · rw [e] at g3
        rcases rdk ck with q | ⟨ob, q⟩ <;> rw [g3] at q <;> cases q
      · exact (c.o i a g1).2 ⟨z, e⟩⟩
    have i1 : Iss W H' [.ref a] [.lst (ns.map DV.int)] := .cons (.lst g3 na g4 (by rw [iss_int g5]; exact int_iss _)) .nil
    cases iv0 with
    | cls =>
      refine ⟨hv0, _, g2, ?_⟩
      exact mk_run (C := C) (s := sI) (W := W) (Q := Q) (E := E0) okH i1 hI (g.mono ck) fun _ _ _ _ _ _ z => z.elim
  · obtain ⟨⟨D', n, x, e, hx⟩, r⟩ := r
    injection e with e1 e2 e3
    subst e1 e2 e3
    have ck : Kp W.st H H' := c.k
    refine gx _ _ _ dd H' fs r ck (okW ck c.ok.s) h1 ⟨h2.1, fun z => ?_⟩ h3 ?_
    · by_cases e : dd = p
      · rw [e] at h1
        rcases rdk ck with q | ⟨ob, q⟩ <;> rw [h1] at q <;> cases q
      · exact h2.2 (.inl ⟨z, e⟩)
    · revert h4
      generalize fs.map (·.2) = us
      intro h4
      cases h4 with
      | cons a t => cases t; exact .cons (flat_is hx a) .nil
section
variable {Ex : L2.WX} {X : Cx} {e : Expr} {st : Stmt} {r : WA} {C : Addr} {s : SCM}
def asD1 (R : List Key → List DV → Prop) : List DV → Prop
  | [.dic ks xs] => R ks xs
  | _ => False
theorem asD1_ex {R : List Key → List DV → Prop} {ds : List DV} (h : asD1 R ds) : ∃ ks xs, ds = [.dic ks xs] ∧ R ks xs := by
  unfold asD1 at h
  split at h
  · exact ⟨_, _, rfl, h⟩
  · exact h.elim
theorem cm_run {W : Wd} {H : Hp} {vs : List V} {ds : List DV} {R RX : DV → Prop} {Q : VK} {E : XK} (o : W.Ok H) (i : Iss W H vs ds) (h : asD1 (fun ks xs => s ks xs R RX) ds) (f : Fin W H R Q) (g : FinX W H RX E) : spCM C s (.ref C :: vs) H Q E := by
  obtain ⟨ks, xs, rfl, h⟩ := asD1_ex h
  cases i with
  | cons a t =>
    cases t
    cases a with
    | @dic p kvs _ _ b1 b2 b3 b4 b5 b6 =>
      subst b4
      exact ⟨W, p, kvs, xs, R, RX, rfl, o, b1, b2.1, b3, b5, b6, h, f, g⟩
def wCM (s : SCM) (r : WA) : WE := fun ρ R => r ρ fun ds => asD1 (fun ks xs => s ks xs R fun _ => False) ds
theorem dCM (h : PE X e (tCMS C (spCM C s) (fun _ => E0) (liftA r))) : PE X e (lift (wCM s r)) := pe_weak h fun σ H Q q => by
  obtain ⟨W, own, ρ, R, o, i, z, f⟩ := q
  exact ⟨W, own, ρ, _, o, i, z, fun ds vs H1 r1 k1 o1 i1 => cm_run o1 i1 r1 (f.mono k1) fun _ _ _ _ _ _ z => z.elim⟩
def wDropCM (s : SCM) (r : WA) : WS := fun E ρ => r ρ fun ds => asD1 (fun ks xs => s ks xs (fun _ => E.nx ρ) fun x => E.xc x ρ) ds
theorem ddropCM (h : ∀ te, PE X e te → PS X st (tDrop te)) (he : PE X e (tCMS C (spCM C s) (L2.WE Ex) (liftA r))) : PS X st (liftS Ex (wDropCM s r)) := ps_weak (h _ he) fun D σ H q => by
  obtain ⟨B, own, ρ, E, c, h, d⟩ := q
  exact ⟨B.w own, own, ρ, _, c.ok, c.e, h, fun ds vs H1 r1 k1 o1 i1 => cm_run o1 i1 r1 (fun x v H2 r2 k2 o2 i2 => d.nx _ _ _ _ r2 (c.mono (k1.trans k2) o2)) (fx_of c d k1)⟩
/-- x = C.m(y), y a dict of one's own -/
def wAsgCM (i j : Nat) (s : SCM) : WS := fun E ρ => atD (fun ks xs => s ks xs (fun d => E.nx (ρ.set i (.dt d))) fun _ => False) ρ[j]?
theorem dasgCM (i j : Nat) (h : ∀ te, PE X e te → PS X st (tAsg te (gName i))) (he : PE X e (tCMS C (spCM C s) (fun _ => E0) (tCons (tVar j) tNil))) : PS X st (liftS Ex (wAsgCM i j s)) := ps_weak (h _ he) fun D σ H q => by
  obtain ⟨B, own, ρ, E, c, h, d⟩ := q
  obtain ⟨ks, xs, hx, h⟩ := atD_ex h
  obtain ⟨p, kvs, g1, g2, g3, ⟨g4, g6, g7⟩, g5⟩ := c.e.od j ks xs hx
  subst g6
  refine ⟨_, g2, B.w own, p, kvs, xs, _, _, rfl, c.ok, .inl g3, (c.ok.h p (.inr ⟨j, g1⟩)).2, g4, g7, g5, h, fun x v H2 r2 k2 o2 i2 => ?_, fun _ _ _ _ _ _ z => z.elim⟩
  exact d.nx _ _ _ _ r2 ((c.mono k2 o2).set i i2)
/-- list(x.items()), x a dict of one's own or not -/
def wItemsO (i : Nat) : WE := fun ρ R => atDR (fun ks xs => R (.lst (items ks xs))) ρ[i]?
theorem ditemsO (i : Nat) (h : PE X e (tListItemsR (tVar i))) : PE X e (lift (wItemsO i)) := pe_weak h fun σ H Q q => by
  obtain ⟨W, own, ρ, R, o, ie, z, f⟩ := q
  obtain ⟨ks, xs, hx, h⟩ := atDR_ex z
  have fin : ∀ (p : Addr) (kvs : List (Key × V)), σ[i]? = some (some (.ref p)) → Rd H p (.dK kvs) → kvs.length ≤ 1000000 → kvs.map (·.1) = ks → Iss W H (kvs.map (·.2)) xs → tListItemsR (tVar i) σ H Q := fun p kvs h1 h2 h3 h4 h5 => by
    subst h4
    refine ⟨_, h1, p, kvs, rfl, h2, fun H' q ts hs hp ht hpt hl pr => ?_⟩
    have s : Same H H' := hs
    exact f _ _ _ h (Kp.same s) (o.same s) (.lst hl (o.fresh hp) (by rw [List.length_map, pair_len pr]; exact h3) (items_iss s o ht pr (h5.mono (Kp.same s))))
  rcases hx with hx | hx
  · obtain ⟨p, kvs, g1, g2, g3, ⟨g4, g6, g7⟩, g5⟩ := ie.od i ks xs hx
    exact fin p kvs g2 (.inl g3) g4 g6 g5
  · obtain ⟨v, h1, h2⟩ := ie.dt i _ hx
    cases h2 with
    | @dic p kvs _ _ b1 b2 b3 b4 b5 b6 => exact fin p kvs h1 b1 b3 b4 b6
/-- sorted(xs) of pairs of ints -/
def pairD (p : Int × Int) : DV := .tup [.int p.1, .int p.2]
def fSortP (w : WE) : WF := fun ρ R => w ρ fun d => ∃ ps : List (Int × Int), d = .lst (ps.map pairD) ∧ ∀ qs : List (Int × Int), qs.Perm ps → qs.Pairwise (fun a b => SrtO.lexB b a = false) → R (qs.map pairD)
def pairV (H : Hp) (v : V) : Int × Int := match v with
  | .ref t => (match H t with
    | some (.tup [.int a, .int b]) => (a, b)
    | _ => (0, 0))
  | _ => (0, 0)
theorem pair_at {W : Wd} {H : Hp} {v : V} {p : Int × Int} (h : Is W H v (pairD p)) : ∃ t, v = .ref t ∧ H t = some (.tup [.int p.1, .int p.2]) ∧ pairV H v = p := by
  unfold pairD at h
  cases h with
  | @tup a vs _ h1 h2 h3 h4 =>
    cases h4 with
    | cons x y => cases y with
      | cons y z =>
        cases z
        cases x
        cases y
        refine ⟨a, rfl, h1, ?_⟩
        show (match H a with
          | some (.tup [.int a, .int b]) => (a, b)
          | _ => (0, 0)) = p
        rw [h1]
theorem pair_is {W : Wd} {H : Hp} : ∀ {vs : List V} {ps : List (Int × Int)}, Iss W H vs (ps.map pairD) → vs.map (pairV H) = ps ∧ ∀ v ∈ vs, (∃ t, v = .ref t ∧ H t = some (.tup [.int (pairV H v).1, .int (pairV H v).2])) ∧ Is W H v (pairD (pairV H v))
  | [], [], _ => ⟨rfl, fun _ z => by cases z⟩
  | [], _ :: _, h => by cases h
  | _ :: _, [], h => by cases h
  | v :: vs, p :: ps, .cons a t => by
    obtain ⟨u, e1, e2, e3⟩ := pair_at a
    obtain ⟨h1, h2⟩ := pair_is t
    refine ⟨by rw [List.map_cons, h1, e3], fun w hw => ?_⟩
    rcases List.mem_cons.mp hw with rfl | hw
    · rw [e3]; exact ⟨⟨u, e1, e2⟩, a⟩
    · exact h2 w hw
theorem iss_of {W : Wd} {H : Hp} {k : V → Int × Int} : ∀ {ys : List V}, (∀ y ∈ ys, Is W H y (pairD (k y))) → Iss W H ys ((ys.map k).map pairD)
  | [], _ => .nil
  | y :: ys, h => .cons (h y List.mem_cons_self) (iss_of fun z hz => h z (List.mem_cons_of_mem _ hz))
theorem dsortPF {K : PySem.W.Frag} {w : WE} (h : PE X e (tCB (rSortedPO K) (tCons (liftP w) tNil))) : PE X e (liftF (fSortP w)) := pe_weak h fun σ H Q q => by
  obtain ⟨W, own, ρ, R, o, i, z, f⟩ := q
  refine ⟨W, own, ρ, _, o, i, z, fun d v H1 r k o1 i1 => ?_⟩
  obtain ⟨ps, rfl, r⟩ := r
  obtain ⟨l, vs, rfl, h1, h2, h3⟩ := i1.lst
  obtain ⟨e1, e2⟩ := pair_is h3
  refine ⟨l, vs, pairV H1, rfl, SqL.of h1, fun v hv => (e2 v hv).1, fun ys p hs hb hp => ?_⟩
  have pm : (ys.map (pairV H1)).Perm ps := by rw [← e1]; exact hb.perm.map _
  exact (f.mono k).new o1 (by rw [hb.perm.length_eq]; exact h2) (iss_of fun y hy => (e2 y (hb.perm.mem_iff.mp hy)).2) (r _ pm (List.pairwise_map.mpr hs)) p hp
end
end DL
namespace DL
open PySem PySem.Spec PyProof.Rows L2 NW
def gP (i j : Nat) : WG := fun d ρ K => match d with
  | .tup [x, y] => K ((ρ.set i (.dt x)).set j (.dt y))
  | _ => False
theorem tgP {K : PySem.W.Frag} (i j : Nat) : Tg (gTup K 2 (gCons (gName i) (gCons (gName j) gNil))) (gP i j) := fun B own H σ ρ v d K' Q c h k q => by
  unfold gP at k
  split at k
  · cases h with
    | @tup a vs _ h1 h2 h3 h4 =>
      cases h4 with
      | cons x r => cases r with
        | cons y r =>
          cases r
          have c1 := c.set i x
          have y1 : Is (B.w (DL.cut own i)) H _ _ := y.cut
          exact ⟨a, _, rfl, SqT.of h1, rfl, _, _, rfl, _, _, rfl, rfl, q _ _ _ k (c1.set j y1)⟩
  · exact k.elim
theorem passNS {X : Cx} : ∀ σ : L2.St, PassesAt (L2N.CX X.prog X.w) X σ E0 := fun σ pins H s e s' I c => passN pins σ H s e s' I c
theorem pss_seq2 {Ex : L2.WX} {X : Cx} {st : Stmt} {rest : List Stmt} {s1 s2 : WS} {t : TS} (h : PS X st (liftS Ex s1)) (h2 : PSs X rest (tSeq (liftS Ex s2) t)) : PSs X (st :: rest) (tSeq (liftS Ex (wSeq s1 s2)) t) := pss_weak (pss_cons h h2) fun D σ H q => by
  obtain ⟨B, own, ρ, E, c, h, d⟩ := q
  exact ⟨B, own, ρ, _, c, h, ⟨fun own' ρ' σ' H' z c' => ⟨B, own', ρ', E, c', z, d⟩, d.bk, d.ct, d.rt, d.xc⟩⟩
local macro_rules | `(tactic| walk_at "dl1") => `(tactic| simp only [gP, wAsgFD, fCallD, fMethD, fDict, wCM, asD1, wDropCM, wAsgCM, wItemsO, fSortP, wForK, fLcK, sFd, sV, wExt, dAddT, dBinI, dBinX, wAsgB, fSortI, fSl, wAsgD, wPutD, atD, atDR, asK, wInOD, wLenOD, fCallN, wCallB, wCallK, wCallD, wDropK, frzE, frz1, wFld, wProp, wMeth, wMeth0, wLenI, dInI, dEqI, tyOk, iOwnD, iVk, wIsC, isC, wSelf, wSelfD, atS, wGet, asD, wGetO, wInDD, wDict, wTrev, dTrev, wMkI, wMkI0, wDropI, wAsgIO, frzL1, wSetO, dSumA, dEqT, dIntL, wCallF, flatR, wRaise1, fSrt, wItems, wTry, wAsgX, wDropX, wKd, wXf, wSeq, wAsg, wAsgO, wRet, wIfS, wNx, wPass, wBk, wCt, wDrop, wAug, wApp, wAppPop, wPop, wFor, wFz, wV, wVP, atV, atP, atO, wC, wOp, wCall, wCallN, wCB, aC, aN, wL, wTu, fL, wF, fCat, fList, wTB, wTru, wAnd, wOr, wNot, wAndV, wOrV, wNotV, wIf, wChain, wIsN, wNeg, dNeg, wSl, pN, pP, dSl, wLrev, dLrev, wIsi, wIsi2, iL, iT, iV, iS, iR1, iR2, gN, fLc, wYes, wiL,
  dAdd, dSub, dMul, dMulS, dMulL, dDiv, dMod, dLt, dLe, dGt, dGe, dEq, dNe, eqD, dIn, dNi, dIx, dTru, isNon, dLen, dInt, dAbs, dMax, dMin, dList, dTup, dStr, dIAdd, frzE, frz1, startD, List.map_cons, List.map_nil, List.length_cons, List.length_nil, List.replicate_succ, List.replicate_zero, List.cons_append, List.nil_append, List.append_nil, List.getElem?_cons_zero, List.getElem?_cons_succ, List.set_cons_zero, List.set_cons_succ, Nat.reduceSub, Nat.reduceAdd, if_true, if_false, ite_true, ite_false, reduceIte, Bool.false_eq_true, decide_true, decide_false, Bool.not_true, Bool.not_false, Bool.not_eq_true', decide_eq_true_eq, decide_eq_false_iff_not, isi_dic_bool, isi_dic_int, isi_dic_str, isi_dic_dict, Bool.true_eq_false, isi_int_int, isi_int_bool, isi_bl_int, isi_bl_bool, isi_non_int, isi_non_bool, isi_str_int, isi_str_bool, isi_str_str, isi_lst_list, isi_tup_tuple, Option.some.injEq, exists_eq_left', exists_eq_left, DV.int.injEq, DV.str.injEq, DV.bl.injEq, List.cons.injEq, and_true, true_and])
local macro_rules | `(tactic| walk_at "dl") => `(tactic| try walk_at "dl1")
local macro_rules | `(tactic| walk_at "go") => `(tactic| repeat' (first
  | (intro _)
  | walk_at "dl1"
  | (refine ⟨by first | decide | omega, ?_⟩)
  | split))
def isNum (v : DV) (lo hi : Int) : Bool := match v with
  | .int i => decide (lo ≤ i) && decide (i ≤ hi)
  | _ => false
theorem fl_flat {n : Nat} {v : DV} (h : flatR v) : flD n v := by
  cases v <;> first | exact h.elim | (cases n <;> trivial)
def w_Pis_number : WS :=
  (wRet (wAndV (wIsi "int" (wVP 0)) (wAndV (wNotV (wIsi "bool" (wVP 0))) (wChain dLe dLe (wVP 1) (wVP 0) (wVP 2)))))
def s_Pis_number : DS1 := fun ds R => ∃ v lo hi, ds = [v, .int lo, .int hi] ∧ flatR v ∧ R (.bl (isNum v lo hi))
theorem l_Pis_number : ∀ ds R, s_Pis_number ds R → ds.length = 3 := by
  rintro ds R ⟨_, _, _, rfl, _⟩
  rfl
theorem o_Pis_number : Owes 3 s_Pis_number w_Pis_number := by
  rintro ds R ⟨v, lo, hi, rfl, hv, r⟩
  unfold w_Pis_number
  cases v with
  | int i =>
    walk_at "dl"
    by_cases h : lo ≤ i
    · rw [if_pos h]
      have e : isNum (.int i) lo hi = decide (i ≤ hi) := by
        show (decide (lo ≤ i) && decide (i ≤ hi)) = _
        rw [decide_eq_true h]
        rfl
      rw [← e]
      exact r
    · rw [if_neg h]
      have e : isNum (.int i) lo hi = false := by
        show (decide (lo ≤ i) && decide (i ≤ hi)) = _
        rw [decide_eq_false h]
        rfl
      rw [← e]
      exact r
  | bl b =>
    walk_at "dl"
    exact r
  | str s =>
    walk_at "dl"
    exact r
  | non =>
    walk_at "dl"
    exact r
  | _ => exact hv.elim
def w_isI5 : WS :=
  (wRet (wAndV (wIsi "int" (wVP 0)) (wNotV (wIsi "bool" (wVP 0)))))
def s_isI5 : DS1 := fun ds R => ∃ v, ds = [v] ∧ flatR v ∧ R (.bl (match v with | .int _ => true | _ => false))
theorem l_isI5 : ∀ ds R, s_isI5 ds R → ds.length = 1 := by
  rintro ds R ⟨_, rfl, _⟩
  rfl
theorem o_isI5 : Owes 1 s_isI5 w_isI5 := by
  rintro ds R ⟨v, rfl, hv, r⟩
  unfold w_isI5
  cases v with
  | int i =>
    walk_at "dl"
    exact r
  | bl b =>
    walk_at "dl"
    exact r
  | str s =>
    walk_at "dl"
    exact r
  | non =>
    walk_at "dl"
    exact r
  | _ => exact hv.elim
def w_not_integer : WS :=
  (wSeq (wAsg 3 (wCall s_take (aC (wV 0) (aC (wC (.int 100000000000000000000)) aN))))
    (wRet (wCall s_pick (aC (wV 0) (aC (wL (aC (wOp dSub (wVP 1) (wC (.int 1))) (aC (wOp dAdd (wVP 2) (wC (.int 1))) (aC (wOp dSub (wOp dSub (wVP 1) (wC (.int 2))) (wVP 3)) (aC (wOp dAdd (wOp dAdd (wVP 2) (wC (.int 2))) (wVP 3)) (aC (wC (.bl true)) (aC (wC (.bl false)) (aC (wC .non) (aC (wC (.str "")) (aC (wC (.str "1")) (aC (wC (.str "a")) aN))))))))))) aN)))))
def s_not_integer : DS1 := fun ds R => ∃ lo hi : Int, ds = [.sto, .int lo, .int hi] ∧ lo.natAbs ≤ 1000 ∧ hi.natAbs ≤ 1000 ∧ ∀ v, flatR v → isNum v lo hi = false → R v
theorem l_not_integer : ∀ ds R, s_not_integer ds R → ds.length = 3 := by
  rintro ds R ⟨_, _, rfl, _⟩
  rfl
theorem o_not_integer : Owes 4 s_not_integer w_not_integer := by
  rintro ds R ⟨lo, hi, rfl, h1, h2, r⟩
  unfold w_not_integer
  walk_at "dl"
  simp only [s_take]
  refine ⟨by decide, fun far f0 f1 => ?_⟩
  walk_at "dl"
  simp only [s_pick]
  have nn : ∀ i : Int, i < lo ∨ hi < i → isNum (.int i) lo hi = false := fun i h => by
    show (decide (lo ≤ i) && decide (i ≤ hi)) = false
    rcases h with h | h
    · rw [decide_eq_false (by omega)]; rfl
    · rw [decide_eq_false (p := i ≤ hi) (by omega), Bool.and_false]
  refine ⟨by decide, by simp, by simp, fun x hx => ?_⟩
  simp only [List.mem_cons, List.not_mem_nil, or_false] at hx
  rcases hx with rfl | rfl | rfl | rfl | rfl | rfl | rfl | rfl | rfl | rfl
  · exact r _ trivial (nn _ (by omega))
  · exact r _ trivial (nn _ (by omega))
  · exact r _ trivial (nn _ (by omega))
  · exact r _ trivial (nn _ (by omega))
  all_goals exact r _ trivial rfl
def w_dict : WS :=
  (wSeq (wAsgD 1)
    (wFor (iL (wV 0)) (gP 2 3) (wPutD 1 (wV 2) (wV 3))))
def qsD (qs : List (Int × DV)) : List DV := qs.map fun q => .tup [.int q.1, q.2]
def s_dict : DSFD := fun ds R _ => ∃ qs : List (Int × DV), ds = [.lst (qsD qs)] ∧ (qs.map (·.1)).Nodup ∧ qs.length ≤ 100000 ∧ R (qs.map fun q => Sum.inl q.1) (qs.map (·.2))
theorem l_dict : ∀ ds R RX, s_dict ds R RX → ds.length = 1 := by
  rintro ds R RX ⟨_, rfl, _⟩
  rfl
theorem o_dict : OwesFV 4 s_dict w_dict 1 := by
  rintro ds R RX ⟨qs, rfl, nd, hl, r⟩
  unfold w_dict
  walk_at "dl"
  refine ⟨_, rfl, ?_⟩
  refine forL_ind (fun i ρ => ∃ v w : Sl, ρ = [.dt (.lst (qsD qs)), .od ((qs.take i).map fun q => Sum.inl q.1) ((qs.take i).map (·.2)), v, w]) ⟨_, _, rfl⟩ ?_ ?_
  · rintro i x ρ K' hx ⟨v, w, rfl⟩ hK
    unfold qsD at hx
    rw [List.getElem?_map] at hx
    cases e : qs[i]? with
    | none => rw [e] at hx; cases hx
    | some q =>
      rw [e] at hx
      cases hx
      walk_at "dl"
      have et : qs.take (i + 1) = qs.take i ++ [q] := by rw [List.take_add_one, e]; rfl
      have hi : i < qs.length := (List.getElem?_eq_some_iff.mp e).1
      have hno : hasK ((qs.take i).map fun q => (Sum.inl q.1 : Key)) (Sum.inl q.1) = false := by
        rw [Bool.eq_false_iff]
        intro z
        obtain ⟨p, hp, ep⟩ := List.mem_map.mp (hasK_iff.mp z)
        have ep : p.1 = q.1 := Sum.inl.inj ep
        have nd2 : ((qs.take (i + 1)).map (·.1)).Nodup := by
          have := List.Sublist.nodup ((List.take_sublist (i + 1) qs).map (·.1)) nd
          exact this
        rw [et, List.map_append, List.nodup_append] at nd2
        exact nd2.2.2 p.1 (List.mem_map_of_mem hp) q.1 List.mem_cons_self ep
      refine ⟨by rw [List.length_map, List.length_take]; omega, hK _ ⟨.dt (.int q.1), .dt q.2, ?_⟩⟩
      unfold putKs putXs
      rw [hno, et, List.map_append, List.map_append]
      rfl
  · rintro ρ ⟨v, w, rfl⟩
    have hq : (qsD qs).length = qs.length := by unfold qsD; rw [List.length_map]
    rw [hq, List.take_length]
    exact ⟨_, _, rfl, r⟩
end DL
namespace DL
open PySem PySem.Spec PyProof.Rows L2 NW
local macro_rules | `(tactic| walk_at "dl1") => `(tactic| simp only [gP, wAsgFD, fCallD, fMethD, fDict, wCM, asD1, wDropCM, wAsgCM, wItemsO, fSortP, wForK, fLcK, sFd, sV, wExt, dAddT, dBinI, dBinX, wAsgB, fSortI, fSl, wAsgD, wPutD, atD, atDR, asK, wInOD, wLenOD, fCallN, wCallB, wCallK, wCallD, wDropK, frzE, frz1, wFld, wProp, wMeth, wMeth0, wLenI, dInI, dEqI, tyOk, iOwnD, iVk, wIsC, isC, wSelf, wSelfD, atS, wGet, asD, wGetO, wInDD, wDict, wTrev, dTrev, wMkI, wMkI0, wDropI, wAsgIO, frzL1, wSetO, dSumA, dEqT, dIntL, wCallF, flatR, wRaise1, fSrt, wItems, wTry, wAsgX, wDropX, wKd, wXf, wSeq, wAsg, wAsgO, wRet, wIfS, wNx, wPass, wBk, wCt, wDrop, wAug, wApp, wAppPop, wPop, wFor, wFz, wV, wVP, atV, atP, atO, wC, wOp, wCall, wCallN, wCB, aC, aN, wL, wTu, fL, wF, fCat, fList, wTB, wTru, wAnd, wOr, wNot, wAndV, wOrV, wNotV, wIf, wChain, wIsN, wNeg, dNeg, wSl, pN, pP, dSl, wLrev, dLrev, wIsi, wIsi2, iL, iT, iV, iS, iR1, iR2, gN, fLc, wYes, wiL,
  dAdd, dSub, dMul, dMulS, dMulL, dDiv, dMod, dLt, dLe, dGt, dGe, dEq, dNe, eqD, dIn, dNi, dIx, dTru, isNon, dLen, dInt, dAbs, dMax, dMin, dList, dTup, dStr, dIAdd, frzE, frz1, startD, List.map_cons, List.map_nil, List.length_cons, List.length_nil, List.replicate_succ, List.replicate_zero, List.cons_append, List.nil_append, List.append_nil, List.getElem?_cons_zero, List.getElem?_cons_succ, List.set_cons_zero, List.set_cons_succ, Nat.reduceSub, Nat.reduceAdd, if_true, if_false, ite_true, ite_false, reduceIte, Bool.false_eq_true, decide_true, decide_false, Bool.not_true, Bool.not_false, Bool.not_eq_true', decide_eq_true_eq, decide_eq_false_iff_not, isi_dic_bool, isi_dic_int, isi_dic_str, isi_dic_dict, Bool.true_eq_false, isi_int_int, isi_int_bool, isi_bl_int, isi_bl_bool, isi_non_int, isi_non_bool, isi_str_int, isi_str_bool, isi_str_str, isi_lst_list, isi_tup_tuple, Option.some.injEq, exists_eq_left', exists_eq_left, DV.int.injEq, DV.str.injEq, DV.bl.injEq, List.cons.injEq, and_true, true_and])
local macro_rules | `(tactic| walk_at "dl") => `(tactic| try walk_at "dl1")
local macro_rules | `(tactic| walk_at "go") => `(tactic| repeat' (first
  | (intro _)
  | walk_at "dl1"
  | (refine ⟨by first | decide | omega, ?_⟩)
  | split))
def flatP (ps : List (Int × Nat)) : List Int := ps.flatMap fun p => List.replicate p.2 p.1
theorem flatP_app (a b : List (Int × Nat)) : flatP (a ++ b) = flatP a ++ flatP b := by unfold flatP; exact List.flatMap_append
theorem flatP_take {ps : List (Int × Nat)} {i : Nat} {p : Int × Nat} (h : ps[i]? = some p) : flatP (ps.take (i + 1)) = flatP (ps.take i) ++ List.replicate p.2 p.1 := by
  have et : ps.take (i + 1) = ps.take i ++ [p] := by rw [List.take_add_one, h]; rfl
  rw [et, flatP_app]
  unfold flatP
  simp only [List.flatMap_cons, List.flatMap_nil, List.append_nil]
theorem flatP_len : ∀ {ps : List (Int × Nat)} {m : Nat}, (∀ p ∈ ps, p.2 ≤ m) → (flatP ps).length ≤ m * ps.length
  | [], m, _ => by rw [List.length_nil, Nat.mul_zero]; exact Nat.le_refl _
  | p :: ps, m, h => by
    show (List.replicate p.2 p.1 ++ flatP ps).length ≤ _
    rw [List.length_append, List.length_replicate, List.length_cons, Nat.mul_succ]
    have := flatP_len (ps := ps) (m := m) fun q hq => h q (List.mem_cons_of_mem _ hq)
    have := h p List.mem_cons_self
    omega
theorem flatP_tlen {ps : List (Int × Nat)} (i : Nat) : (flatP (ps.take i)).length ≤ (flatP ps).length := by
  have e : flatP ps = flatP (ps.take i) ++ flatP (ps.drop i) := by rw [← flatP_app, List.take_append_drop]
  rw [e, List.length_append]; omega
def psQ (ps : List (Int × Nat)) : List (Int × DV) := ps.map fun p => (p.1, .int ((p.2 : Nat) : Int))
theorem items_qs : ∀ qs : List (Int × DV), items (qs.map fun q => (Sum.inl q.1 : Key)) (qs.map (·.2)) = qsD qs
  | [] => rfl
  | q :: qs => by
    show DV.tup [.int q.1, q.2] :: items _ _ = _ :: _
    rw [items_qs qs]
    rfl
def w_PBag_counted (K : PySem.W.Frag) : WS :=
  (wSeq (wAsgO 2 (fL aN))
    (wForK items (sV 1) (gP 3 4) (wSeq (wIfS (wNot (wTru (wCall s_Pis_number (aC (wV 4) (aC (wC (.int 0)) (aC (wC (.int 100)) aN)))))) (wRaise1 K "BadNumber" "number" (wV 4)) wNx)
    (wExt 2 (wOp dMulL (wL (aC (wV 3) aN)) (wVP 4))))))
def s_PBag_counted (K : PySem.W.Frag) : SCM := fun ks xs R RX => ∃ qs : List (Int × DV), ks = qs.map (fun q => Sum.inl q.1) ∧ xs = qs.map (·.2) ∧ qs.length ≤ 1000 ∧
  ((∃ ps : List (Int × Nat), qs = psQ ps ∧ (∀ p ∈ ps, p.2 ≤ 100) ∧ R (bagD K (srt (flatP ps)))) ∨
    ∃ (i : Nat) (k : Int) (v : DV), qs[i]? = some (k, v) ∧ flatR v ∧ isNum v 0 100 = false ∧ (∀ j, j < i → ∃ (k : Int) (m : Nat), qs[j]? = some (k, .int ((m : Nat) : Int)) ∧ m ≤ 100) ∧ RX (.err (He.ga K "BadNumber") ["number"] [v]))
theorem isNum_nat {m : Nat} (h : m ≤ 100) : isNum (.int ((m : Nat) : Int)) 0 100 = true := by
  show (decide ((0 : Int) ≤ (m : Nat)) && decide (((m : Nat) : Int) ≤ 100)) = true
  rw [decide_eq_true (by omega), decide_eq_true (by omega)]
  rfl
theorem o_PBag_counted (K : PySem.W.Frag) : OwesCM (He.ga K "Bag") 5 (s_PBag_counted K) (w_PBag_counted K) 2 (s_PBag___init__ K) := by
  rintro ks xs R RX ⟨qs, rfl, rfl, hl, h⟩
  unfold w_PBag_counted
  walk_at "dl"
  refine ⟨by decide, ?_⟩
  show forL _ _ _ (items _ _) _
  rw [items_qs]
  have hq : (qsD qs).length = qs.length := by unfold qsD; rw [List.length_map]
  rcases h with ⟨ps, rfl, hp, r⟩ | ⟨n, k0, v0, hn, hv, hb, hj, r⟩
  · have lp : (psQ ps).length = ps.length := by unfold psQ; rw [List.length_map]
    have fl := flatP_len hp
    rw [lp] at hl
    refine forL_ind (fun i ρ => ∃ v w : Sl, ρ = [.dt (.cls (He.ga K "Bag")), .dt (.dic ((psQ ps).map fun q => Sum.inl q.1) ((psQ ps).map (·.2))), .ow ((flatP (ps.take i)).map DV.int), v, w]) ⟨_, _, rfl⟩ ?_ ?_
    · rintro i x ρ K' hx ⟨v, w, rfl⟩ hK
      unfold qsD psQ at hx
      rw [List.map_map, List.getElem?_map] at hx
      cases e : ps[i]? with
      | none => rw [e] at hx; cases hx
      | some p =>
        rw [e] at hx
        cases hx
        have pm := hp p (List.mem_of_getElem? e)
        have ft : (flatP (ps.take (i + 1))).length ≤ (flatP ps).length := flatP_tlen _
        rw [flatP_take e, List.length_append, List.length_replicate] at ft
        walk_at "dl"
        show s_Pis_number [.int ((p.2 : Nat) : Int), .int 0, .int 100] _
        refine ⟨_, _, _, rfl, trivial, ?_⟩
        rw [isNum_nat pm]
        walk_at "dl"
        refine ⟨by decide, by omega, by omega, by rw [Int.toNat_natCast]; omega, _, rfl, ?_, hK _ ⟨.dt (.int p.1), .dt (.int ((p.2 : Nat) : Int)), ?_⟩⟩
        · rw [Int.toNat_natCast, rep_one, List.length_replicate, List.length_map]; omega
        · rw [flatP_take e, List.map_append, List.map_replicate, Int.toNat_natCast, rep_one]
    · rintro ρ ⟨v, w, rfl⟩
      rw [hq, lp, List.take_length]
      exact ⟨flatP ps, rfl, rfl, _, _, rfl, .inl rfl, by rw [List.length_map]; omega, .inl ⟨_, rfl, r⟩⟩
  · refine forL_ind (fun i ρ => i ≤ n ∧ ∃ (ns : List Int) (v w : Sl), ns.length ≤ 100 * i ∧ ρ = [.dt (.cls (He.ga K "Bag")), .dt (.dic (qs.map fun q => Sum.inl q.1) (qs.map (·.2))), .ow (ns.map DV.int), v, w]) ⟨Nat.zero_le _, [], _, _, Nat.zero_le _, rfl⟩ ?_ ?_
    · rintro i x ρ K' hx ⟨hi, ns, v, w, hns, rfl⟩ hK
      unfold qsD at hx
      rw [List.getElem?_map] at hx
      have il : i < qs.length := by
        have := (List.getElem?_eq_some_iff.mp hn).1
        omega
      rcases Nat.lt_or_ge i n with z | z
      · obtain ⟨k, m, e, hm⟩ := hj i z
        rw [e] at hx
        cases hx
        walk_at "dl"
        refine ⟨_, _, _, rfl, trivial, ?_⟩
        rw [isNum_nat hm]
        walk_at "dl"
        refine ⟨by decide, by omega, by omega, by rw [Int.toNat_natCast]; omega, _, rfl, ?_, hK _ ⟨z, ns ++ List.replicate m k, .dt (.int k), .dt (.int ((m : Nat) : Int)), ?_, ?_⟩⟩
        · rw [Int.toNat_natCast, rep_one, List.length_replicate, List.length_map]; omega
        · rw [List.length_append, List.length_replicate]; omega
        · rw [List.map_append, List.map_replicate, Int.toNat_natCast, rep_one]
      · obtain rfl : i = n := Nat.le_antisymm hi z
        rw [hn] at hx
        cases hx
        walk_at "dl"
        refine ⟨_, _, _, rfl, hv, ?_⟩
        rw [hb]
        walk_at "dl"
        exact ⟨⟨_, _, _, rfl, hv⟩, r⟩
    · rintro ρ ⟨hi, _⟩
      have := (List.getElem?_eq_some_iff.mp hn).1
      rw [hq] at hi
      omega
end DL
namespace DL
open PySem PySem.Spec PyProof.Rows L2 NW
local macro_rules | `(tactic| walk_at "dl1") => `(tactic| simp only [gP, wAsgFD, fCallD, fMethD, fDict, wCM, asD1, wDropCM, wAsgCM, wItemsO, fSortP, wForK, fLcK, sFd, sV, wExt, dAddT, dBinI, dBinX, wAsgB, fSortI, fSl, wAsgD, wPutD, atD, atDR, asK, wInOD, wLenOD, fCallN, wCallB, wCallK, wCallD, wDropK, frzE, frz1, wFld, wProp, wMeth, wMeth0, wLenI, dInI, dEqI, tyOk, iOwnD, iVk, wIsC, isC, wSelf, wSelfD, atS, wGet, asD, wGetO, wInDD, wDict, wTrev, dTrev, wMkI, wMkI0, wDropI, wAsgIO, frzL1, wSetO, dSumA, dEqT, dIntL, wCallF, flatR, wRaise1, fSrt, wItems, wTry, wAsgX, wDropX, wKd, wXf, wSeq, wAsg, wAsgO, wRet, wIfS, wNx, wPass, wBk, wCt, wDrop, wAug, wApp, wAppPop, wPop, wFor, wFz, wV, wVP, atV, atP, atO, wC, wOp, wCall, wCallN, wCB, aC, aN, wL, wTu, fL, wF, fCat, fList, wTB, wTru, wAnd, wOr, wNot, wAndV, wOrV, wNotV, wIf, wChain, wIsN, wNeg, dNeg, wSl, pN, pP, dSl, wLrev, dLrev, wIsi, wIsi2, iL, iT, iV, iS, iR1, iR2, gN, fLc, wYes, wiL,
  dAdd, dSub, dMul, dMulS, dMulL, dDiv, dMod, dLt, dLe, dGt, dGe, dEq, dNe, eqD, dIn, dNi, dIx, dTru, isNon, dLen, dInt, dAbs, dMax, dMin, dList, dTup, dStr, dIAdd, frzE, frz1, startD, List.map_cons, List.map_nil, List.length_cons, List.length_nil, List.replicate_succ, List.replicate_zero, List.cons_append, List.nil_append, List.append_nil, List.getElem?_cons_zero, List.getElem?_cons_succ, List.set_cons_zero, List.set_cons_succ, Nat.reduceSub, Nat.reduceAdd, if_true, if_false, ite_true, ite_false, reduceIte, Bool.false_eq_true, decide_true, decide_false, Bool.not_true, Bool.not_false, Bool.not_eq_true', decide_eq_true_eq, decide_eq_false_iff_not, isi_dic_bool, isi_dic_int, isi_dic_str, isi_dic_dict, Bool.true_eq_false, isi_int_int, isi_int_bool, isi_bl_int, isi_bl_bool, isi_non_int, isi_non_bool, isi_str_int, isi_str_bool, isi_str_str, isi_lst_list, isi_tup_tuple, Option.some.injEq, exists_eq_left', exists_eq_left, DV.int.injEq, DV.str.injEq, DV.bl.injEq, List.cons.injEq, and_true, true_and])
local macro_rules | `(tactic| walk_at "dl") => `(tactic| try walk_at "dl1")
local macro_rules | `(tactic| walk_at "go") => `(tactic| repeat' (first
  | (intro _)
  | walk_at "dl1"
  | (refine ⟨by first | decide | omega, ?_⟩)
  | split))
theorem flatP_asc : ∀ {ps : List (Int × Nat)}, ps.Pairwise (fun a b => a.1 < b.1) → (flatP ps).Pairwise (· ≤ ·)
  | [], _ => .nil
  | p :: ps, h => by
    obtain ⟨h1, h2⟩ := List.pairwise_cons.mp h
    show (List.replicate p.2 p.1 ++ flatP ps).Pairwise _
    rw [List.pairwise_append]
    refine ⟨List.pairwise_replicate.mpr (.inr (Int.le_refl p.1)), flatP_asc h2, fun a ha b hb => ?_⟩
    rw [List.eq_of_mem_replicate ha]
    obtain ⟨q, hq, hx⟩ := List.mem_flatMap.mp hb
    rw [List.eq_of_mem_replicate hx]
    exact Int.le_of_lt (h1 q hq)
theorem flatP_pos : ∀ ps : List (Int × Nat), flatP (ps.filter fun p => decide (0 < p.2)) = flatP ps
  | [] => rfl
  | p :: ps => by
    by_cases h : 0 < p.2
    · rw [List.filter_cons_of_pos (p := fun p => decide (0 < p.2)) (a := p) (decide_eq_true h)]
      show List.replicate p.2 p.1 ++ flatP _ = List.replicate p.2 p.1 ++ flatP ps
      rw [flatP_pos ps]
    · rw [List.filter_cons_of_neg (p := fun p => decide (0 < p.2)) (a := p) (by simpa using h), flatP_pos ps]
      have e : p.2 = 0 := by omega
      show flatP ps = List.replicate p.2 p.1 ++ flatP ps
      rw [e]; rfl
theorem flatP_not {k : Int} {ps : List (Int × Nat)} (h : k ∉ ps.map (·.1)) : k ∉ flatP ps := fun z => by
  obtain ⟨q, hq, hx⟩ := List.mem_flatMap.mp z
  exact h (by rw [List.eq_of_mem_replicate hx]; exact List.mem_map_of_mem hq)
theorem flatP_count {k : Int} {m : Nat} : ∀ {ps : List (Int × Nat)}, (ps.map (·.1)).Nodup → (k, m) ∈ ps → (flatP ps).count k = m
  | p :: ps, h, hm => by
    obtain ⟨h1, h2⟩ := List.nodup_cons.mp h
    show (List.replicate p.2 p.1 ++ flatP ps).count k = m
    rw [List.count_append, List.count_replicate]
    rcases List.mem_cons.mp hm with e | hm
    · subst e
      rw [if_pos (beq_self_eq_true k), List.count_eq_zero_of_not_mem (flatP_not h1)]
      rfl
    · have ne : p.1 ≠ k := fun e => h1 (by show p.1 ∈ _; rw [e]; exact List.mem_map_of_mem (f := (·.1)) hm)
      rw [if_neg (by simpa using ne), flatP_count h2 hm, Nat.zero_add]
theorem flatP_perm {a b : List (Int × Nat)} (h : a.Perm b) : (flatP a).Perm (flatP b) := h.flatMap_right _
theorem kset_rep (l : List Int) (k : Int) (h : k ∉ l) : ∀ m : Nat, kset (l ++ List.replicate (m + 1) k) = kset l ++ [k]
  | 0 => by
    rw [show List.replicate (0 + 1) k = [k] from rfl, kset_snoc, if_neg (by rw [kset_mem]; exact h)]
  | m + 1 => by
    rw [List.replicate_succ', ← List.append_assoc, kset_snoc, if_pos (by rw [kset_mem]; exact List.mem_append_right _ (List.mem_replicate.mpr ⟨Nat.succ_ne_zero m, rfl⟩)), kset_rep l k h m]
theorem kset_flat {ps : List (Int × Nat)} (nd : (ps.map (·.1)).Nodup) (hp : ∀ p ∈ ps, 0 < p.2) : kset (flatP ps) = ps.map (·.1) := by
  have key : ∀ i, i ≤ ps.length → kset (flatP (ps.take i)) = (ps.take i).map (·.1) := by
    intro i
    induction i with
    | zero => intro _; rfl
    | succ i ih =>
      intro hi
      have e := List.getElem?_eq_getElem (l := ps) (i := i) hi
      have et : ps.take (i + 1) = ps.take i ++ [ps[i]] := by rw [List.take_add_one, e]; rfl
      have pos := hp ps[i] (List.getElem_mem hi)
      have nd2 : ((ps.take (i + 1)).map (·.1)).Nodup := List.Sublist.nodup ((List.take_sublist (i + 1) ps).map (·.1)) nd
      rw [et, List.map_append, List.nodup_append] at nd2
      have hno : ps[i].1 ∉ flatP (ps.take i) := flatP_not fun z => nd2.2.2 _ z _ List.mem_cons_self rfl
      obtain ⟨m, hm⟩ : ∃ m, ps[i].2 = m + 1 := ⟨ps[i].2 - 1, by omega⟩
      rw [flatP_take e, hm, kset_rep _ _ hno, ih (Nat.le_of_lt hi), et, List.map_append]
      rfl
  have z := key ps.length (Nat.le_refl _)
  rw [List.take_length] at z
  exact z
def f_FDBag_table (K : PySem.W.Frag) : WFD := fDict (wFld (He.ga K "Bag") "_table" (wV 0))
def s_FDBag_table (K : PySem.W.Frag) : DSFD := fun ds R _ => ∃ l, ds = [bagD K l] ∧ R ((kset l).map Sum.inl) ((kset l).map fun k => .int ((l.count k : Nat) : Int))
theorem l_FDBag_table (K : PySem.W.Frag) : ∀ ds R RX, s_FDBag_table K ds R RX → ds.length = 1 := by
  rintro ds R RX ⟨_, rfl, _⟩
  rfl
theorem o_FDBag_table (K : PySem.W.Frag) : OwesFD 1 (s_FDBag_table K) wNx (f_FDBag_table K) := by
  rintro ds R RX ⟨l, rfl, r⟩
  exact ⟨_, _, _, rfl, lk_table _ _, r⟩
def w_pairs : WS :=
  (wSeq (wAsg 1 (wF (fSortI (wCall s_integers (aC (wV 0) (aC (wC (.int 8)) aN))))))
    (wCut (wIfS (wTB (wOp dEq (wCall s_take (aC (wV 0) (aC (wC (.int 16)) aN))) (wC (.int 0)))) (wAsg 1 (wF (fSortI (wOp dAdd (wVP 1) (wF (fLc (iR1 (aC (wC (.int 40)) aN)) (gN 2) wYes (wOp dSub (wCall s_take (aC (wV 0) (aC (wC (.int 90)) aN))) (wC (.int 30))) [2])))))) wNx)
    (wCut (wIfS (wTB (wOp dEq (wCall s_take (aC (wV 0) (aC (wC (.int 16)) aN))) (wC (.int 0)))) (wSeq (wAsg 3 (wCB dIntL (aC (wOp dAdd (wC (.str "1")) (wOp dMulS (wC (.str "0")) (wCall s_take (aC (wV 0) (aC (wC (.int 4000)) aN))))) aN)))
    (wAsg 1 (wF (fSortI (wOp dAdd (wVP 1) (wL (aC (wCall s_pick (aC (wV 0) (aC (wL (aC (wV 3) (aC (wNeg (wV 3)) aN))) aN))) aN))))))) wNx)
    (wSeq (wAsgO 4 (fL aN))
    (wSeq (wFor (iL (wCall s_shuffP (aC (wV 0) (aC (wV 1) aN)))) (gN 5) (wApp 4 (wTu (aC (wV 5) (aC (wCall s_pick (aC (wV 0) (aC (wL (aC (wC (.int 0)) (aC (wC (.int 1)) (aC (wC (.int 1)) (aC (wC (.int 2)) (aC (wC (.int 3)) (aC (wC (.int 100)) (aC (wCall s_take (aC (wV 0) (aC (wC (.int 101)) aN))) aN)))))))) aN))) aN)))))
    (wRet (wV 4)))))))
def s_pairs : DS1 := fun ds R => ds = [.sto] ∧ ∀ ps : List (Int × Nat), (ps.map (·.1)).Nodup → ps.length ≤ 49 → (∀ p ∈ ps, p.2 ≤ 100) → R (.lst (qsD (psQ ps)))
theorem l_pairs : ∀ ds R, s_pairs ds R → ds.length = 1 := by
  rintro ds R ⟨rfl, _⟩
  rfl
theorem o_pairs : Owes 6 s_pairs w_pairs := by
  rintro ds R ⟨rfl, h⟩
  unfold w_pairs
  walk_at "dl"
  simp only [s_integers]
  refine ⟨by decide, by decide, fun ns hn => ⟨ns, rfl, by omega, fun ks h1 h2 h3 => ?_⟩⟩
  refine ⟨fun ρ => ∃ (ks : List Int) (v w : Sl), ρ = [.dt .sto, .dt (.lst (ks.map DV.int)), v, w, .un, .un] ∧ ks.Pairwise (· < ·) ∧ ks.length ≤ 48, ?_, ?_⟩
  · walk_at "dl"
    simp only [s_take]
    refine ⟨by decide, fun r r0 r1 => ?_⟩
    split
    · refine ⟨by decide, by decide, by rw [intL_len]; decide, ?_⟩
      refine lcL_ind (fun i acc => ∃ ts : List Int, acc = ts.map DV.int ∧ ts.length = i) ⟨[], rfl, rfl⟩ ?_ ?_
      · rintro i x acc K hx ⟨ts, rfl, hl2⟩ hK
        walk_at "dl"
        simp only [s_take]
        refine ⟨by decide, fun q q0 q1 => hK _ ⟨ts ++ [q - 30], by rw [List.map_append]; rfl, by rw [List.length_append, hl2]; rfl⟩⟩
      · rintro acc ⟨ts, rfl, hl2⟩
        rw [intL_len] at hl2
        have hl2 : ts.length = 40 := hl2
        refine ⟨by rw [List.length_map, List.length_map]; omega, ks ++ ts, by rw [List.map_append], by rw [List.length_append]; omega, fun ms g1 g2 g3 => ?_⟩
        rw [List.length_append] at g3
        exact ⟨ms, _, _, ⟨rfl, rfl, rfl⟩, g1, by omega⟩
    · exact ⟨ks, _, _, ⟨rfl, rfl, rfl⟩, h1, by omega⟩
  · rintro ρ ⟨ks, v, w, rfl, hk, hl⟩
    refine ⟨fun ρ => ∃ (ks : List Int) (v w : Sl), ρ = [.dt .sto, .dt (.lst (ks.map DV.int)), v, w, .un, .un] ∧ ks.Pairwise (· < ·) ∧ ks.length ≤ 49, ?_, ?_⟩
    · walk_at "dl"
      simp only [s_take]
      refine ⟨by decide, fun r r0 r1 => ?_⟩
      split
      · refine ⟨by decide, fun k k0 k1 => ?_⟩
        obtain ⟨k, rfl⟩ : ∃ j : Nat, k = (j : Int) := ⟨k.toNat, by omega⟩
        obtain ⟨d1, n, d2, d3⟩ := dig_0D k (by omega)
        have d1' : (("0" : Str).length * (k : Int).toNat) = k := by
          rw [Int.toNat_natCast]
          show 1 * k = k
          omega
        refine ⟨by omega, by omega, by omega, ?_, n, d2, d3, by decide, ?_⟩
        · rw [Int.toNat_natCast, d1]
          show 1 + k ≤ 1000000
          omega
        simp only [s_pick]
        refine ⟨by simp, by simp, fun x hx => ?_⟩
        obtain ⟨y, rfl⟩ : ∃ y : Int, x = .int y := by
          rcases List.mem_cons.mp hx with e | hx
          · exact ⟨_, e⟩
          · rcases List.mem_cons.mp hx with e | hx
            · exact ⟨_, e⟩
            · cases hx
        refine ⟨by decide, by rw [List.length_map]; omega, ks ++ [y], by rw [List.map_append]; rfl, by rw [List.length_append, List.length_singleton]; omega, fun ms g1 g2 g3 => ?_⟩
        rw [List.length_append, List.length_singleton] at g3
        exact ⟨ms, _, _, ⟨rfl, rfl, rfl⟩, g1, by omega⟩
      · exact ⟨ks, _, _, ⟨rfl, rfl, rfl⟩, hk, by omega⟩
    · rintro ρ ⟨ks, v, w, rfl, hk, hl⟩
      walk_at "dl"
      refine ⟨by decide, ?_⟩
      simp only [s_shuffP]
      refine ⟨by rw [List.length_map]; omega, fun ys hy => ?_⟩
      obtain ⟨ms, rfl, hp⟩ := ints_of_perm hy
      have nd : ms.Nodup := hp.nodup_iff.mpr (hk.imp fun {a b} z => Int.ne_of_lt z)
      have lm : ms.length = ks.length := hp.length_eq
      refine ⟨_, rfl, ?_⟩
      refine forL_ind (fun i ρ => ∃ (ps : List (Int × Nat)) (x : Sl), ρ = [.dt .sto, .dt (.lst (ks.map DV.int)), v, w, .ow (qsD (psQ ps)), x] ∧ ps.map (·.1) = ms.take i ∧ (∀ p ∈ ps, p.2 ≤ 100)) ⟨[], _, rfl, rfl, fun _ z => by cases z⟩ ?_ ?_
      · rintro i x ρ K hx ⟨ps, z, rfl, e1, e2⟩ hK
        rw [List.getElem?_map] at hx
        cases e : ms[i]? with
        | none => rw [e] at hx; cases hx
        | some n =>
          rw [e] at hx
          cases hx
          have hi : i < ms.length := (List.getElem?_eq_some_iff.mp e).1
          have hpl : ps.length = i := by
            rw [← List.length_map (f := (·.1)), e1, List.length_take]; omega
          walk_at "dl"
          simp only [s_take]
          refine ⟨by decide, fun r r0 r1 => ⟨by decide, ?_⟩⟩
          simp only [s_pick]
          refine ⟨by simp, by simp, fun x hx => ?_⟩
          obtain ⟨m, rfl, hm⟩ : ∃ m : Nat, x = .int ((m : Nat) : Int) ∧ m ≤ 100 := by
            simp only [List.mem_cons, List.not_mem_nil, or_false] at hx
            rcases hx with rfl | rfl | rfl | rfl | rfl | rfl | rfl
            · exact ⟨0, rfl, by decide⟩
            · exact ⟨1, rfl, by decide⟩
            · exact ⟨1, rfl, by decide⟩
            · exact ⟨2, rfl, by decide⟩
            · exact ⟨3, rfl, by decide⟩
            · exact ⟨100, rfl, by decide⟩
            · exact ⟨r.toNat, by rw [Int.toNat_of_nonneg r0], by omega⟩
          refine ⟨by decide, ?_, hK _ ⟨ps ++ [(n, m)], .dt (.int n), ?_, ?_, ?_⟩⟩
          · unfold qsD psQ
            rw [List.length_map, List.length_map]; omega
          · unfold qsD psQ
            rw [List.map_append, List.map_append]; rfl
          · rw [List.map_append, e1, List.take_add_one, e]; rfl
          · intro p hp
            rcases List.mem_append.mp hp with z | z
            · exact e2 p z
            · rw [List.mem_singleton.mp z]; exact hm
      · rintro ρ ⟨ps, z, rfl, e1, e2⟩
        rw [List.length_map, List.take_length] at e1
        walk_at "dl"
        refine h ps (by rw [e1]; exact nd) ?_ e2
        rw [← List.length_map (f := (·.1)), e1]
        omega
end DL
namespace DL
open PySem PySem.Spec PyProof.Rows L2 NW
local macro_rules | `(tactic| walk_at "dl1") => `(tactic| simp only [gP, wAsgFD, fCallD, fMethD, fDict, wCM, asD1, wDropCM, wAsgCM, wItemsO, fSortP, wForK, fLcK, sFd, sV, wExt, dAddT, dBinI, dBinX, wAsgB, fSortI, fSl, wAsgD, wPutD, atD, atDR, asK, wInOD, wLenOD, fCallN, wCallB, wCallK, wCallD, wDropK, frzE, frz1, wFld, wProp, wMeth, wMeth0, wLenI, dInI, dEqI, tyOk, iOwnD, iVk, wIsC, isC, wSelf, wSelfD, atS, wGet, asD, wGetO, wInDD, wDict, wTrev, dTrev, wMkI, wMkI0, wDropI, wAsgIO, frzL1, wSetO, dSumA, dEqT, dIntL, wCallF, flatR, wRaise1, fSrt, wItems, wTry, wAsgX, wDropX, wKd, wXf, wSeq, wAsg, wAsgO, wRet, wIfS, wNx, wPass, wBk, wCt, wDrop, wAug, wApp, wAppPop, wPop, wFor, wFz, wV, wVP, atV, atP, atO, wC, wOp, wCall, wCallN, wCB, aC, aN, wL, wTu, fL, wF, fCat, fList, wTB, wTru, wAnd, wOr, wNot, wAndV, wOrV, wNotV, wIf, wChain, wIsN, wNeg, dNeg, wSl, pN, pP, dSl, wLrev, dLrev, wIsi, wIsi2, iL, iT, iV, iS, iR1, iR2, gN, fLc, wYes, wiL,
  dAdd, dSub, dMul, dMulS, dMulL, dDiv, dMod, dLt, dLe, dGt, dGe, dEq, dNe, eqD, dIn, dNi, dIx, dTru, isNon, dLen, dInt, dAbs, dMax, dMin, dList, dTup, dStr, dIAdd, frzE, frz1, startD, List.map_cons, List.map_nil, List.length_cons, List.length_nil, List.replicate_succ, List.replicate_zero, List.cons_append, List.nil_append, List.append_nil, List.getElem?_cons_zero, List.getElem?_cons_succ, List.set_cons_zero, List.set_cons_succ, Nat.reduceSub, Nat.reduceAdd, if_true, if_false, ite_true, ite_false, reduceIte, Bool.false_eq_true, decide_true, decide_false, Bool.not_true, Bool.not_false, Bool.not_eq_true', decide_eq_true_eq, decide_eq_false_iff_not, isi_dic_bool, isi_dic_int, isi_dic_str, isi_dic_dict, Bool.true_eq_false, isi_int_int, isi_int_bool, isi_bl_int, isi_bl_bool, isi_non_int, isi_non_bool, isi_str_int, isi_str_bool, isi_str_str, isi_lst_list, isi_tup_tuple, Option.some.injEq, exists_eq_left', exists_eq_left, DV.int.injEq, DV.str.injEq, DV.bl.injEq, List.cons.injEq, and_true, true_and])
local macro_rules | `(tactic| walk_at "dl") => `(tactic| try walk_at "dl1")
local macro_rules | `(tactic| walk_at "go") => `(tactic| repeat' (first
  | (intro _)
  | walk_at "dl1"
  | (refine ⟨by first | decide | omega, ?_⟩)
  | split))
theorem putKs_len (ks : List Key) (k : Key) : (putKs ks k).length ≤ ks.length + 1 := by
  unfold putKs
  split
  · exact Nat.le_succ _
  · rw [List.length_append, List.length_singleton]; exact Nat.le_refl _
theorem qs_pairs (ps : List (Int × Nat)) : qsD (psQ ps) = (ps.map fun p => (p.1, ((p.2 : Nat) : Int))).map pairD := by
  unfold qsD psQ
  rw [List.map_map, List.map_map]
  rfl
theorem ps_perm {qs : List (Int × Int)} {ps : List (Int × Nat)} (p : qs.Perm (ps.map fun p => (p.1, ((p.2 : Nat) : Int)))) : ∃ gs : List (Int × Nat), qs = gs.map (fun p => (p.1, ((p.2 : Nat) : Int))) ∧ gs.Perm ps := by
  refine ⟨qs.map fun q => (q.1, q.2.toNat), ?_, ?_⟩
  · rw [List.map_map]
    refine ((List.map_congr_left fun q hq => ?_).trans (List.map_id _)).symm
    obtain ⟨r, _, rfl⟩ := List.mem_map.mp (p.mem_iff.mp hq)
    rfl
  · have := p.map fun q => (q.1, q.2.toNat)
    rw [List.map_map] at this
    refine this.trans ?_
    have e : ps.map ((fun q : Int × Int => (q.1, q.2.toNat)) ∘ fun p => (p.1, ((p.2 : Nat) : Int))) = ps := (List.map_congr_left fun q _ => rfl).trans (List.map_id _)
    rw [e]
theorem ps_asc {gs : List (Int × Nat)} (nd : (gs.map (·.1)).Nodup) (h : (gs.map fun p => (p.1, ((p.2 : Nat) : Int))).Pairwise fun a b => SrtO.lexB b a = false) : gs.Pairwise fun a b => a.1 < b.1 := by
  have h := List.pairwise_map.mp h
  have nd : gs.Pairwise fun a b => a.1 ≠ b.1 := List.pairwise_map.mp nd
  refine (h.and nd).imp fun {a b} z => ?_
  have := SrtO.lexB_no.mp z.1
  have := z.2
  dsimp only at *
  omega
theorem bagT_flat {gs : List (Int × Nat)} (nd : (gs.map (·.1)).Nodup) (hp : ∀ p ∈ gs, 0 < p.2) : (kset (flatP gs)).map (Sum.inl : Int → Key) = (psQ gs).map (fun q => Sum.inl q.1) ∧ (kset (flatP gs)).map (fun k => DV.int (((flatP gs).count k : Nat) : Int)) = (psQ gs).map (·.2) := by
  rw [kset_flat nd hp]
  unfold psQ
  rw [List.map_map, List.map_map, List.map_map, List.map_map]
  exact ⟨rfl, List.map_congr_left fun p hp => by
    show DV.int _ = DV.int _
    rw [flatP_count nd hp]⟩
theorem fl_psQ (n : Nat) {gs : List (Int × Nat)} : ∀ x ∈ (psQ gs).map (·.2), flD n x := fun x hx => by
  unfold psQ at hx
  rw [List.map_map] at hx
  obtain ⟨p, _, rfl⟩ := List.mem_map.mp hx
  exact fl_int n _
theorem qs_len (ps : List (Int × Nat)) : (qsD (psQ ps)).length = ps.length := by
  unfold qsD psQ
  rw [List.length_map, List.length_map]
def w_holds (K : PySem.W.Frag) : WS :=
  (wSeq (wAsg 2 (wF (fSortP (wF (fLc (iL (wV 1)) (gN 3) (wTB (wOp dGt (wOp dIx (wVP 3) (wC (.int 1))) (wC (.int 0)))) (wV 3) [3])))))
    (wSeq (wAsg 4 (wL aN))
    (wSeq (wFor (iL (wV 2)) (gP 5 6) (wAsg 4 (wOp dAdd (wVP 4) (wOp dMulL (wL (aC (wV 5) aN)) (wVP 6)))))
    (wSeq (wIfS (wOr (wNot (wTru (wIsC (He.ga K "Bag") (wV 0)))) (wOr (wNot (wTru (wCall (s_same 3) (aC (wProp (He.ga K "Bag") (s_PBag_numbers K) (wV 0)) (aC (wCB dTup (aC (wVP 4) aN)) aN))))) (wNot (wTru (wCall (s_same 3) (aC (wLenI (He.ga K "Bag") (s_PBag___len__ K) (wV 0)) (aC (wCB dLen (aC (wVP 4) aN)) aN))))))) (wRet (wC (.bl false))) wNx)
    (wSeq (wFor (iL (wV 1)) (gP 5 6) (wIfS (wOr (wNot (wTru (wCall (s_same 3) (aC (wMeth (He.ga K "Bag") "times" (s_PBag_times K) (wV 0) (aC (wV 5) aN)) (aC (wV 6) aN))))) (wNot (wTru (wCall (s_same 3) (aC (wOp (dInI (He.ga K "Bag") (s_PBag___contains__ K)) (wV 5) (wV 0)) (aC (wOp dGt (wVP 6) (wC (.int 0))) aN)))))) (wRet (wC (.bl false))) wNx))
    (wSeq (wAsgFD 7 (fMethD (He.ga K "Bag") "table" (s_FDBag_table K) (wV 0)))
    (wSeq (wIfS (wOr (wNot (wTru (wCallB (s_sameD 0) (aC (wV 7) (aC (wCallN (sD s_dict) (aC (wV 2) aN)) aN))))) (wNot (wTru (wCall (s_same 3) (aC (wProp (He.ga K "Bag") (s_PBag_total K) (wV 0)) (aC (wCB dSumA (aC (wVP 4) aN)) aN)))))) (wRet (wC (.bl false))) wNx)
    (wSeq (wPutD 7 (wC (.int 100000000000000000000000000000000000000000)) (wC (.int 1)))
    (wSeq (wPutD 7 (wC (.int 0)) (wC (.int 101)))
    (wRet (wAndV (wCall (s_sameD 0) (aC (wMeth0 (He.ga K "Bag") "table" (s_PBag_table K) (wV 0)) (aC (wCallN (sD s_dict) (aC (wV 2) aN)) aN))) (wCall (s_same 3) (aC (wOp (dEqI (He.ga K "Bag") (s_PBag___eq__ K)) (wCM (s_PBag_counted K) (aC (wMeth0 (He.ga K "Bag") "table" (s_PBag_table K) (wV 0)) aN)) (wV 0)) (aC (wC (.bl true)) aN))))))))))))))
def s_holds (K : PySem.W.Frag) : DS1 := fun ds R => ∃ ps : List (Int × Nat), ds = [bagD K (srt (flatP ps)), .lst (qsD (psQ ps))] ∧ (ps.map (·.1)).Nodup ∧ ps.length ≤ 49 ∧ (∀ p ∈ ps, p.2 ≤ 100) ∧ R (.bl true)
theorem l_holds (K : PySem.W.Frag) : ∀ ds R, s_holds K ds R → ds.length = 2 := by
  rintro ds R ⟨_, rfl, _⟩
  rfl
theorem o_holds (K : PySem.W.Frag) : Owes 8 (s_holds K) (w_holds K) := by
  rintro ds R ⟨ps, rfl, nd, hl, hm, r⟩
  unfold w_holds
  walk_at "dl"
  refine ⟨_, rfl, by rw [qs_len]; omega, ?_⟩
  refine lcL_ind (fun i acc => acc = qsD (psQ ((ps.take i).filter fun p => decide (0 < p.2)))) rfl ?_ ?_
  · rintro i x acc K' hx rfl hK
    unfold qsD psQ at hx
    rw [List.map_map, List.getElem?_map] at hx
    cases e : ps[i]? with
    | none => rw [e] at hx; cases hx
    | some p =>
      rw [e] at hx
      cases hx
      have et : ps.take (i + 1) = ps.take i ++ [p] := by rw [List.take_add_one, e]; rfl
      walk_at "dl"
      refine ⟨.int ((p.2 : Nat) : Int), atI_lit (by simp) rfl, ?_⟩
      walk_at "dl"
      by_cases h : 0 < p.2
      · rw [if_pos (by omega)]
        refine hK _ ?_
        rw [et, List.filter_append, List.filter_cons_of_pos (p := fun p => decide (0 < p.2)) (a := p) (decide_eq_true h)]
        unfold qsD psQ
        rw [List.map_append, List.map_append]
        rfl
      · rw [if_neg (by omega)]
        refine hK _ ?_
        rw [et, List.filter_append, List.filter_cons_of_neg (p := fun p => decide (0 < p.2)) (a := p) (by simpa using h), List.filter_nil, List.append_nil]
  · rintro acc rfl
    rw [qs_len, List.take_length]
    rw [qs_pairs]
    refine ⟨_, rfl, fun qs hq hs => ?_⟩
    obtain ⟨gs, rfl, pm⟩ := ps_perm hq
    have pk : (gs.map (·.1)).Perm ((ps.filter fun p => decide (0 < p.2)).map (·.1)) := pm.map _
    have ndf : ((ps.filter fun p => decide (0 < p.2)).map (·.1)).Nodup := List.Sublist.nodup ((List.filter_sublist (l := ps) (p := fun p => decide (0 < p.2))).map (·.1)) nd
    have ndg := pk.nodup_iff.mpr ndf
    have asc := ps_asc ndg hs
    have hg : ∀ p ∈ gs, p ∈ ps ∧ 0 < p.2 := fun p hp => by
      have := List.mem_filter.mp (pm.mem_iff.mp hp)
      exact ⟨this.1, of_decide_eq_true this.2⟩
    have lg : gs.length ≤ 49 := by
      rw [pm.length_eq]
      exact Nat.le_trans (List.length_filter_le _ _) hl
    have es : srt (flatP ps) = flatP gs := by
      refine (srt_eq ?_ (flatP_asc asc)).symm
      rw [← flatP_pos ps]
      exact flatP_perm pm
    have fl := flatP_len (ps := gs) (m := 100) fun p hp => hm p (hg p hp).1
    rw [← qs_pairs, es]
    refine ⟨by decide, _, rfl, ?_⟩
    refine forL_ind (fun i ρ => ∃ v w : Sl, ρ = [.dt (bagD K (flatP gs)), .dt (.lst (qsD (psQ ps))), .dt (.lst (qsD (psQ gs))), .un, .dt (.lst ((flatP (gs.take i)).map DV.int)), v, w, .un]) ⟨_, _, rfl⟩ ?_ ?_
    · rintro i x ρ K' hx ⟨v, w, rfl⟩ hK
      unfold qsD psQ at hx
      rw [List.map_map, List.getElem?_map] at hx
      cases e : gs[i]? with
      | none => rw [e] at hx; cases hx
      | some p =>
        rw [e] at hx
        cases hx
        have ft : (flatP (gs.take (i + 1))).length ≤ (flatP gs).length := flatP_tlen _
        rw [flatP_take e, List.length_append, List.length_replicate] at ft
        walk_at "dl"
        refine ⟨by decide, by omega, by omega, ?_, ?_, hK _ ⟨.dt (.int p.1), .dt (.int ((p.2 : Nat) : Int)), ?_⟩⟩
        · show 1 * _ ≤ _
          rw [Int.toNat_natCast]; omega
        · rw [Int.toNat_natCast, rep_one, List.length_replicate, List.length_map]; omega
        · rw [Int.toNat_natCast, rep_one, flatP_take e, List.map_append, List.map_replicate]
    · rintro ρ ⟨v, w, rfl⟩
      rw [qs_len, List.take_length]
      walk_at "dl"
      refine ⟨true, if_pos rfl, ?_⟩
      rw [if_neg (by decide)]
      refine ⟨⟨_, _, rfl⟩, flatP gs, rfl, ?_⟩
      refine ⟨rfl, fl_tupI 1 _, ?_⟩
      dsimp only
      rw [if_neg (by decide)]
      refine ⟨⟨_, _, rfl⟩, flatP gs, rfl, _, rfl, ⟨by omega, by omega⟩, ?_⟩
      refine ⟨by rw [List.length_map], fl_int _ _, ?_⟩
      dsimp only
      rw [if_neg (by decide)]
      refine ⟨_, rfl, ?_⟩
      refine forL_ind (fun i ρ => ∃ v w : Sl, ρ = [.dt (bagD K (flatP gs)), .dt (.lst (qsD (psQ ps))), .dt (.lst (qsD (psQ gs))), .un, .dt (.lst ((flatP gs).map DV.int)), v, w, .un]) ⟨_, _, rfl⟩ ?_ ?_
      · rintro i x ρ K' hx ⟨v, w, rfl⟩ hK
        unfold qsD psQ at hx
        rw [List.map_map, List.getElem?_map] at hx
        cases e : ps[i]? with
        | none => rw [e] at hx; cases hx
        | some p =>
          rw [e] at hx
          cases hx
          have ec : (flatP gs).count p.1 = p.2 := by rw [← es, srt_count, flatP_count nd (List.mem_of_getElem? e)]
          have em : decide (p.1 ∈ flatP gs) = decide ((0 : Int) < ((p.2 : Nat) : Int)) := by
            refine decide_eq_decide.mpr ?_
            rw [← List.count_pos_iff, ec]
            omega
          walk_at "dl"
          refine ⟨⟨_, _, rfl, by decide +kernel⟩, flatP gs, p.1, rfl, ?_⟩
          refine ⟨congrArg (fun n : Nat => DV.int ((n : Nat) : Int)) ec, fl_int _ _, ?_⟩
          dsimp only
          rw [if_neg (by decide)]
          refine ⟨⟨_, _, rfl⟩, flatP gs, p.1, rfl, _, rfl, ?_⟩
          refine ⟨congrArg DV.bl em, trivial, ?_⟩
          dsimp only
          rw [if_neg (by decide)]
          exact hK _ ⟨_, _, rfl⟩
      · rintro ρ ⟨v, w, rfl⟩
        walk_at "dl"
        refine ⟨⟨_, _, rfl, by decide +kernel⟩, flatP gs, rfl, ?_⟩
        have pg : ∀ p ∈ gs, 0 < p.2 := fun p hp => (hg p hp).2
        obtain ⟨b1, b2⟩ := bagT_flat ndg pg
        have bt : bagT (flatP gs) = .dic ((psQ gs).map fun q => Sum.inl q.1) ((psQ gs).map (·.2)) := by
          unfold bagT
          rw [b1, b2]
        have lq : (psQ gs).length = gs.length := by unfold psQ; rw [List.length_map]
        have hd : ∀ (R' : DV → Prop) (RX : DV → Prop), R' (.dic ((psQ gs).map fun q => Sum.inl q.1) ((psQ gs).map (·.2))) → sD s_dict [.lst (qsD (psQ gs))] R' RX := fun R' RX z => ⟨psQ gs, rfl, by
          have e : (psQ gs).map (·.1) = gs.map (·.1) := by unfold psQ; rw [List.map_map]; rfl
          rw [e]; exact ndg, by omega, z⟩
        have eg : srt (flatP gs) = flatP gs := (srt_eq (List.Perm.refl _) (flatP_asc asc)).symm
        rw [b1, b2]
        refine hd _ _ ⟨_, _, rfl, by rw [List.length_map]; omega, fl_psQ 0, true, rfl, ?_⟩
        rw [if_neg (by decide)]
        refine ⟨⟨_, _, rfl⟩, flatP gs, rfl, flatP gs, rfl, rfl, fl_int _ _, ?_⟩
        dsimp only
        rw [if_neg (by decide)]
        have lk : ((psQ gs).map fun q => (Sum.inl q.1 : Key)).length = gs.length := by rw [List.length_map]; exact lq
        refine ⟨by rw [lk]; omega, Nat.lt_of_le_of_lt (putKs_len _ _) (by rw [lk]; omega), ⟨_, _, rfl, by decide +kernel⟩, flatP gs, rfl, ?_⟩
        rw [bt]
        refine hd _ _ ⟨_, _, rfl, by rw [List.length_map]; omega, fl_psQ 0, ?_⟩
        dsimp only
        rw [if_pos rfl]
        refine ⟨⟨_, _, rfl, by decide +kernel⟩, flatP gs, rfl, ?_⟩
        rw [bt]
        refine ⟨psQ gs, rfl, rfl, by omega, .inl ⟨gs, rfl, fun p hp => hm p (hg p hp).1, ?_⟩⟩
        exact ⟨⟨_, _, rfl⟩, rfl, srt (flatP gs), bagD K (flatP gs), rfl, .inl ⟨flatP gs, rfl, _, rfl, congrArg DV.bl (decide_eq_true eg), trivial, r⟩⟩
end DL
namespace DL
open PySem PySem.Spec PyProof.Rows L2 NW
local macro_rules | `(tactic| walk_at "dl1") => `(tactic| simp only [gP, wAsgFD, fCallD, fMethD, fDict, wCM, asD1, wDropCM, wAsgCM, wItemsO, fSortP, wForK, fLcK, sFd, sV, wExt, dAddT, dBinI, dBinX, wAsgB, fSortI, fSl, wAsgD, wPutD, atD, atDR, asK, wInOD, wLenOD, fCallN, wCallB, wCallK, wCallD, wDropK, frzE, frz1, wFld, wProp, wMeth, wMeth0, wLenI, dInI, dEqI, tyOk, iOwnD, iVk, wIsC, isC, wSelf, wSelfD, atS, wGet, asD, wGetO, wInDD, wDict, wTrev, dTrev, wMkI, wMkI0, wDropI, wAsgIO, frzL1, wSetO, dSumA, dEqT, dIntL, wCallF, flatR, wRaise1, fSrt, wItems, wTry, wAsgX, wDropX, wKd, wXf, wSeq, wAsg, wAsgO, wRet, wIfS, wNx, wPass, wBk, wCt, wDrop, wAug, wApp, wAppPop, wPop, wFor, wFz, wV, wVP, atV, atP, atO, wC, wOp, wCall, wCallN, wCB, aC, aN, wL, wTu, fL, wF, fCat, fList, wTB, wTru, wAnd, wOr, wNot, wAndV, wOrV, wNotV, wIf, wChain, wIsN, wNeg, dNeg, wSl, pN, pP, dSl, wLrev, dLrev, wIsi, wIsi2, iL, iT, iV, iS, iR1, iR2, gN, fLc, wYes, wiL,
  dAdd, dSub, dMul, dMulS, dMulL, dDiv, dMod, dLt, dLe, dGt, dGe, dEq, dNe, eqD, dIn, dNi, dIx, dTru, isNon, dLen, dInt, dAbs, dMax, dMin, dList, dTup, dStr, dIAdd, frzE, frz1, startD, List.map_cons, List.map_nil, List.length_cons, List.length_nil, List.replicate_succ, List.replicate_zero, List.cons_append, List.nil_append, List.append_nil, List.getElem?_cons_zero, List.getElem?_cons_succ, List.set_cons_zero, List.set_cons_succ, Nat.reduceSub, Nat.reduceAdd, if_true, if_false, ite_true, ite_false, reduceIte, Bool.false_eq_true, decide_true, decide_false, Bool.not_true, Bool.not_false, Bool.not_eq_true', decide_eq_true_eq, decide_eq_false_iff_not, isi_dic_bool, isi_dic_int, isi_dic_str, isi_dic_dict, Bool.true_eq_false, isi_int_int, isi_int_bool, isi_bl_int, isi_bl_bool, isi_non_int, isi_non_bool, isi_str_int, isi_str_bool, isi_str_str, isi_lst_list, isi_tup_tuple, Option.some.injEq, exists_eq_left', exists_eq_left, DV.int.injEq, DV.str.injEq, DV.bl.injEq, List.cons.injEq, and_true, true_and])
local macro_rules | `(tactic| walk_at "dl") => `(tactic| try walk_at "dl1")
local macro_rules | `(tactic| walk_at "go") => `(tactic| repeat' (first
  | (intro _)
  | walk_at "dl1"
  | (refine ⟨by first | decide | omega, ?_⟩)
  | split))
theorem ixN_at {n j : Nat} (hj : j < n) : ixN n (j : Int) = some j := by
  unfold ixN
  rw [if_pos (Int.natCast_nonneg j), if_pos (by omega), Int.toNat_natCast]
theorem fl_qsD (n : Nat) {qs : List (Int × DV)} (h : ∀ q ∈ qs, flatR q.2) : flD (n + 2) (.lst (qsD qs)) := by
  intro x hx
  obtain ⟨q, hq, rfl⟩ := List.mem_map.mp hx
  intro y hy
  rcases List.mem_cons.mp hy with rfl | hy
  · exact fl_int _ _
  · rw [List.mem_singleton.mp hy]
    exact fl_flat (h q hq)
def badP (q : Int × DV) : Bool := !isNum q.2 0 100
theorem isNum_yes {v : DV} (h : isNum v 0 100 = true) : ∃ m : Nat, v = .int ((m : Nat) : Int) ∧ m ≤ 100 := by
  unfold isNum at h
  split at h
  · rename_i i
    have h := Bool.and_eq_true_iff.mp h
    have h1 := of_decide_eq_true h.1
    have h2 := of_decide_eq_true h.2
    exact ⟨i.toNat, by rw [Int.toNat_of_nonneg h1], by omega⟩
  · cases h
theorem first_badQ : ∀ {qs : List (Int × DV)}, (∃ q ∈ qs, badP q = true) → ∃ (i : Nat) (q : Int × DV), qs[i]? = some q ∧ badP q = true ∧ (∀ j, j < i → ∃ q, qs[j]? = some q ∧ badP q = false) ∧ (qs.filter badP)[0]? = some q
  | [], h => by obtain ⟨_, z, _⟩ := h; cases z
  | q :: qs, h => by
    cases e : badP q with
    | true => exact ⟨0, q, rfl, e, fun j hj => absurd hj (Nat.not_lt_zero _), by rw [List.filter_cons_of_pos e]; rfl⟩
    | false =>
      obtain ⟨p, hp, hb⟩ := h
      have hp : p ∈ qs := by
        rcases List.mem_cons.mp hp with z | z
        · rw [z, e] at hb; cases hb
        · exact z
      obtain ⟨i, r, h1, h2, h3, h4⟩ := first_badQ ⟨p, hp, hb⟩
      refine ⟨i + 1, r, h1, h2, fun j hj => ?_, by rw [List.filter_cons_of_neg (by rw [e]; exact Bool.false_ne_true)]; exact h4⟩
      cases j with
      | zero => exact ⟨q, rfl, e⟩
      | succ j => exact h3 j (by omega)
theorem qsD_at {qs : List (Int × DV)} {i : Nat} {x : DV} (h : (qsD qs)[i]? = some x) : ∃ q, qs[i]? = some q ∧ x = .tup [.int q.1, q.2] := by
  unfold qsD at h
  rw [List.getElem?_map] at h
  cases e : qs[i]? with
  | none => rw [e] at h; cases h
  | some q => rw [e] at h; cases h; exact ⟨q, rfl, rfl⟩
theorem qsD_len (qs : List (Int × DV)) : (qsD qs).length = qs.length := List.length_map _
theorem qsD_set (qs : List (Int × DV)) (i : Nat) (q : Int × DV) : (qsD qs).set i (.tup [.int q.1, q.2]) = qsD (qs.set i q) := by
  unfold qsD
  rw [List.map_set]
def w_ref5 (K : PySem.W.Frag) : WS :=
  (wSeq (wAsgO 2 (fList (wVP 1)))
    (wCut (wIfS (wNot (wTru (wVP 2))) (wAsgO 2 (fL (aC (wTu (aC (wC (.int 0)) (aC (wC (.int 0)) aN))) aN))) wNx)
    (wSeq (wFor (iR1 (aC (wOp dAdd (wC (.int 1)) (wCall s_take (aC (wV 0) (aC (wC (.int 2)) aN)))) aN)) (gN 3) (wSeq (wAsg 4 (wCall s_number (aC (wV 0) (aC (wC (.int 0)) (aC (wOp dSub (wCB dLen (aC (wVP 2) aN)) (wC (.int 1))) aN)))))
    (wSetO 2 (wV 4) (wTu (aC (wOp dIx (wOp dIx (wVP 2) (wVP 4)) (wC (.int 0))) (aC (wCall s_not_integer (aC (wV 0) (aC (wC (.int 0)) (aC (wC (.int 100)) aN)))) aN))))))
    (wFz (wSeq (wAsg 5 (wOp dIx (wF (fLc (iL (wV 2)) (gN 6) (wOr (wNot (wTru (wCall s_isI5 (aC (wOp dIx (wVP 6) (wC (.int 1))) aN)))) (wOr (wTB (wOp dLt (wOp dIx (wVP 6) (wC (.int 1))) (wC (.int 0)))) (wTB (wOp dGt (wOp dIx (wVP 6) (wC (.int 1))) (wC (.int 100)))))) (wOp dIx (wVP 6) (wC (.int 1))) [6])) (wC (.int 0))))
    (wSeq (wAsg 7 (wCallN (sD s_dict) (aC (wV 2) aN)))
    (wSeq (wTry K 8 ["BadNumber"] (wDropCM (s_PBag_counted K) (aC (wV 7) aN)) (fun a cls d => (wSeq (wIfS (wNot (wTru (wCall (s_same 3) (aC (wKd K ["BadNumber"] a cls d 8) (aC (wL (aC (wC (.str "ValueError")) (aC (wC (.str "NestError")) (aC (wC (.str "BadNumber")) aN)))) aN))))) (wRet (wC (.bl false))) wNx)
    (wRet (wAndV (wCall (s_same 3) (aC (wXf K [("BadNumber", "number")] a cls d "number" 8) (aC (wV 5) aN))) (wCall (s_same 3) (aC (wItems (wV 7)) (aC (wV 2) aN))))))))
    (wRet (wC (.bl false))))))))))
def s_ref5 (K : PySem.W.Frag) : DS1 := fun ds R => ∃ ps : List (Int × Nat), ds = [.sto, .lst (qsD (psQ ps))] ∧ (ps.map (·.1)).Nodup ∧ ps.length ≤ 49 ∧ (∀ p ∈ ps, p.2 ≤ 100) ∧ R (.bl true)
theorem l_ref5 (K : PySem.W.Frag) : ∀ ds R, s_ref5 K ds R → ds.length = 2 := by
  rintro ds R ⟨_, rfl, _⟩
  rfl
theorem o_ref5 (K : PySem.W.Frag) : Owes 9 (s_ref5 K) (w_ref5 K) := by
  rintro ds R ⟨ps, rfl, nd, hl, hm, r⟩
  unfold w_ref5
  walk_at "dl"
  refine ⟨fun ρ => ∃ (d1 : DV) (ps : List (Int × Nat)), ρ = [.dt .sto, .dt d1, .ow (qsD (psQ ps)), .un, .un, .un, .un, .un, .un] ∧ ps ≠ [] ∧ (ps.map (·.1)).Nodup ∧ ps.length ≤ 49 ∧ (∀ p ∈ ps, p.2 ≤ 100), ?_, ?_⟩
  · walk_at "dl"
    cases ps with
    | nil => exact ⟨by decide, by decide, _, [(0, 0)], ⟨rfl, rfl⟩, by simp, by decide, by decide, by decide⟩
    | cons p ps => exact ⟨_, p :: ps, ⟨rfl, rfl⟩, by simp, nd, hl, hm⟩
  · rintro ρ ⟨d1, ps, rfl, ne, nd, hl, hm⟩
    walk_at "dl"
    simp only [s_take]
    refine ⟨by decide, fun t t0 t1 => ?_⟩
    refine ⟨by omega, by omega, ?_⟩
    have pl : 0 < ps.length := List.length_pos_iff.mpr ne
    refine forL_ind (fun i ρ => ∃ (qs : List (Int × DV)) (v w : Sl), ρ = [.dt .sto, .dt d1, .ow (qsD qs), v, w, .un, .un, .un, .un] ∧ qs.map (·.1) = ps.map (·.1) ∧ (∀ q ∈ qs, flatR q.2) ∧ (i ≠ 0 → ∃ q ∈ qs, badP q = true)) ⟨psQ ps, _, _, rfl, ?_, ?_, fun z => absurd rfl z⟩ ?_ ?_
    · unfold psQ
      rw [List.map_map]
      rfl
    · intro q hq
      obtain ⟨p, _, rfl⟩ := List.mem_map.mp hq
      trivial
    · rintro i x ρ K' hx ⟨qs, v, w, rfl, e1, e2, e3⟩ hK
      have lq : qs.length = ps.length := by rw [← List.length_map (f := (·.1)), e1, List.length_map]
      walk_at "dl"
      simp only [s_number]
      refine ⟨by rw [qsD_len]; omega, fun a a0 a1 => ?_⟩
      obtain ⟨u, rfl⟩ : ∃ u : Nat, a = (u : Int) := ⟨a.toNat, by omega⟩
      rw [qsD_len] at a1
      have hu : u < qs.length := by omega
      have eu : (qsD qs)[u]? = some (.tup [.int (qs[u]).1, (qs[u]).2]) := by
        unfold qsD
        rw [List.getElem?_map, List.getElem?_eq_getElem hu]
        rfl
      refine ⟨_, atI_nat eu, ?_⟩
      dsimp only
      refine ⟨.int (qs[u]).1, atI_lit (by decide) rfl, ?_⟩
      simp only [s_not_integer]
      refine ⟨0, 100, rfl, by decide, by decide, fun y hy hb => ⟨by decide, u, u, rfl, ixN_at (by rw [qsD_len]; exact hu), hK _ ⟨qs.set u ((qs[u]).1, y), .dt x, .dt (.int (u : Int)), ?_, ?_, ?_, fun _ => ⟨((qs[u]).1, y), List.mem_iff_getElem?.mpr ⟨u, List.getElem?_set_self hu⟩, by unfold badP; rw [hb]; rfl⟩⟩⟩⟩
      · rw [← qsD_set]
      · rw [List.map_set, ← e1]
        refine List.ext_getElem? fun z => ?_
        by_cases hz : u = z
        · subst hz
          rw [List.getElem?_set_self (by rw [List.length_map]; exact hu), List.getElem?_map, List.getElem?_eq_getElem hu]
          rfl
        · rw [List.getElem?_set_ne hz]
      · intro q hq
        rcases List.mem_or_eq_of_mem_set hq with z | z
        · exact e2 q z
        · rw [z]; exact hy
    · rintro ρ ⟨qs, v, w, rfl, e1, e2, e3⟩
      have lq : qs.length = ps.length := by rw [← List.length_map (f := (·.1)), e1, List.length_map]
      obtain ⟨i, q, hi, hb, hj, hh⟩ := first_badQ (e3 (by rw [intL_len]; omega))
      walk_at "dl"
      refine ⟨_, rfl, by rw [qsD_len]; omega, ?_⟩
      refine lcL_ind (fun i acc => acc = ((qs.take i).filter badP).map (·.2)) rfl ?_ ?_
      · rintro i x acc K' hx rfl hK
        obtain ⟨p, hp, rfl⟩ := qsD_at hx
        have et : qs.take (i + 1) = qs.take i ++ [p] := by rw [List.take_add_one, hp]; rfl
        have yes : badP p = true → K' (((qs.take i).filter badP).map (·.2) ++ [p.2]) := fun z => hK _ (by
          rw [et, List.filter_append, List.filter_cons_of_pos z, List.map_append]
          rfl)
        have no : badP p = false → K' (((qs.take i).filter badP).map (·.2)) := fun z => hK _ (by
          rw [et, List.filter_append, List.filter_cons_of_neg (by rw [z]; exact Bool.false_ne_true), List.filter_nil, List.append_nil])
        have fl := e2 p (List.mem_of_getElem? hp)
        obtain ⟨k, y⟩ := p
        dsimp only at yes no fl ⊢
        have at1 : atI [DV.int k, y] 1 = some y := atI_lit (by decide) rfl
        walk_at "dl"
        refine ⟨y, at1, y, rfl, fl, ?_⟩
        cases y with
        | int j =>
          dsimp only
          rw [if_neg (by decide)]
          refine ⟨_, at1, ?_⟩
          dsimp only
          by_cases h1 : j < 0
          · rw [if_pos h1]
            refine ⟨_, at1, yes ?_⟩
            show (!(decide ((0 : Int) ≤ j) && decide (j ≤ 100))) = true
            rw [decide_eq_false (by omega)]; rfl
          · rw [if_neg h1]
            refine ⟨_, at1, ?_⟩
            dsimp only
            by_cases h2 : 100 < j
            · rw [if_pos h2]
              refine ⟨_, at1, yes ?_⟩
              show (!(decide ((0 : Int) ≤ j) && decide (j ≤ 100))) = true
              rw [decide_eq_false (p := j ≤ 100) (by omega), Bool.and_false]; rfl
            · rw [if_neg h2]
              refine no ?_
              show (!(decide ((0 : Int) ≤ j) && decide (j ≤ 100))) = false
              rw [decide_eq_true (by omega), decide_eq_true (by omega)]; rfl
        | bl b =>
          dsimp only
          rw [if_pos rfl]
          exact ⟨_, at1, yes rfl⟩
        | str b =>
          dsimp only
          rw [if_pos rfl]
          exact ⟨_, at1, yes rfl⟩
        | non =>
          dsimp only
          rw [if_pos rfl]
          exact ⟨_, at1, yes rfl⟩
        | _ => exact fl.elim
      · rintro acc rfl
        rw [qsD_len, List.take_length]
        refine ⟨q.2, atI_lit (by decide) (by rw [List.getElem?_map]; show Option.map _ ((qs.filter badP)[0]?) = _; rw [hh]; rfl), ?_⟩
        refine ⟨qs, rfl, by rw [e1]; exact nd, by omega, ?_⟩
        refine ⟨qs, rfl, rfl, by omega, .inr ⟨i, q.1, q.2, hi, e2 q (List.mem_of_getElem? hi), by unfold badP at hb; simpa using hb, fun j h => ?_, ?_⟩⟩
        · obtain ⟨r, h1, h2⟩ := hj j h
          obtain ⟨m, h3, h4⟩ := isNum_yes (v := r.2) (by unfold badP at h2; simpa using h2)
          exact ⟨r.1, m, by rw [h1, ← h3], h4⟩
        · refine ⟨_, _, _, rfl, List.mem_singleton.mpr rfl, fun a dd => ?_⟩
          refine ⟨_, _, _, _, rfl, rfl, rfl, List.mem_singleton.mpr rfl, by decide, by rw [sel_plain (by decide +kernel)], fl_sel 1 _, ?_⟩
          dsimp only
          rw [if_neg (by decide)]
          refine ⟨_, _, _, _, _, rfl, rfl, rfl, List.mem_singleton.mpr rfl, rfl, ?_⟩
          refine ⟨rfl, fl_flat (e2 q (List.mem_of_getElem? hi)), ?_⟩
          dsimp only
          rw [if_pos rfl]
          refine ⟨_, _, rfl, ?_⟩
          rw [items_qs]
          exact ⟨rfl, fl_qsD 0 e2, r⟩
end DL
namespace DL
open PySem PySem.Spec PyProof.Rows L2 NW
local macro_rules | `(tactic| walk_at "dl1") => `(tactic| simp only [gP, wAsgFD, fCallD, fMethD, fDict, wCM, asD1, wDropCM, wAsgCM, wItemsO, fSortP, wForK, fLcK, sFd, sV, wExt, dAddT, dBinI, dBinX, wAsgB, fSortI, fSl, wAsgD, wPutD, atD, atDR, asK, wInOD, wLenOD, fCallN, wCallB, wCallK, wCallD, wDropK, frzE, frz1, wFld, wProp, wMeth, wMeth0, wLenI, dInI, dEqI, tyOk, iOwnD, iVk, wIsC, isC, wSelf, wSelfD, atS, wGet, asD, wGetO, wInDD, wDict, wTrev, dTrev, wMkI, wMkI0, wDropI, wAsgIO, frzL1, wSetO, dSumA, dEqT, dIntL, wCallF, flatR, wRaise1, fSrt, wItems, wTry, wAsgX, wDropX, wKd, wXf, wSeq, wAsg, wAsgO, wRet, wIfS, wNx, wPass, wBk, wCt, wDrop, wAug, wApp, wAppPop, wPop, wFor, wFz, wV, wVP, atV, atP, atO, wC, wOp, wCall, wCallN, wCB, aC, aN, wL, wTu, fL, wF, fCat, fList, wTB, wTru, wAnd, wOr, wNot, wAndV, wOrV, wNotV, wIf, wChain, wIsN, wNeg, dNeg, wSl, pN, pP, dSl, wLrev, dLrev, wIsi, wIsi2, iL, iT, iV, iS, iR1, iR2, gN, fLc, wYes, wiL,
  dAdd, dSub, dMul, dMulS, dMulL, dDiv, dMod, dLt, dLe, dGt, dGe, dEq, dNe, eqD, dIn, dNi, dIx, dTru, isNon, dLen, dInt, dAbs, dMax, dMin, dList, dTup, dStr, dIAdd, frzE, frz1, startD, List.map_cons, List.map_nil, List.length_cons, List.length_nil, List.replicate_succ, List.replicate_zero, List.cons_append, List.nil_append, List.append_nil, List.getElem?_cons_zero, List.getElem?_cons_succ, List.set_cons_zero, List.set_cons_succ, Nat.reduceSub, Nat.reduceAdd, if_true, if_false, ite_true, ite_false, reduceIte, Bool.false_eq_true, decide_true, decide_false, Bool.not_true, Bool.not_false, Bool.not_eq_true', decide_eq_true_eq, decide_eq_false_iff_not, isi_dic_bool, isi_dic_int, isi_dic_str, isi_dic_dict, Bool.true_eq_false, isi_int_int, isi_int_bool, isi_bl_int, isi_bl_bool, isi_non_int, isi_non_bool, isi_str_int, isi_str_bool, isi_str_str, isi_lst_list, isi_tup_tuple, Option.some.injEq, exists_eq_left', exists_eq_left, DV.int.injEq, DV.str.injEq, DV.bl.injEq, List.cons.injEq, and_true, true_and])
local macro_rules | `(tactic| walk_at "dl") => `(tactic| try walk_at "dl1")
local macro_rules | `(tactic| walk_at "go") => `(tactic| repeat' (first
  | (intro _)
  | walk_at "dl1"
  | (refine ⟨by first | decide | omega, ?_⟩)
  | split))
theorem psQ_nodup {ps : List (Int × Nat)} (nd : (ps.map (·.1)).Nodup) : ((psQ ps).map (·.1)).Nodup := by
  have e : (psQ ps).map (·.1) = ps.map (·.1) := by unfold psQ; rw [List.map_map]; rfl
  rw [e]; exact nd
theorem psQ_len (ps : List (Int × Nat)) : (psQ ps).length = ps.length := by unfold psQ; rw [List.length_map]
theorem psQ_flat {ps : List (Int × Nat)} : ∀ q ∈ psQ ps, flatR q.2 := fun q hq => by
  obtain ⟨p, _, rfl⟩ := List.mem_map.mp hq
  trivial
theorem qsD_rev (ps : List (Int × Nat)) : (qsD (psQ ps)).reverse = qsD (psQ ps.reverse) := by
  unfold qsD psQ
  rw [List.map_reverse, List.map_reverse]
def w_law05 (K : PySem.W.Frag) : WS :=
  (wSeq (wAsg 2 (wCall s_pairs (aC (wV 1) aN)))
    (wSeq (wAsgFD 3 (fCallD s_dict (aC (wV 2) aN)))
    (wSeq (wAsgCM 4 3 (s_PBag_counted K))
    (wSeq (wIfS (wOr (wNot (wTru (wCall (s_holds K) (aC (wV 4) (aC (wV 2) aN))))) (wNot (wTru (wCall (s_same 3) (aC (wItemsO 3) (aC (wV 2) aN)))))) (wRet (wC (.bl false))) wNx)
    (wSeq (wPutD 3 (wC (.int 7)) (wC (.int 5)))
    (wSeq (wAsg 5 (wCM (s_PBag_counted K) (aC (wCallN (sD s_dict) (aC (wLrev (wVP 2)) aN)) aN)))
    (wSeq (wIfS (wOr (wNot (wTru (wCall (s_ref5 K) (aC (wV 1) (aC (wV 2) aN))))) (wOr (wNot (wTru (wCall (s_holds K) (aC (wV 5) (aC (wV 2) aN))))) (wNot (wTru (wCall (s_holds K) (aC (wV 4) (aC (wV 2) aN))))))) (wRet (wC (.bl false))) wNx)
    (wRet (wAndV (wCall (s_same 3) (aC (wOp (dEqI (He.ga K "Bag") (s_PBag___eq__ K)) (wV 4) (wV 5)) (aC (wC (.bl true)) aN))) (wCall (s_holds K) (aC (wCM (s_PBag_counted K) (aC (wCallN (sD s_dict) (aC (wV 2) aN)) aN)) (aC (wV 2) aN))))))))))))
theorem o_law05 (K : PySem.W.Frag) : w_law05 K { nx := fun _ => False, rt := fun d => d = .bl true } (.un :: .dt .sto :: List.replicate 4 .un) := by
  unfold w_law05
  walk_at "dl"
  refine ⟨rfl, fun ps nd hl hm => ?_⟩
  have hp : flatP ps.reverse |>.Perm (flatP ps) := flatP_perm (List.reverse_perm ps)
  have es := srt_congr hp
  have ndr : (ps.reverse.map (·.1)).Nodup := ((List.reverse_perm ps).map _).nodup_iff.mpr nd
  have hmr : ∀ p ∈ ps.reverse, p.2 ≤ 100 := fun p h => hm p (List.mem_reverse.mp h)
  have lr : ps.reverse.length = ps.length := List.length_reverse
  have lq := psQ_len ps
  have lqr := psQ_len ps.reverse
  refine ⟨psQ ps, rfl, psQ_nodup nd, by omega, ?_⟩
  refine ⟨psQ ps, rfl, rfl, by omega, .inl ⟨ps, rfl, hm, ?_⟩⟩
  refine ⟨ps, rfl, nd, hl, hm, ?_⟩
  dsimp only
  rw [if_neg (by decide), items_qs]
  refine ⟨rfl, fl_qsD 0 psQ_flat, ?_⟩
  dsimp only
  rw [if_neg (by decide)]
  refine ⟨by rw [List.length_map]; omega, ?_⟩
  rw [qsD_rev]
  refine ⟨psQ ps.reverse, rfl, psQ_nodup ndr, by omega, ?_⟩
  refine ⟨psQ ps.reverse, rfl, rfl, by omega, .inl ⟨ps.reverse, rfl, hmr, ?_⟩⟩
  rw [es]
  refine ⟨ps, rfl, nd, hl, hm, ?_⟩
  dsimp only
  rw [if_neg (by decide)]
  refine ⟨ps, rfl, nd, hl, hm, ?_⟩
  dsimp only
  rw [if_neg (by decide)]
  refine ⟨ps, rfl, nd, hl, hm, ?_⟩
  dsimp only
  rw [if_neg (by decide)]
  refine ⟨⟨_, _, rfl⟩, rfl, srt (flatP ps), _, rfl, .inl ⟨srt (flatP ps), rfl, _, rfl, ?_⟩⟩
  refine ⟨congrArg DV.bl (decide_eq_true rfl), trivial, ?_⟩
  dsimp only
  rw [if_pos rfl]
  refine ⟨psQ ps, rfl, psQ_nodup nd, by omega, ?_⟩
  refine ⟨psQ ps, rfl, rfl, by omega, .inl ⟨ps, rfl, hm, ?_⟩⟩
  exact ⟨ps, rfl, nd, hl, hm, rfl⟩
end DL
namespace DL
open PySem PySem.Spec PyProof.Rows L2 NW
open C8 (tCut pss_cut)
structure Txt (K : PySem.W.Frag) (mg : Str → Option Value) : Prop where
  g_mix : mg "_law_mix" = some (.ref (He.ga K "_law_mix"))
  F_mix : ∃ fd, FunD K "_law_mix" "_law_mix" (defArgs q_mix) (defBody q_mix) (defScope q_mix) [] [] (He.ga K "_law_mix") fd
  g_take : mg "_law_take" = some (.ref (He.ga K "_law_take"))
  F_take : ∃ fd, FunD K "_law_take" "_law_take" (defArgs q_take) (defBody q_take) (defScope q_take) [] [] (He.ga K "_law_take") fd
  g_store : mg "_law_store" = some (.ref (He.ga K "_law_store"))
  F_store : ∃ fd, FunD K "_law_store" "_law_store" (defArgs q_store) (defBody q_store) (defScope q_store) [] [] (He.ga K "_law_store") fd
  g_same : mg "_law_same" = some (.ref (He.ga K "_law_same"))
  F_same : ∃ fd, FunD K "_law_same" "_law_same" (defArgs q_same) (defBody q_same) (defScope q_same) [] [] (He.ga K "_law_same") fd
  g_kinds : mg "_law_kinds" = some (.ref (He.ga K "_law_kinds"))
  F_kinds : ∃ fd, FunD K "_law_kinds" "_law_kinds" (defArgs q_kinds) (defBody q_kinds) (defScope q_kinds) [] [] (He.ga K "_law_kinds") fd
  g_edge : mg "_law_edge" = some (.ref (He.ga K "_law_edge"))
  F_edge : ∃ fd, FunD K "_law_edge" "_law_edge" (defArgs q_edge) (defBody q_edge) (defScope q_edge) [] [] (He.ga K "_law_edge") fd
  g_number : mg "_law_number" = some (.ref (He.ga K "_law_number"))
  F_number : ∃ fd, FunD K "_law_number" "_law_number" (defArgs q_number) (defBody q_number) (defScope q_number) [] [] (He.ga K "_law_number") fd
  g_pick : mg "_law_pick" = some (.ref (He.ga K "_law_pick"))
  F_pick : ∃ fd, FunD K "_law_pick" "_law_pick" (defArgs q_pick) (defBody q_pick) (defScope q_pick) [] [] (He.ga K "_law_pick") fd
  g_shuffled : mg "_law_shuffled" = some (.ref (He.ga K "_law_shuffled"))
  F_shuffled : ∃ fd, FunD K "_law_shuffled" "_law_shuffled" (defArgs q_shuffled) (defBody q_shuffled) (defScope q_shuffled) [] [] (He.ga K "_law_shuffled") fd
  g_not_integer : mg "_law_not_integer" = some (.ref (He.ga K "_law_not_integer"))
  F_not_integer : ∃ fd, FunD K "_law_not_integer" "_law_not_integer" (defArgs q_not_integer) (defBody q_not_integer) (defScope q_not_integer) [] [] (He.ga K "_law_not_integer") fd
  g_integer : mg "_law_integer" = some (.ref (He.ga K "_law_integer"))
  F_integer : ∃ fd, FunD K "_law_integer" "_law_integer" (defArgs q_integer) (defBody q_integer) (defScope q_integer) [] [] (He.ga K "_law_integer") fd
  g_integers : mg "_law_integers" = some (.ref (He.ga K "_law_integers"))
  F_integers : ∃ fd, FunD K "_law_integers" "_law_integers" (defArgs q_integers) (defBody q_integers) (defScope q_integers) [] [] (He.ga K "_law_integers") fd
  g_is_integer : mg "_law_is_integer" = some (.ref (He.ga K "_law_is_integer"))
  F_is_integer : ∃ fd, FunD K "_law_is_integer" "_law_is_integer" (defArgs q_is_integer) (defBody q_is_integer) (defScope q_is_integer) [] [] (He.ga K "_law_is_integer") fd
  g_pairs : mg "_law_pairs" = some (.ref (He.ga K "_law_pairs"))
  F_pairs : ∃ fd, FunD K "_law_pairs" "_law_pairs" (defArgs q_pairs) (defBody q_pairs) (defScope q_pairs) [] [] (He.ga K "_law_pairs") fd
  g_dict : mg "_law_dict" = some (.ref (He.ga K "_law_dict"))
  F_dict : ∃ fd, FunD K "_law_dict" "_law_dict" (defArgs q_dict) (defBody q_dict) (defScope q_dict) [] [] (He.ga K "_law_dict") fd
  g_Pis_number : mg "is_number" = some (.ref (He.ga K "is_number"))
  F_Pis_number : ∃ fd, FunD K "is_number" "is_number" (defArgs q_Pis_number) (defBody q_Pis_number) (defScope q_Pis_number) [] [] (He.ga K "is_number") fd
  g_holds : mg "_law_holds" = some (.ref (He.ga K "_law_holds"))
  F_holds : ∃ fd, FunD K "_law_holds" "_law_holds" (defArgs q_holds) (defBody q_holds) (defScope q_holds) [] [] (He.ga K "_law_holds") fd
  g_refuses : mg "_law_refuses" = some (.ref (He.ga K "_law_refuses"))
  F_refuses : ∃ fd, FunD K "_law_refuses" "_law_refuses" (defArgs q_refuses) (defBody q_refuses) (defScope q_refuses) [] [] (He.ga K "_law_refuses") fd
  g_law : mg "law" = some (.ref (He.ga K "law"))
  F_law : ∃ fd, FunD K "law" "law" (defArgs q_law) (defBody q_law) (defScope q_law) [] [] (He.ga K "law") fd
  z_ValueError : mg "ValueError" = none
  z_abs : mg "abs" = none
  z_bool : mg "bool" = none
  z_dict : mg "dict" = none
  z_int : mg "int" = none
  z_isinstance : mg "isinstance" = none
  z_len : mg "len" = none
  z_list : mg "list" = none
  z_max : mg "max" = none
  z_min : mg "min" = none
  z_range : mg "range" = none
  z_reversed : mg "reversed" = none
  z_set : mg "set" = none
  z_sorted : mg "sorted" = none
  z_str : mg "str" = none
  z_sum : mg "sum" = none
  z_tuple : mg "tuple" = none
  k_MOST_TIMES : ∃ t, mg "MOST_TIMES" = some (.int 100 t)
  c_BadClaim : mg "BadClaim" = some (.ref (He.ga K "BadClaim"))
  c_BadCount : mg "BadCount" = some (.ref (He.ga K "BadCount"))
  c_BadName : mg "BadName" = some (.ref (He.ga K "BadName"))
  c_BadNumber : mg "BadNumber" = some (.ref (He.ga K "BadNumber"))
  c_BadOrder : mg "BadOrder" = some (.ref (He.ga K "BadOrder"))
  c_BadText : mg "BadText" = some (.ref (He.ga K "BadText"))
  c_BadWeight : mg "BadWeight" = some (.ref (He.ga K "BadWeight"))
  c_BadWish : mg "BadWish" = some (.ref (He.ga K "BadWish"))
  c_Bag : mg "Bag" = some (.ref (He.ga K "Bag"))
  c_Broken : mg "Broken" = some (.ref (He.ga K "Broken"))
  c_Clash : mg "Clash" = some (.ref (He.ga K "Clash"))
  c_Idle : mg "Idle" = some (.ref (He.ga K "Idle"))
  c_Inside : mg "Inside" = some (.ref (He.ga K "Inside"))
  c_Loop : mg "Loop" = some (.ref (He.ga K "Loop"))
  c_Nailed : mg "Nailed" = some (.ref (He.ga K "Nailed"))
  c_NestError : mg "NestError" = some (.ref (He.ga K "NestError"))
  c_NoChange : mg "NoChange" = some (.ref (He.ga K "NoChange"))
  c_NoHolder : mg "NoHolder" = some (.ref (He.ga K "NoHolder"))
  c_NoStory : mg "NoStory" = some (.ref (He.ga K "NoStory"))
  c_NotComing : mg "NotComing" = some (.ref (He.ga K "NotComing"))
  c_NotEmpty : mg "NotEmpty" = some (.ref (He.ga K "NotEmpty"))
  c_NothingDone : mg "NothingDone" = some (.ref (He.ga K "NothingDone"))
  c_OrderRefused : mg "OrderRefused" = some (.ref (He.ga K "OrderRefused"))
  c_OtherDoors : mg "OtherDoors" = some (.ref (He.ga K "OtherDoors"))
  c_OtherYard : mg "OtherYard" = some (.ref (He.ga K "OtherYard"))
  c_OutOfSteps : mg "OutOfSteps" = some (.ref (He.ga K "OutOfSteps"))
  c_Refusal : mg "Refusal" = some (.ref (He.ga K "Refusal"))
  c_Same : mg "Same" = some (.ref (He.ga K "Same"))
  c_Sealed : mg "Sealed" = some (.ref (He.ga K "Sealed"))
  c_Short : mg "Short" = some (.ref (He.ga K "Short"))
  c_TooMany : mg "TooMany" = some (.ref (He.ga K "TooMany"))
  c_Twice : mg "Twice" = some (.ref (He.ga K "Twice"))
  c_Unbalanced : mg "Unbalanced" = some (.ref (He.ga K "Unbalanced"))
  c_Unknown : mg "Unknown" = some (.ref (He.ga K "Unknown"))
  c_Unlike : mg "Unlike" = some (.ref (He.ga K "Unlike"))
  dig : digK K = true
  e_BadNumber : ErrN K (He.ga K "BadNumber") "BadNumber.__init__" ["number"] (defArgs q_BadNumber) (defBody q_BadNumber) (defScope q_BadNumber)
  errs : Errs K ((["BadNumber"] : List PySem.Str))
  flds : ∀ p ∈ (([("BadNumber", "number")] : List (PySem.Str × PySem.Str))), PySem.W.findIn K (.ref (He.ga K p.1)) p.2 = some none
  cl_Bag : Cls K (He.ga K "Bag")
  na_Bag__items : NoAttr K (He.ga K "Bag") "_items"
  na_Bag__table : NoAttr K (He.ga K "Bag") "_table"
  ci_Bag : CInst K (He.ga K "Bag")
  nf_Bag : NFs K (He.ga K "Bag")
  ktu_Bag : KTu K (He.dflAt ("Bag", some "__init__") 0 K)
  FI_Bag : ∃ f fd, Mk K (He.ga K "Bag") f ∧ FunD K "__init__" "Bag.__init__" (defArgs q_PBag___init__) (defBody q_PBag___init__) (defScope q_PBag___init__) [.ref (He.dflAt ("Bag", some "__init__") 0 K)] [] f fd
  FP_Bag_numbers : ∃ p g fd, PropOf K (He.ga K "Bag") "numbers" p g ∧ FunD K "numbers" "Bag.numbers" (defArgs q_PBag_numbers) (defBody q_PBag_numbers) (defScope q_PBag_numbers) [] [] g fd
  FP_Bag_total : ∃ p g fd, PropOf K (He.ga K "Bag") "total" p g ∧ FunD K "total" "Bag.total" (defArgs q_PBag_total) (defBody q_PBag_total) (defScope q_PBag_total) [] [] g fd
  FM_Bag_times : ∃ f fd, Meth K (He.ga K "Bag") "times" f ∧ FunD K "times" "Bag.times" (defArgs q_PBag_times) (defBody q_PBag_times) (defScope q_PBag_times) [] [] f fd
  FM_Bag_table : ∃ f fd, Meth K (He.ga K "Bag") "table" f ∧ FunD K "table" "Bag.table" (defArgs q_PBag_table) (defBody q_PBag_table) (defScope q_PBag_table) [] [] f fd
  FM_Bag___len__ : ∃ f fd, Meth K (He.ga K "Bag") "__len__" f ∧ FunD K "__len__" "Bag.__len__" (defArgs q_PBag___len__) (defBody q_PBag___len__) (defScope q_PBag___len__) [] [] f fd
  FM_Bag___contains__ : ∃ f fd, Meth K (He.ga K "Bag") "__contains__" f ∧ FunD K "__contains__" "Bag.__contains__" (defArgs q_PBag___contains__) (defBody q_PBag___contains__) (defScope q_PBag___contains__) [] [] f fd
  FM_Bag___eq__ : ∃ f fd, Meth K (He.ga K "Bag") "__eq__" f ∧ FunD K "__eq__" "Bag.__eq__" (defArgs q_PBag___eq__) (defBody q_PBag___eq__) (defScope q_PBag___eq__) [] [] f fd
  FC_Bag_counted : ∃ mc p g fd, ClX.CRead K (He.ga K "Bag") mc ∧ ClX.CMet K (He.ga K "Bag") mc "counted" p g ∧ FunD K "counted" "Bag.counted" (defArgs q_PBag_counted) (defBody q_PBag_counted) (defScope q_PBag_counted) [] [] g fd
section
variable {P : Program} {w : World} {K : PySem.W.Frag} {mg : Str → Option Value} {base : Heap} {p : Addr × Obj}
theorem LN (T : Txt K mg) {L : List Str} (h : ∀ c ∈ L, c ∈ ((["BadNumber"] : List PySem.Str)) := by decide +kernel) : ∀ cn ∈ L, PySem.W.exmOne K (.ref (He.ga K cn)) (.ref (He.ga K "NestError")) = some true := fun cn z => (T.errs.f cn (h cn z)).nest
theorem LE (T : Txt K mg) {L : List Str} (h : ∀ c ∈ L, c ∈ ((["BadNumber"] : List PySem.Str)) := by decide +kernel) : Errs K L := ⟨fun c z => T.errs.f c (h c z)⟩
theorem LSa : ∀ c ∈ ((["BadNumber"] : List PySem.Str)), ((kindsAll (inL (kindsOf c))).filter (·.2)).map (·.1) = kindsOf c ∧ (kindsOf c).length ≤ 100 := by decide +kernel
theorem LS {L : List Str} (h : ∀ c ∈ L, c ∈ ((["BadNumber"] : List PySem.Str)) := by decide +kernel) : ∀ c ∈ L, sel (kindsAll (inL (kindsOf c))) = (kindsOf c).map V.str ∧ (kindsOf c).length ≤ 100 := fun c z => by
  obtain ⟨e, l⟩ := LSa c (h c z)
  refine ⟨?_, l⟩
  have y := congrArg (List.map V.str) e
  rw [List.map_map] at y
  exact y
theorem LX (T : Txt K mg) {L : List (Str × Str)} (h : ∀ c ∈ L, c ∈ (([("BadNumber", "number")] : List (PySem.Str × PySem.Str))) ∧ c.1 ∈ ((["BadNumber"] : List PySem.Str)) := by decide +kernel) : ∀ c ∈ L, XfC K (He.ga K c.1) ∧ PySem.W.findIn K (.ref (He.ga K c.1)) c.2 = some none := fun c z => ⟨(T.errs.f c.1 (h c z).2).xf, T.flds c (h c z).1⟩
theorem sc_BadNumber : FnScope (["self", "number"] : List Str) (["self", "number"] : List Str) (defScope q_BadNumber) := ⟨rfl, rfl, rfl, by decide +kernel, rfl, by decide +kernel, by decide +kernel⟩
theorem i1_BadNumber (T : Txt K mg) : InitOk P w K mg base (He.ga K "BadNumber") 1 (["self", "number"] : List Str) (sp_init1 K (He.ga K "BadNumber") "number") :=
  init1 ⟨T.e_BadNumber.o, T.e_BadNumber.n "number" List.mem_cons_self, T.e_BadNumber.ex⟩ sc_BadNumber (fun _ _ _ _ _ _ us hl => match us, hl with | [_, _], _ => rfl) (fun _ _ _ _ _ _ _ => pss_one (ps_ost (pv 0) (pv 1)))
theorem sc_mix : FnScope ["seed", "turn", "one", "two"] ["seed", "turn"] (defScope q_mix) := ⟨rfl, rfl, rfl, by decide +kernel, rfl, by decide +kernel, by decide +kernel⟩
theorem h_mix (T : Txt K mg) : Has P w K mg base "_law_mix" 1 ["seed", "turn"] sp_mix := by
  refine has_of (N := ["seed", "turn", "one", "two"]) (k := 0) (t := t_mix K) T.g_mix T.F_mix sc_mix NW.l_mix (fun _ _ _ _ _ _ us hl => match us, hl with | [_, _], _ => rfl) (fun cdv A outer s H E hr => ?_) (p_mix K)
  exact (pss_cons (ps_set (i := 2) sc_mix.nd rfl (Or.inl rfl) (pe_op oMod (pe_op oAdd (pe_op oAdd (pe_op oMul (pe_callTy cInt (by rfl) T.z_int (by decide +kernel) (pa_cons (pv 0) pa_nil)) pe_int) (pe_op oMul (pe_callTy cInt (by rfl) T.z_int (by decide +kernel) (pa_cons (pv 1) pa_nil)) pe_int)) pe_int) pe_int))
    (pss_cons (ps_set (i := 3) sc_mix.nd rfl (Or.inl rfl) (pe_op oMod (pe_op oAdd (pe_op oAdd (pe_op oAdd (pe_op oMul (pv 2) (pv 2)) (pv 2)) (pe_callTy cInt (by rfl) T.z_int (by decide +kernel) (pa_cons (pv 0) pa_nil))) (pe_callTy cInt (by rfl) T.z_int (by decide +kernel) (pa_cons (pv 1) pa_nil))) pe_int))
    (pss_one (ps_ret (pe_op oMod (pe_op oAdd (pe_op oAdd (pe_op oMul (pv 3) (pv 3)) (pe_op oMul pe_int (pv 3))) (pv 2)) pe_int)))))
theorem sc_take : FnScope ["store", "many", "cell", "digits", "number", "room", "k"] ["store", "many"] (defScope q_take) := ⟨rfl, rfl, rfl, by decide +kernel, rfl, by decide +kernel, by decide +kernel⟩
theorem h0_take (T : Txt K mg) : Has P w K mg base "_law_take" 2 ["store", "many"] sp_take := by
  refine has_of (N := ["store", "many", "cell", "digits", "number", "room", "k"]) (k := 1) (t := t_take K) T.g_take T.F_take sc_take NW.l_take (fun _ _ _ _ _ _ us hl => match us, hl with | [_, _], _ => rfl) (fun cdv A outer s H E hr => ?_) (p_take K)
  exact (pss_cons (ps_if (pt_cmpR oLt (pv 1) pe_int (nomark _)) (pss_one (ps_ret pe_int)) pss_nil)
    (pss_cut (ps_if (pw_and (pt_cmpR oEq (pe_ix oIx (pv 0) pe_int (fun _ _ => rfl)) pe_int (nomark _)) (pw_and (pt_cmpR oEq (pe_ix oIx (pv 0) pe_int (fun _ _ => rfl)) pe_int (nomark _)) (pw_and1 (pt_cmpR oLt (pe_ix oIx (pv 0) pe_int (fun _ _ => rfl)) (pe_callB cLen (by rfl) T.z_len (by decide +kernel) (pa_cons (pe_ix oIx (pv 0) pe_int (fun _ _ => rfl)) pa_nil)) (nomark _))))).pt (pss_cons (ps_set (i := 2) sc_take.nd rfl (Or.inl rfl) (pe_callTy cInt (by rfl) T.z_int (by decide +kernel) (pa_cons (pe_ix oIx (pe_ix oIx (pv 0) pe_int (fun _ _ => rfl)) (pe_ix oIx (pv 0) pe_int (fun _ _ => rfl)) (fun _ _ => rfl)) pa_nil)))
    (pss_cons (ps_augS (pv 0) pe_int getL pe_int ioAdd oSet)
    (pss_cons (ps_asg (pe_op oMod (pe_callTy cInt (by rfl) T.z_int (by decide +kernel) (pa_cons (pe_op oAdd (pe_op oMul (pe_ix oIx (pv 0) pe_int (fun _ _ => rfl)) pe_int) (pv 2)) pa_nil)) pe_int) (pg_sub (pv 0) pe_int oSet))
    (pss_one (ps_if (pt_cmpR oGe (pe_callB call_abs (by rfl) T.z_abs (by decide +kernel) (pa_cons (pv 2) pa_nil)) (pe_powc pe_int pe_int 1000000000000000000 (by decide +kernel)) (nomark _)) (pss_one (ps_asg (pe_callB call_abs (by rfl) T.z_abs (by decide +kernel) (pa_cons (pv 2) pa_nil)) (pg_sub (pv 0) pe_int oSet))) (pss_one (ps_asg pe_int (pg_sub (pv 0) pe_int oSet)))))))) pss_nil)
    (pss_cons (ps_augS (pv 0) pe_int getL pe_int ioAdd oSet)
    (pss_cons (ps_if (pt_cmpR oGt (pe_ix oIx (pv 0) pe_int (fun _ _ => rfl)) pe_int (nomark _)) (pss_cons (ps_set (i := 3) sc_take.nd rfl (Or.inl rfl) (pe_callTy cInt (by rfl) T.z_int (by decide +kernel) (pa_cons (pe_ix oIx (pv 0) pe_int (fun _ _ => rfl)) pa_nil)))
    (pss_cons (ps_asg (pe_op oDiv (pv 3) (pv 1)) (pg_sub (pv 0) pe_int oSet))
    (pss_one (ps_ret (pe_op oMod (pv 3) (pv 1)))))) pss_nil)
    (pss_cons (ps_asg (pe_callB (call_max2 rfl) (by rfl) T.z_max (by decide +kernel) (pa_cons pe_int (pa_cons (pe_op oSub (pe_ix oIx (pv 0) pe_int (fun _ _ => rfl)) pe_int) pa_nil))) (pg_sub (pv 0) pe_int oSet))
    (pss_cons (ps_set (i := 4) sc_take.nd rfl (Or.inl rfl) pe_int)
    (pss_cons (ps_set (i := 5) sc_take.nd rfl (Or.inl rfl) pe_int)
    (pss_cons (ps_for PassesOwn.never rfl (pi_range1 (by rfl) T.z_range (pa_cons pe_int pa_nil)) (pg_name (i := 6) sc_take.nd rfl (Or.inl rfl)) (pss_cons (ps_if (pt_cmpR oGe (pv 5) (pv 1) (nomark _)) (pss_one ps_break) pss_nil)
    (pss_cons (ps_set (i := 4) sc_take.nd rfl (Or.inl rfl) (pe_op oAdd (pe_op oMul (pv 4) pe_int) (pe_dc (h_mix T) hr (pa_cons (pe_ix oIx (pv 0) pe_int (fun _ _ => rfl)) (pa_cons (pe_op oAdd (pe_ix oIx (pv 0) pe_int (fun _ _ => rfl)) (pe_op oMul pe_int (pv 6))) pa_nil)))))
    (pss_one (ps_set (i := 5) sc_take.nd rfl (Or.inl rfl) (pe_op oMul (pv 5) pe_int))))))
    (pss_one (ps_ret (pe_op oMod (pe_callTy cInt (by rfl) T.z_int (by decide +kernel) (pa_cons (pv 4) pa_nil)) (pv 1))))))))))))
theorem h_take (T : Txt K mg) : Has P w K mg base "_law_take" 2 ["store", "many"] (dsp s_take) := Has.weak (h0_take T) take_weak
theorem sc_store : FnScope ["script"] ["script"] (defScope q_store) := ⟨rfl, rfl, rfl, by decide +kernel, rfl, by decide +kernel, by decide +kernel⟩
theorem h_store (T : Txt K mg) : Has P w K mg base "_law_store" 1 ["script"] (sp_store K) := by
  refine has_of (N := ["script"]) (k := 0) (t := t_store K) T.g_store T.F_store sc_store (l_store K) (fun _ _ _ _ _ _ us hl => match us, hl with | [_], _ => rfl) (fun cdv A outer s H E hr => ?_) (p_store K)
  exact (pss_one (ps_ret (pe_lst (pa_cons (pe_callTy cList (by rfl) T.z_list (by decide +kernel) (pa_cons (pv 0) pa_nil)) (pa_cons pe_int (pa_cons pe_int (pa_cons pe_int (pa_cons pe_int (pa_cons pe_int pa_nil)))))))))
theorem sc_same : FnScope ["one", "other", "k"] ["one", "other"] (defScope q_same) := ⟨rfl, rfl, rfl, by decide +kernel, rfl, by decide +kernel, by decide +kernel⟩
theorem h0_same (T : Txt K mg) : ∀ n, Has P w K mg base "_law_same" n ["one", "other"] (sp_same n)
  | 0 => has0 T.g_same T.F_same (fun _ _ _ _ _ _ us hl => match us, hl with | [_, _], _ => rfl) (fun _ _ _ _ h => h)
  | n + 1 => by
    have ih : Has P w K mg base "_law_same" n ["one", "other"] (sp_same n) := h0_same T n
    refine has_of (N := ["one", "other", "k"]) (k := n) (t := t_same K n) T.g_same T.F_same sc_same (NW.l_same (n + 1)) (fun _ _ _ _ _ _ us hl => match us, hl with | [_, _], _ => rfl) (fun cdv A outer s H E hr => ?_) (p_same K n)
    exact (pss_cons (ps_if (pw_or (pt_cmp (pc_isN (pv 0))) (pw_or1 (pt_cmp (pc_isN (pv 1))))).pt (pss_one (ps_ret (pe_and (pe_cmp (pc_isN (pv 0))) (pe_one (pe_cmp (pc_isN (pv 1))))))) pss_nil)
    (pss_cons (ps_if (pw_or (pt_truth (pe_callB cIsi (by rfl) T.z_isinstance (by decide +kernel) (pa_cons (pv 0) (pa_cons (pe_bltn (v := .ty "bool") (u := .type "bool") (by rfl) T.z_bool (by rfl) (by rfl)) pa_nil))) (fun _ => rfl)) (pw_or1 (pt_truth (pe_callB cIsi (by rfl) T.z_isinstance (by decide +kernel) (pa_cons (pv 1) (pa_cons (pe_bltn (v := .ty "bool") (u := .type "bool") (by rfl) T.z_bool (by rfl) (by rfl)) pa_nil))) (fun _ => rfl)))).pt (pss_one (ps_ret (pe_and (pe_callB cIsi (by rfl) T.z_isinstance (by decide +kernel) (pa_cons (pv 0) (pa_cons (pe_bltn (v := .ty "bool") (u := .type "bool") (by rfl) T.z_bool (by rfl) (by rfl)) pa_nil))) (pe_and (pe_callB cIsi (by rfl) T.z_isinstance (by decide +kernel) (pa_cons (pv 1) (pa_cons (pe_bltn (v := .ty "bool") (u := .type "bool") (by rfl) T.z_bool (by rfl) (by rfl)) pa_nil))) (pe_one (pe_cmpR oEq (pv 0) (pv 1) (nomark _))))))) pss_nil)
    (pss_cons (ps_if (pt_truth (pe_callB cIsi (by rfl) T.z_isinstance (by decide +kernel) (pa_cons (pv 0) (pa_cons (pe_bltn (v := .ty "int") (u := .type "int") (by rfl) T.z_int (by rfl) (by rfl)) pa_nil))) (fun _ => rfl)) (pss_one (ps_ret (pe_and (pe_callB cIsi (by rfl) T.z_isinstance (by decide +kernel) (pa_cons (pv 1) (pa_cons (pe_bltn (v := .ty "int") (u := .type "int") (by rfl) T.z_int (by rfl) (by rfl)) pa_nil))) (pe_one (pe_cmpR oEq (pv 0) (pv 1) (nomark _)))))) pss_nil)
    (pss_cons (ps_if (pt_truth (pe_callB cIsi (by rfl) T.z_isinstance (by decide +kernel) (pa_cons (pv 0) (pa_cons (pe_bltn (v := .ty "str") (u := .type "str") (by rfl) T.z_str (by rfl) (by rfl)) pa_nil))) (fun _ => rfl)) (pss_one (ps_ret (pe_and (pe_callB cIsi (by rfl) T.z_isinstance (by decide +kernel) (pa_cons (pv 1) (pa_cons (pe_bltn (v := .ty "str") (u := .type "str") (by rfl) T.z_str (by rfl) (by rfl)) pa_nil))) (pe_one (pe_cmpR oEq (pv 0) (pv 1) (nomark _)))))) pss_nil)
    (pss_cons (ps_if (pt_truth (pe_callB cIsi (by rfl) T.z_isinstance (by decide +kernel) (pa_cons (pv 0) (pa_cons (pe_bltn (v := .ty "dict") (u := .type "dict") (by rfl) T.z_dict (by rfl) (by rfl)) pa_nil))) (fun _ => rfl)) pss_never pss_nil)
    (pss_cons (ps_if (pw_and (pt_truth (pe_callB cIsi (by rfl) T.z_isinstance (by decide +kernel) (pa_cons (pv 0) (pa_cons (pe_bltn (v := .ty "list") (u := .type "list") (by rfl) T.z_list (by rfl) (by rfl)) pa_nil))) (fun _ => rfl)) (pw_and1 (pt_not (pt_truth (pe_callB cIsi (by rfl) T.z_isinstance (by decide +kernel) (pa_cons (pv 1) (pa_cons (pe_bltn (v := .ty "list") (u := .type "list") (by rfl) T.z_list (by rfl) (by rfl)) pa_nil))) (fun _ => rfl))))).pt (pss_one (ps_ret pe_bl)) pss_nil)
    (pss_cons (ps_if (pw_and (pt_truth (pe_callB cIsi (by rfl) T.z_isinstance (by decide +kernel) (pa_cons (pv 0) (pa_cons (pe_bltn (v := .ty "tuple") (u := .type "tuple") (by rfl) T.z_tuple (by rfl) (by rfl)) pa_nil))) (fun _ => rfl)) (pw_and1 (pt_not (pt_truth (pe_callB cIsi (by rfl) T.z_isinstance (by decide +kernel) (pa_cons (pv 1) (pa_cons (pe_bltn (v := .ty "tuple") (u := .type "tuple") (by rfl) T.z_tuple (by rfl) (by rfl)) pa_nil))) (fun _ => rfl))))).pt (pss_one (ps_ret pe_bl)) pss_nil)
    (pss_cons (ps_if (pw_or (pt_not (pt_truth (pe_callB cIsi (by rfl) T.z_isinstance (by decide +kernel) (pa_cons (pv 0) (pa_cons (pe_tup (pa_cons (pe_bltn (v := .ty "list") (u := .type "list") (by rfl) T.z_list (by rfl) (by rfl)) (pa_cons (pe_bltn (v := .ty "tuple") (u := .type "tuple") (by rfl) T.z_tuple (by rfl) (by rfl)) pa_nil))) pa_nil))) (fun _ => rfl))) (pw_or1 (pt_cmpR oNe (pe_callB cLen (by rfl) T.z_len (by decide +kernel) (pa_cons (pv 0) pa_nil)) (pe_callB cLen (by rfl) T.z_len (by decide +kernel) (pa_cons (pv 1) pa_nil)) (nomark _)))).pt (pss_one (ps_ret pe_bl)) pss_nil)
    (pss_cons (ps_for PassesOwn.never rfl (pi_range1 (by rfl) T.z_range (pa_cons (pe_callB cLen (by rfl) T.z_len (by decide +kernel) (pa_cons (pv 0) pa_nil)) pa_nil)) (pg_name (i := 2) sc_same.nd rfl (Or.inl rfl)) (pss_one (ps_if (pt_not (pt_truth (pe_dc ih hr (pa_cons (pe_ix oIx (pv 0) (pv 2) (fun _ _ => rfl)) (pa_cons (pe_ix oIx (pv 1) (pv 2) (fun _ _ => rfl)) pa_nil)) (Nat.le_refl _)) (fun _ => rfl))) (pss_one (ps_ret pe_bl)) pss_nil)))
    (pss_one (ps_ret pe_bl)))))))))))
theorem hh0_same (T : Txt K mg) : ∀ n, HasH P w K mg base p "_law_same" n ["one", "other"] (sp_same n)
  | 0 => hasH0 T.g_same T.F_same (fun _ _ _ _ _ _ us hl => match us, hl with | [_, _], _ => rfl) (fun _ _ _ _ h => h)
  | n + 1 => by
    have ih : HasH P w K mg base p "_law_same" n ["one", "other"] (sp_same n) := hh0_same T n
    refine hasH_of (N := ["one", "other", "k"]) (k := n) (t := t_same K n) T.g_same T.F_same sc_same (NW.l_same (n + 1)) (fun _ _ _ _ _ _ us hl => match us, hl with | [_, _], _ => rfl) (fun cdv A outer s H hr hp => ?_) (p_same K n)
    exact (pss_cons (ps_if (pw_or (pt_cmp (pc_isN (pv 0))) (pw_or1 (pt_cmp (pc_isN (pv 1))))).pt (pss_one (ps_ret (pe_and (pe_cmp (pc_isN (pv 0))) (pe_one (pe_cmp (pc_isN (pv 1))))))) pss_nil)
    (pss_cons (ps_if (pw_or (pt_truth (pe_callB cIsi (by rfl) T.z_isinstance (by decide +kernel) (pa_cons (pv 0) (pa_cons (pe_bltn (v := .ty "bool") (u := .type "bool") (by rfl) T.z_bool (by rfl) (by rfl)) pa_nil))) (fun _ => rfl)) (pw_or1 (pt_truth (pe_callB cIsi (by rfl) T.z_isinstance (by decide +kernel) (pa_cons (pv 1) (pa_cons (pe_bltn (v := .ty "bool") (u := .type "bool") (by rfl) T.z_bool (by rfl) (by rfl)) pa_nil))) (fun _ => rfl)))).pt (pss_one (ps_ret (pe_and (pe_callB cIsi (by rfl) T.z_isinstance (by decide +kernel) (pa_cons (pv 0) (pa_cons (pe_bltn (v := .ty "bool") (u := .type "bool") (by rfl) T.z_bool (by rfl) (by rfl)) pa_nil))) (pe_and (pe_callB cIsi (by rfl) T.z_isinstance (by decide +kernel) (pa_cons (pv 1) (pa_cons (pe_bltn (v := .ty "bool") (u := .type "bool") (by rfl) T.z_bool (by rfl) (by rfl)) pa_nil))) (pe_one (pe_cmpR oEq (pv 0) (pv 1) (nomark _))))))) pss_nil)
    (pss_cons (ps_if (pt_truth (pe_callB cIsi (by rfl) T.z_isinstance (by decide +kernel) (pa_cons (pv 0) (pa_cons (pe_bltn (v := .ty "int") (u := .type "int") (by rfl) T.z_int (by rfl) (by rfl)) pa_nil))) (fun _ => rfl)) (pss_one (ps_ret (pe_and (pe_callB cIsi (by rfl) T.z_isinstance (by decide +kernel) (pa_cons (pv 1) (pa_cons (pe_bltn (v := .ty "int") (u := .type "int") (by rfl) T.z_int (by rfl) (by rfl)) pa_nil))) (pe_one (pe_cmpR oEq (pv 0) (pv 1) (nomark _)))))) pss_nil)
    (pss_cons (ps_if (pt_truth (pe_callB cIsi (by rfl) T.z_isinstance (by decide +kernel) (pa_cons (pv 0) (pa_cons (pe_bltn (v := .ty "str") (u := .type "str") (by rfl) T.z_str (by rfl) (by rfl)) pa_nil))) (fun _ => rfl)) (pss_one (ps_ret (pe_and (pe_callB cIsi (by rfl) T.z_isinstance (by decide +kernel) (pa_cons (pv 1) (pa_cons (pe_bltn (v := .ty "str") (u := .type "str") (by rfl) T.z_str (by rfl) (by rfl)) pa_nil))) (pe_one (pe_cmpR oEq (pv 0) (pv 1) (nomark _)))))) pss_nil)
    (pss_cons (ps_if (pt_truth (pe_callB cIsi (by rfl) T.z_isinstance (by decide +kernel) (pa_cons (pv 0) (pa_cons (pe_bltn (v := .ty "dict") (u := .type "dict") (by rfl) T.z_dict (by rfl) (by rfl)) pa_nil))) (fun _ => rfl)) pss_never pss_nil)
    (pss_cons (ps_if (pw_and (pt_truth (pe_callB cIsi (by rfl) T.z_isinstance (by decide +kernel) (pa_cons (pv 0) (pa_cons (pe_bltn (v := .ty "list") (u := .type "list") (by rfl) T.z_list (by rfl) (by rfl)) pa_nil))) (fun _ => rfl)) (pw_and1 (pt_not (pt_truth (pe_callB cIsi (by rfl) T.z_isinstance (by decide +kernel) (pa_cons (pv 1) (pa_cons (pe_bltn (v := .ty "list") (u := .type "list") (by rfl) T.z_list (by rfl) (by rfl)) pa_nil))) (fun _ => rfl))))).pt (pss_one (ps_ret pe_bl)) pss_nil)
    (pss_cons (ps_if (pw_and (pt_truth (pe_callB cIsi (by rfl) T.z_isinstance (by decide +kernel) (pa_cons (pv 0) (pa_cons (pe_bltn (v := .ty "tuple") (u := .type "tuple") (by rfl) T.z_tuple (by rfl) (by rfl)) pa_nil))) (fun _ => rfl)) (pw_and1 (pt_not (pt_truth (pe_callB cIsi (by rfl) T.z_isinstance (by decide +kernel) (pa_cons (pv 1) (pa_cons (pe_bltn (v := .ty "tuple") (u := .type "tuple") (by rfl) T.z_tuple (by rfl) (by rfl)) pa_nil))) (fun _ => rfl))))).pt (pss_one (ps_ret pe_bl)) pss_nil)
    (pss_cons (ps_if (pw_or (pt_not (pt_truth (pe_callB cIsi (by rfl) T.z_isinstance (by decide +kernel) (pa_cons (pv 0) (pa_cons (pe_tup (pa_cons (pe_bltn (v := .ty "list") (u := .type "list") (by rfl) T.z_list (by rfl) (by rfl)) (pa_cons (pe_bltn (v := .ty "tuple") (u := .type "tuple") (by rfl) T.z_tuple (by rfl) (by rfl)) pa_nil))) pa_nil))) (fun _ => rfl))) (pw_or1 (pt_cmpR oNe (pe_callB cLen (by rfl) T.z_len (by decide +kernel) (pa_cons (pv 0) pa_nil)) (pe_callB cLen (by rfl) T.z_len (by decide +kernel) (pa_cons (pv 1) pa_nil)) (nomark _)))).pt (pss_one (ps_ret pe_bl)) pss_nil)
    (pss_cons (L2H.ps_forH PassesOwn.never hp.c (L2H.pi_range1H (by rfl) T.z_range (pa_cons (pe_callB cLen (by rfl) T.z_len (by decide +kernel) (pa_cons (pv 0) pa_nil)) pa_nil)) (pg_name (i := 2) sc_same.nd rfl (Or.inl rfl)) (pss_one (ps_if (pt_not (pt_truth (pe_hc ih hr hp (pa_cons (pe_ix oIx (pv 0) (pv 2) (fun _ _ => rfl)) (pa_cons (pe_ix oIx (pv 1) (pv 2) (fun _ _ => rfl)) pa_nil)) (Nat.le_refl _)) (fun _ => rfl))) (pss_one (ps_ret pe_bl)) pss_nil)))
    (pss_one (ps_ret pe_bl)))))))))))
theorem h_same (T : Txt K mg) : ∀ n, Has P w K mg base "_law_same" (n + 1) ["one", "other"] (dsp (s_same (n + 1))) := fun n => Has.weak (h0_same T (n + 1)) (same_weak n)
theorem hh_same (T : Txt K mg) : ∀ n, HasH P w K mg base p "_law_same" (n + 1) ["one", "other"] (dsp (s_same (n + 1))) := fun n => HasH.weak (hh0_same T (n + 1)) (same_weak n)
theorem sc_kinds : FnScope ["error", "rows", "row"] ["error"] (defScope q_kinds) := ⟨rfl, rfl, rfl, by decide +kernel, rfl, by decide +kernel, by decide +kernel⟩
theorem hh_kinds (T : Txt K mg) {E : Addr} {d : Option Addr} {b : Str → Bool} (F : KitF K E b) (F1 : ExcC K E) (F2 : Zc (.ref E) d p.2) (F3 : ∃ vs, p.2.data = .fields vs) : HasH P w K mg base p "_law_kinds" 1 ["error"] (sp_kindF E p.1 d b) := by
  refine hasH_of (N := ["error", "rows", "row"]) (k := 0) (t := (t_kinds K E p.1 d)) T.g_kinds T.F_kinds sc_kinds (l_kindF E p.1 d b) (fun _ _ _ _ _ _ us hl => match us, hl with | [_], _ => rfl) (fun cdv A outer s H hr hp => ?_) (fun vs H Q X => p_kindF K E p.1 d b F vs H Q X)
  exact (pss_cons (ps_set (i := 1) sc_kinds.nd rfl (Or.inl rfl) (pe_lst (pa_cons (pe_tup (pa_cons pe_str (pa_cons (pe_callB (call_isP F1 hp.mem F2 F3) (by rfl) T.z_isinstance (by decide +kernel) (pa_cons (pv 0) (pa_cons (pe_bltn (v := .ty "ValueError") (u := .type "ValueError") (by rfl) T.z_ValueError (by rfl) (by rfl)) pa_nil))) pa_nil))) (pa_cons (pe_tup (pa_cons pe_str (pa_cons (pe_callB (call_isP F1 hp.mem F2 F3) (by rfl) T.z_isinstance (by decide +kernel) (pa_cons (pv 0) (pa_cons (pe_glob (by rfl) T.c_NestError (by rfl)) pa_nil))) pa_nil))) pa_nil))))
    (pss_cons (ps_set (i := 1) sc_kinds.nd rfl (Or.inl rfl) (pe_op oAdd (pv 1) (pe_lst (pa_cons (pe_tup (pa_cons pe_str (pa_cons (pe_callB (call_isP F1 hp.mem F2 F3) (by rfl) T.z_isinstance (by decide +kernel) (pa_cons (pv 0) (pa_cons (pe_glob (by rfl) T.c_Refusal (by rfl)) pa_nil))) pa_nil))) (pa_cons (pe_tup (pa_cons pe_str (pa_cons (pe_callB (call_isP F1 hp.mem F2 F3) (by rfl) T.z_isinstance (by decide +kernel) (pa_cons (pv 0) (pa_cons (pe_glob (by rfl) T.c_BadName (by rfl)) pa_nil))) pa_nil))) pa_nil)))))
    (pss_cons (ps_set (i := 1) sc_kinds.nd rfl (Or.inl rfl) (pe_op oAdd (pv 1) (pe_lst (pa_cons (pe_tup (pa_cons pe_str (pa_cons (pe_callB (call_isP F1 hp.mem F2 F3) (by rfl) T.z_isinstance (by decide +kernel) (pa_cons (pv 0) (pa_cons (pe_glob (by rfl) T.c_BadWeight (by rfl)) pa_nil))) pa_nil))) (pa_cons (pe_tup (pa_cons pe_str (pa_cons (pe_callB (call_isP F1 hp.mem F2 F3) (by rfl) T.z_isinstance (by decide +kernel) (pa_cons (pv 0) (pa_cons (pe_glob (by rfl) T.c_BadNumber (by rfl)) pa_nil))) pa_nil))) pa_nil)))))
    (pss_cons (ps_set (i := 1) sc_kinds.nd rfl (Or.inl rfl) (pe_op oAdd (pv 1) (pe_lst (pa_cons (pe_tup (pa_cons pe_str (pa_cons (pe_callB (call_isP F1 hp.mem F2 F3) (by rfl) T.z_isinstance (by decide +kernel) (pa_cons (pv 0) (pa_cons (pe_glob (by rfl) T.c_BadCount (by rfl)) pa_nil))) pa_nil))) (pa_cons (pe_tup (pa_cons pe_str (pa_cons (pe_callB (call_isP F1 hp.mem F2 F3) (by rfl) T.z_isinstance (by decide +kernel) (pa_cons (pv 0) (pa_cons (pe_glob (by rfl) T.c_Twice (by rfl)) pa_nil))) pa_nil))) pa_nil)))))
    (pss_cons (ps_set (i := 1) sc_kinds.nd rfl (Or.inl rfl) (pe_op oAdd (pv 1) (pe_lst (pa_cons (pe_tup (pa_cons pe_str (pa_cons (pe_callB (call_isP F1 hp.mem F2 F3) (by rfl) T.z_isinstance (by decide +kernel) (pa_cons (pv 0) (pa_cons (pe_glob (by rfl) T.c_Unknown (by rfl)) pa_nil))) pa_nil))) (pa_cons (pe_tup (pa_cons pe_str (pa_cons (pe_callB (call_isP F1 hp.mem F2 F3) (by rfl) T.z_isinstance (by decide +kernel) (pa_cons (pv 0) (pa_cons (pe_glob (by rfl) T.c_NoHolder (by rfl)) pa_nil))) pa_nil))) pa_nil)))))
    (pss_cons (ps_set (i := 1) sc_kinds.nd rfl (Or.inl rfl) (pe_op oAdd (pv 1) (pe_lst (pa_cons (pe_tup (pa_cons pe_str (pa_cons (pe_callB (call_isP F1 hp.mem F2 F3) (by rfl) T.z_isinstance (by decide +kernel) (pa_cons (pv 0) (pa_cons (pe_glob (by rfl) T.c_Loop (by rfl)) pa_nil))) pa_nil))) (pa_cons (pe_tup (pa_cons pe_str (pa_cons (pe_callB (call_isP F1 hp.mem F2 F3) (by rfl) T.z_isinstance (by decide +kernel) (pa_cons (pv 0) (pa_cons (pe_glob (by rfl) T.c_Short (by rfl)) pa_nil))) pa_nil))) pa_nil)))))
    (pss_cons (ps_set (i := 1) sc_kinds.nd rfl (Or.inl rfl) (pe_op oAdd (pv 1) (pe_lst (pa_cons (pe_tup (pa_cons pe_str (pa_cons (pe_callB (call_isP F1 hp.mem F2 F3) (by rfl) T.z_isinstance (by decide +kernel) (pa_cons (pv 0) (pa_cons (pe_glob (by rfl) T.c_BadText (by rfl)) pa_nil))) pa_nil))) (pa_cons (pe_tup (pa_cons pe_str (pa_cons (pe_callB (call_isP F1 hp.mem F2 F3) (by rfl) T.z_isinstance (by decide +kernel) (pa_cons (pv 0) (pa_cons (pe_glob (by rfl) T.c_OtherYard (by rfl)) pa_nil))) pa_nil))) pa_nil)))))
    (pss_cons (ps_set (i := 1) sc_kinds.nd rfl (Or.inl rfl) (pe_op oAdd (pv 1) (pe_lst (pa_cons (pe_tup (pa_cons pe_str (pa_cons (pe_callB (call_isP F1 hp.mem F2 F3) (by rfl) T.z_isinstance (by decide +kernel) (pa_cons (pv 0) (pa_cons (pe_glob (by rfl) T.c_Same (by rfl)) pa_nil))) pa_nil))) (pa_cons (pe_tup (pa_cons pe_str (pa_cons (pe_callB (call_isP F1 hp.mem F2 F3) (by rfl) T.z_isinstance (by decide +kernel) (pa_cons (pv 0) (pa_cons (pe_glob (by rfl) T.c_Inside (by rfl)) pa_nil))) pa_nil))) pa_nil)))))
    (pss_cons (ps_set (i := 1) sc_kinds.nd rfl (Or.inl rfl) (pe_op oAdd (pv 1) (pe_lst (pa_cons (pe_tup (pa_cons pe_str (pa_cons (pe_callB (call_isP F1 hp.mem F2 F3) (by rfl) T.z_isinstance (by decide +kernel) (pa_cons (pv 0) (pa_cons (pe_glob (by rfl) T.c_Unlike (by rfl)) pa_nil))) pa_nil))) (pa_cons (pe_tup (pa_cons pe_str (pa_cons (pe_callB (call_isP F1 hp.mem F2 F3) (by rfl) T.z_isinstance (by decide +kernel) (pa_cons (pv 0) (pa_cons (pe_glob (by rfl) T.c_Nailed (by rfl)) pa_nil))) pa_nil))) pa_nil)))))
    (pss_cons (ps_set (i := 1) sc_kinds.nd rfl (Or.inl rfl) (pe_op oAdd (pv 1) (pe_lst (pa_cons (pe_tup (pa_cons pe_str (pa_cons (pe_callB (call_isP F1 hp.mem F2 F3) (by rfl) T.z_isinstance (by decide +kernel) (pa_cons (pv 0) (pa_cons (pe_glob (by rfl) T.c_Sealed (by rfl)) pa_nil))) pa_nil))) (pa_cons (pe_tup (pa_cons pe_str (pa_cons (pe_callB (call_isP F1 hp.mem F2 F3) (by rfl) T.z_isinstance (by decide +kernel) (pa_cons (pv 0) (pa_cons (pe_glob (by rfl) T.c_Idle (by rfl)) pa_nil))) pa_nil))) pa_nil)))))
    (pss_cons (ps_set (i := 1) sc_kinds.nd rfl (Or.inl rfl) (pe_op oAdd (pv 1) (pe_lst (pa_cons (pe_tup (pa_cons pe_str (pa_cons (pe_callB (call_isP F1 hp.mem F2 F3) (by rfl) T.z_isinstance (by decide +kernel) (pa_cons (pv 0) (pa_cons (pe_glob (by rfl) T.c_Broken (by rfl)) pa_nil))) pa_nil))) (pa_cons (pe_tup (pa_cons pe_str (pa_cons (pe_callB (call_isP F1 hp.mem F2 F3) (by rfl) T.z_isinstance (by decide +kernel) (pa_cons (pv 0) (pa_cons (pe_glob (by rfl) T.c_NotComing (by rfl)) pa_nil))) pa_nil))) pa_nil)))))
    (pss_cons (ps_set (i := 1) sc_kinds.nd rfl (Or.inl rfl) (pe_op oAdd (pv 1) (pe_lst (pa_cons (pe_tup (pa_cons pe_str (pa_cons (pe_callB (call_isP F1 hp.mem F2 F3) (by rfl) T.z_isinstance (by decide +kernel) (pa_cons (pv 0) (pa_cons (pe_glob (by rfl) T.c_Unbalanced (by rfl)) pa_nil))) pa_nil))) (pa_cons (pe_tup (pa_cons pe_str (pa_cons (pe_callB (call_isP F1 hp.mem F2 F3) (by rfl) T.z_isinstance (by decide +kernel) (pa_cons (pv 0) (pa_cons (pe_glob (by rfl) T.c_TooMany (by rfl)) pa_nil))) pa_nil))) pa_nil)))))
    (pss_cons (ps_set (i := 1) sc_kinds.nd rfl (Or.inl rfl) (pe_op oAdd (pv 1) (pe_lst (pa_cons (pe_tup (pa_cons pe_str (pa_cons (pe_callB (call_isP F1 hp.mem F2 F3) (by rfl) T.z_isinstance (by decide +kernel) (pa_cons (pv 0) (pa_cons (pe_glob (by rfl) T.c_BadWish (by rfl)) pa_nil))) pa_nil))) (pa_cons (pe_tup (pa_cons pe_str (pa_cons (pe_callB (call_isP F1 hp.mem F2 F3) (by rfl) T.z_isinstance (by decide +kernel) (pa_cons (pv 0) (pa_cons (pe_glob (by rfl) T.c_Clash (by rfl)) pa_nil))) pa_nil))) pa_nil)))))
    (pss_cons (ps_set (i := 1) sc_kinds.nd rfl (Or.inl rfl) (pe_op oAdd (pv 1) (pe_lst (pa_cons (pe_tup (pa_cons pe_str (pa_cons (pe_callB (call_isP F1 hp.mem F2 F3) (by rfl) T.z_isinstance (by decide +kernel) (pa_cons (pv 0) (pa_cons (pe_glob (by rfl) T.c_OtherDoors (by rfl)) pa_nil))) pa_nil))) (pa_cons (pe_tup (pa_cons pe_str (pa_cons (pe_callB (call_isP F1 hp.mem F2 F3) (by rfl) T.z_isinstance (by decide +kernel) (pa_cons (pv 0) (pa_cons (pe_glob (by rfl) T.c_NoStory (by rfl)) pa_nil))) pa_nil))) pa_nil)))))
    (pss_cons (ps_set (i := 1) sc_kinds.nd rfl (Or.inl rfl) (pe_op oAdd (pv 1) (pe_lst (pa_cons (pe_tup (pa_cons pe_str (pa_cons (pe_callB (call_isP F1 hp.mem F2 F3) (by rfl) T.z_isinstance (by decide +kernel) (pa_cons (pv 0) (pa_cons (pe_glob (by rfl) T.c_BadOrder (by rfl)) pa_nil))) pa_nil))) (pa_cons (pe_tup (pa_cons pe_str (pa_cons (pe_callB (call_isP F1 hp.mem F2 F3) (by rfl) T.z_isinstance (by decide +kernel) (pa_cons (pv 0) (pa_cons (pe_glob (by rfl) T.c_OrderRefused (by rfl)) pa_nil))) pa_nil))) pa_nil)))))
    (pss_cons (ps_set (i := 1) sc_kinds.nd rfl (Or.inl rfl) (pe_op oAdd (pv 1) (pe_lst (pa_cons (pe_tup (pa_cons pe_str (pa_cons (pe_callB (call_isP F1 hp.mem F2 F3) (by rfl) T.z_isinstance (by decide +kernel) (pa_cons (pv 0) (pa_cons (pe_glob (by rfl) T.c_OutOfSteps (by rfl)) pa_nil))) pa_nil))) (pa_cons (pe_tup (pa_cons pe_str (pa_cons (pe_callB (call_isP F1 hp.mem F2 F3) (by rfl) T.z_isinstance (by decide +kernel) (pa_cons (pv 0) (pa_cons (pe_glob (by rfl) T.c_NotEmpty (by rfl)) pa_nil))) pa_nil))) pa_nil)))))
    (pss_cons (ps_set (i := 1) sc_kinds.nd rfl (Or.inl rfl) (pe_op oAdd (pv 1) (pe_lst (pa_cons (pe_tup (pa_cons pe_str (pa_cons (pe_callB (call_isP F1 hp.mem F2 F3) (by rfl) T.z_isinstance (by decide +kernel) (pa_cons (pv 0) (pa_cons (pe_glob (by rfl) T.c_NoChange (by rfl)) pa_nil))) pa_nil))) (pa_cons (pe_tup (pa_cons pe_str (pa_cons (pe_callB (call_isP F1 hp.mem F2 F3) (by rfl) T.z_isinstance (by decide +kernel) (pa_cons (pv 0) (pa_cons (pe_glob (by rfl) T.c_NothingDone (by rfl)) pa_nil))) pa_nil))) pa_nil)))))
    (pss_cons (ps_set (i := 1) sc_kinds.nd rfl (Or.inl rfl) (pe_op oAdd (pv 1) (pe_lst (pa_cons (pe_tup (pa_cons pe_str (pa_cons (pe_callB (call_isP F1 hp.mem F2 F3) (by rfl) T.z_isinstance (by decide +kernel) (pa_cons (pv 0) (pa_cons (pe_glob (by rfl) T.c_BadClaim (by rfl)) pa_nil))) pa_nil))) pa_nil))))
    (pss_one (ps_ret (pe_sel hp (pv 1) (fun _ => rfl) (by decide +kernel) rfl (by decide +kernel) (by decide +kernel))))))))))))))))))))))
theorem hd_same (T : Txt K mg) : Has P w K mg base "_law_same" 5 ["one", "other"] (dsp (s_sameD 0)) := by
  refine has_of (N := ["one", "other", "k"]) (k := 4) (t := liftS (fun _ _ _ _ => False) w_sameD) T.g_same T.F_same sc_same (len_dsp (l_sameD 0)) (fun _ _ _ _ _ _ us hl => match us, hl with | [_, _], _ => rfl) (fun cdv A outer s H E hr => ?_) (dl_start o_sameD)
  exact (dss (difS (PW.pt (dor (dtisn (dvP 0 (pv 0)) (fun t h => pt_cmp (pc_isN h))) (dor1 (dtisn (dvP 1 (pv 1)) (fun t h => pt_cmp (pc_isN h)))))) (dss1 (dret (dandV (disn (dvP 0 (pv 0)) (fun t h => pe_cmp (pc_isN h))) (done (disn (dvP 1 (pv 1)) (fun t h => pe_cmp (pc_isN h))))))) dss0)
    (dss (difS (PW.pt (dor (dtru (dp (disi (pe_callB cIsi (by rfl) T.z_isinstance (by decide +kernel) (pa_cons (dvP 0 (pv 0)) (pa_cons (pe_bltn (v := .ty "bool") (u := .type "bool") (by rfl) T.z_bool (by rfl) (by rfl)) pa_nil)))))) (dor1 (dtru (dp (disi (pe_callB cIsi (by rfl) T.z_isinstance (by decide +kernel) (pa_cons (dvP 1 (pv 1)) (pa_cons (pe_bltn (v := .ty "bool") (u := .type "bool") (by rfl) T.z_bool (by rfl) (by rfl)) pa_nil))))))))) (dss1 (dret (dandV (disi (pe_callB cIsi (by rfl) T.z_isinstance (by decide +kernel) (pa_cons (dvP 0 (pv 0)) (pa_cons (pe_bltn (v := .ty "bool") (u := .type "bool") (by rfl) T.z_bool (by rfl) (by rfl)) pa_nil)))) (dandV (disi (pe_callB cIsi (by rfl) T.z_isinstance (by decide +kernel) (pa_cons (dvP 1 (pv 1)) (pa_cons (pe_bltn (v := .ty "bool") (u := .type "bool") (by rfl) T.z_bool (by rfl) (by rfl)) pa_nil)))) (done (dcmp oEq opEq (dvP 0 (pv 0)) (dvP 1 (pv 1)) (nomark _))))))) dss0)
    (dss (difS (dtru (dp (disi (pe_callB cIsi (by rfl) T.z_isinstance (by decide +kernel) (pa_cons (dvP 0 (pv 0)) (pa_cons (pe_bltn (v := .ty "int") (u := .type "int") (by rfl) T.z_int (by rfl) (by rfl)) pa_nil)))))) (dss1 (dret (dandV (disi (pe_callB cIsi (by rfl) T.z_isinstance (by decide +kernel) (pa_cons (dvP 1 (pv 1)) (pa_cons (pe_bltn (v := .ty "int") (u := .type "int") (by rfl) T.z_int (by rfl) (by rfl)) pa_nil)))) (done (dcmp oEq opEq (dvP 0 (pv 0)) (dvP 1 (pv 1)) (nomark _)))))) dss0)
    (dss (difS (dtru (dp (disi (pe_callB cIsi (by rfl) T.z_isinstance (by decide +kernel) (pa_cons (dvP 0 (pv 0)) (pa_cons (pe_bltn (v := .ty "str") (u := .type "str") (by rfl) T.z_str (by rfl) (by rfl)) pa_nil)))))) (dss1 (dret (dandV (disi (pe_callB cIsi (by rfl) T.z_isinstance (by decide +kernel) (pa_cons (dvP 1 (pv 1)) (pa_cons (pe_bltn (v := .ty "str") (u := .type "str") (by rfl) T.z_str (by rfl) (by rfl)) pa_nil)))) (done (dcmp oEq opEq (dvP 0 (pv 0)) (dvP 1 (pv 1)) (nomark _)))))) dss0)
    (dss (difS (dtru (dp (disi (pe_callB cIsi (by rfl) T.z_isinstance (by decide +kernel) (pa_cons (dvP 0 (pv 0)) (pa_cons (pe_bltn (v := .ty "dict") (u := .type "dict") (by rfl) T.z_dict (by rfl) (by rfl)) pa_nil)))))) (dss1 (dret (dandV (disi (pe_callB cIsi (by rfl) T.z_isinstance (by decide +kernel) (pa_cons (dvP 1 (pv 1)) (pa_cons (pe_bltn (v := .ty "dict") (u := .type "dict") (by rfl) T.z_dict (by rfl) (by rfl)) pa_nil)))) (done (dcall (pe_dc (h_same T 2) hr (dac (ditems (pe_listItemsR rfl (dv 0 (pv 0)) (by rfl) T.z_list (by decide +kernel))) (dac (ditems (pe_listItemsR rfl (dv 1 (pv 1)) (by rfl) T.z_list (by decide +kernel))) dan)))))))) dss0)
    (dss (difS (PW.pt (dand (dtru (dp (disi (pe_callB cIsi (by rfl) T.z_isinstance (by decide +kernel) (pa_cons (dvP 0 (pv 0)) (pa_cons (pe_bltn (v := .ty "list") (u := .type "list") (by rfl) T.z_list (by rfl) (by rfl)) pa_nil)))))) (dand1 (dnot (dtru (dp (disi (pe_callB cIsi (by rfl) T.z_isinstance (by decide +kernel) (pa_cons (dvP 1 (pv 1)) (pa_cons (pe_bltn (v := .ty "list") (u := .type "list") (by rfl) T.z_list (by rfl) (by rfl)) pa_nil)))))))))) (dss1 (dret dc_bl)) dss0)
    (dss (difS (PW.pt (dand (dtru (dp (disi (pe_callB cIsi (by rfl) T.z_isinstance (by decide +kernel) (pa_cons (dvP 0 (pv 0)) (pa_cons (pe_bltn (v := .ty "tuple") (u := .type "tuple") (by rfl) T.z_tuple (by rfl) (by rfl)) pa_nil)))))) (dand1 (dnot (dtru (dp (disi (pe_callB cIsi (by rfl) T.z_isinstance (by decide +kernel) (pa_cons (dvP 1 (pv 1)) (pa_cons (pe_bltn (v := .ty "tuple") (u := .type "tuple") (by rfl) T.z_tuple (by rfl) (by rfl)) pa_nil)))))))))) (dss1 (dret dc_bl)) dss0)
    (dss (difS (PW.pt (dor (dnot (dtru (dp (disi2 (pe_callB cIsi (by rfl) T.z_isinstance (by decide +kernel) (pa_cons (dvP 0 (pv 0)) (pa_cons (pe_tup (pa_cons (pe_bltn (v := .ty "list") (u := .type "list") (by rfl) T.z_list (by rfl) (by rfl)) (pa_cons (pe_bltn (v := .ty "tuple") (u := .type "tuple") (by rfl) T.z_tuple (by rfl) (by rfl)) pa_nil))) pa_nil))))))) (dor1 (dtcmp oNe opNe (dp (dcb clLen (pe_callB cLen (by rfl) T.z_len (by decide +kernel) (dbc (dvP 0 (pv 0)) dbn)))) (dp (dcb clLen (pe_callB cLen (by rfl) T.z_len (by decide +kernel) (dbc (dvP 1 (pv 1)) dbn)))) (nomark _))))) (dss1 (dret dc_bl)) dss0)
    (dss (dfor PassesOwn.never rfl (diR1 (fun _ h => pi_range1 (by rfl) T.z_range h) (dac (dcb clLen (pe_callB cLen (by rfl) T.z_len (by decide +kernel) (dbc (dvP 0 (pv 0)) dbn))) dan)) (pg_name (i := 2) sc_same.nd rfl (Or.inl rfl)) (tgN 2) (dss1 (difS (dnot (dtru (dp (dcall (pe_dc (h_same T 2) hr (dac (dix oIx opIx (dvP 0 (pv 0)) (dvP 2 (pv 2)) (fun _ _ => rfl)) (dac (dix oIx opIx (dvP 1 (pv 1)) (dvP 2 (pv 2)) (fun _ _ => rfl)) dan))))))) (dss1 (dret dc_bl)) dss0)))
    (dss1 (dret dc_bl)))))))))))
theorem sc_edge : FnScope ["store"] ["store"] (defScope q_edge) := ⟨rfl, rfl, rfl, by decide +kernel, rfl, by decide +kernel, by decide +kernel⟩
theorem h_edge (T : Txt K mg) : Has P w K mg base "_law_edge" 3 ["store"] (dsp (s_edge)) := by
  refine has_of (N := ["store"]) (k := 2) (t := liftS (fun _ _ _ _ => False) (w_edge)) T.g_edge T.F_edge sc_edge (len_dsp (l_edge)) (fun _ _ _ _ _ _ us hl => match us, hl with | [_], _ => rfl) (fun cdv A outer s H E hr => ?_) (dl_start (o_edge))
  exact (dss1 (dret (dcmp oEq opEq (dp (dcall (pe_dc (h_take T) hr (dac (dv 0 (pv 0)) (dac dc_int dan))))) (dp dc_int) (nomark _))))
theorem sc_number : FnScope ["store", "low", "high", "manner"] ["store", "low", "high"] (defScope q_number) := ⟨rfl, rfl, rfl, by decide +kernel, rfl, by decide +kernel, by decide +kernel⟩
theorem h_number (T : Txt K mg) : Has P w K mg base "_law_number" 3 ["store", "low", "high"] (dsp (s_number)) := by
  refine has_of (N := ["store", "low", "high", "manner"]) (k := 2) (t := liftS (fun _ _ _ _ => False) (w_number)) T.g_number T.F_number sc_number (len_dsp (l_number)) (fun _ _ _ _ _ _ us hl => match us, hl with | [_, _, _], _ => rfl) (fun cdv A outer s H E hr => ?_) (dl_start (o_number))
  exact (dss (dasg 3 (fun _ h => ps_set (i := 3) sc_number.nd rfl (Or.inl rfl) h) (dcall (pe_dc (h_take T) hr (dac (dv 0 (pv 0)) (dac dc_int dan)))))
    (dss (difS (PW.pt (dor (dtcmp oEq opEq (dvP 3 (pv 3)) (dp dc_int) (nomark _)) (dor1 (dtcmp kLe opLe (dvP 2 (pv 2)) (dvP 1 (pv 1)) (nomark _))))) (dss1 (dret (dv 1 (pv 1)))) dss0)
    (dss (difS (dtcmp oEq opEq (dvP 3 (pv 3)) (dp dc_int) (nomark _)) (dss1 (dret (dv 2 (pv 2)))) dss0)
    (dss (difS (dtcmp oEq opEq (dvP 3 (pv 3)) (dp dc_int) (nomark _)) (dss1 (dret (dcb clMin (pe_callB (call_min2 rfl) (by rfl) T.z_min (by decide +kernel) (dbc (dvP 2 (pv 2)) (dbc (dp (dop oAdd opAdd (dp (dop oAdd opAdd (dvP 1 (pv 1)) (dp dc_int))) (dp (dcall (pe_dc (h_take T) hr (dac (dv 0 (pv 0)) (dac dc_int dan))))))) dbn)))))) dss0)
    (dss (difS (dtcmp oEq opEq (dvP 3 (pv 3)) (dp dc_int) (nomark _)) (dss1 (dret (dcb clMax (pe_callB (call_max2 rfl) (by rfl) T.z_max (by decide +kernel) (dbc (dvP 1 (pv 1)) (dbc (dp (dop oSub opSub (dp (dop oSub opSub (dvP 2 (pv 2)) (dp dc_int))) (dp (dcall (pe_dc (h_take T) hr (dac (dv 0 (pv 0)) (dac dc_int dan))))))) dbn)))))) dss0)
    (dss1 (dret (dop oAdd opAdd (dvP 1 (pv 1)) (dp (dcall (pe_dc (h_take T) hr (dac (dv 0 (pv 0)) (dac (dop oAdd opAdd (dp (dop oSub opSub (dvP 2 (pv 2)) (dvP 1 (pv 1)))) (dp dc_int)) dan)))))))))))))
theorem sc_pick : FnScope ["store", "row"] ["store", "row"] (defScope q_pick) := ⟨rfl, rfl, rfl, by decide +kernel, rfl, by decide +kernel, by decide +kernel⟩
theorem h_pick (T : Txt K mg) : Has P w K mg base "_law_pick" 3 ["store", "row"] (dsp (s_pick)) := by
  refine has_of (N := ["store", "row"]) (k := 2) (t := liftS (fun _ _ _ _ => False) (w_pick)) T.g_pick T.F_pick sc_pick (len_dsp (l_pick)) (fun _ _ _ _ _ _ us hl => match us, hl with | [_, _], _ => rfl) (fun cdv A outer s H E hr => ?_) (dl_start (o_pick))
  exact (dss1 (dret (dix oIx opIx (dvP 1 (pv 1)) (dp (dcall (pe_dc (h_take T) hr (dac (dv 0 (pv 0)) (dac (dcb clLen (pe_callB cLen (by rfl) T.z_len (by decide +kernel) (dbc (dvP 1 (pv 1)) dbn))) dan))))) (fun _ _ => rfl))))
theorem sc_shuffled : FnScope ["store", "row", "rest", "found", "k"] ["store", "row"] (defScope q_shuffled) := ⟨rfl, rfl, rfl, by decide +kernel, rfl, by decide +kernel, by decide +kernel⟩
theorem h_shuffled (T : Txt K mg) : Has P w K mg base "_law_shuffled" 3 ["store", "row"] (dsp (s_shuffP)) := by
  refine has_of (N := ["store", "row", "rest", "found", "k"]) (k := 2) (t := liftS (fun _ _ _ _ => False) w_shuffled) T.g_shuffled T.F_shuffled sc_shuffled (len_dsp (l_shuffP)) (fun _ _ _ _ _ _ us hl => match us, hl with | [_, _], _ => rfl) (fun cdv A outer s H E hr => ?_) (dl_start (o_shuffP))
  exact (dss (dasgO 2 (fun _ h => ps_set (i := 2) sc_shuffled.nd rfl (Or.inl rfl) h) (dlistF (fun _ h => pe_callTy cList (by rfl) T.z_list (by decide +kernel) (pa_cons h pa_nil)) (dvP 1 (pv 1))))
    (dss (dasgO 3 (fun _ h => ps_set (i := 3) sc_shuffled.nd rfl (Or.inl rfl) h) (dlstF dan))
    (dss (dfor PassesOwn.never rfl (diR1 (fun _ h => pi_range1 (by rfl) T.z_range h) (dac (dcb clLen (pe_callB cLen (by rfl) T.z_len (by decide +kernel) (dbc (dvP 1 (pv 1)) dbn))) dan)) (pg_name (i := 4) sc_shuffled.nd rfl (Or.inl rfl)) (tgN 4) (dss1 (dappPop 3 2 (fun _ h => ps_expr (pe_bm PySem.F.plainAttrs_list PySem.F.slot_list_append PySem.F.type_list_append mt_append (pv 3) (pa_cons (pe_bm PySem.F.plainAttrs_list PySem.F.slot_list_pop PySem.F.type_list_pop mt_popAt (pv 2) (pa_cons h pa_nil)) pa_nil))) (dcall (pe_dc (h_take T) hr (dac (dv 0 (pv 0)) (dac (dcb clLen (pe_callB cLen (by rfl) T.z_len (by decide +kernel) (dbc (dvP 2 (pv 2)) dbn))) dan)))))))
    (dss1 (dret (dv 3 (pv 3)))))))
theorem sc_not_integer : FnScope ["store", "low", "high", "far"] ["store", "low", "high"] (defScope q_not_integer) := ⟨rfl, rfl, rfl, by decide +kernel, rfl, by decide +kernel, by decide +kernel⟩
theorem h_not_integer (T : Txt K mg) : Has P w K mg base "_law_not_integer" 4 ["store", "low", "high"] (dsp (s_not_integer)) := by
  refine has_of (N := ["store", "low", "high", "far"]) (k := 3) (t := liftS (fun _ _ _ _ => False) (w_not_integer)) T.g_not_integer T.F_not_integer sc_not_integer (len_dsp (l_not_integer)) (fun _ _ _ _ _ _ us hl => match us, hl with | [_, _, _], _ => rfl) (fun cdv A outer s H E hr => ?_) (dl_start (o_not_integer))
  exact (dss (dasg 3 (fun _ h => ps_set (i := 3) sc_not_integer.nd rfl (Or.inl rfl) h) (dcall (pe_dc (h_take T) hr (dac (dv 0 (pv 0)) (dac (dc (pe_powc pe_int pe_int 100000000000000000000 (by decide +kernel)) (fun _ _ => .int _)) dan)))))
    (dss1 (dret (dcall (pe_dc (h_pick T) hr (dac (dv 0 (pv 0)) (dac (dlst (dac (dop oSub opSub (dvP 1 (pv 1)) (dp dc_int)) (dac (dop oAdd opAdd (dvP 2 (pv 2)) (dp dc_int)) (dac (dop oSub opSub (dp (dop oSub opSub (dvP 1 (pv 1)) (dp dc_int))) (dvP 3 (pv 3))) (dac (dop oAdd opAdd (dp (dop oAdd opAdd (dvP 2 (pv 2)) (dp dc_int))) (dvP 3 (pv 3))) (dac dc_bl (dac dc_bl (dac dc_non (dac dc_str (dac dc_str (dac dc_str dan))))))))))) dan)))))))
theorem sc_integer : FnScope ["store", "manner"] ["store"] (defScope q_integer) := ⟨rfl, rfl, rfl, by decide +kernel, rfl, by decide +kernel, by decide +kernel⟩
theorem h_integer (T : Txt K mg) : Has P w K mg base "_law_integer" 3 ["store"] (dsp (s_integer)) := by
  refine has_of (N := ["store", "manner"]) (k := 2) (t := liftS (fun _ _ _ _ => False) (w_integer)) T.g_integer T.F_integer sc_integer (len_dsp (l_integer)) (fun _ _ _ _ _ _ us hl => match us, hl with | [_], _ => rfl) (fun cdv A outer s H E hr => ?_) (dl_start (o_integer))
  exact (dss (dasg 1 (fun _ h => ps_set (i := 1) sc_integer.nd rfl (Or.inl rfl) h) (dcall (pe_dc (h_take T) hr (dac (dv 0 (pv 0)) (dac dc_int dan)))))
    (dss (difS (dtcmp oEq opEq (dvP 1 (pv 1)) (dp dc_int) (nomark _)) (dss1 (dret (dop oSub opSub (dp (dcall (pe_dc (h_take T) hr (dac (dv 0 (pv 0)) (dac dc_int dan))))) (dp dc_int)))) dss0)
    (dss (difS (dtcmp oEq opEq (dvP 1 (pv 1)) (dp dc_int) (nomark _)) (dss1 (dret (dcall (pe_dc (h_take T) hr (dac (dv 0 (pv 0)) (dac (dc (pe_powc pe_int pe_int 10000000000000000000000000000000000000000 (by decide +kernel)) (fun _ _ => .int _)) dan)))))) dss0)
    (dss (difS (dtcmp oEq opEq (dvP 1 (pv 1)) (dp dc_int) (nomark _)) (dss1 (dret (dneg (dcall (pe_dc (h_take T) hr (dac (dv 0 (pv 0)) (dac (dc (pe_powc pe_int pe_int 10000000000000000000000000000000000000000 (by decide +kernel)) (fun _ _ => .int _)) dan))))))) dss0)
    (dss1 (dret (dop oSub opSub (dp (dcall (pe_dc (h_take T) hr (dac (dv 0 (pv 0)) (dac dc_int dan))))) (dp dc_int))))))))
theorem sc_integers : FnScope ["store", "most", "found", "k"] ["store", "most"] (defScope q_integers) := ⟨rfl, rfl, rfl, by decide +kernel, rfl, by decide +kernel, by decide +kernel⟩
theorem h_integers (T : Txt K mg) : Has P w K mg base "_law_integers" 4 ["store", "most"] (dsp (s_integers)) := by
  refine has_of (N := ["store", "most", "found", "k"]) (k := 3) (t := liftS (fun _ _ _ _ => False) (w_integers)) T.g_integers T.F_integers sc_integers (len_dsp (l_integers)) (fun _ _ _ _ _ _ us hl => match us, hl with | [_, _], _ => rfl) (fun cdv A outer s H E hr => ?_) (dl_start (o_integers))
  exact (dss (dasgO 2 (fun _ h => ps_set (i := 2) sc_integers.nd rfl (Or.inl rfl) h) (dlstF dan))
    (dss (dfor PassesOwn.never rfl (diR1 (fun _ h => pi_range1 (by rfl) T.z_range h) (dac (dcall (pe_dc (h_number T) hr (dac (dv 0 (pv 0)) (dac dc_int (dac (dv 1 (pv 1)) dan))))) dan)) (pg_name (i := 3) sc_integers.nd rfl (Or.inl rfl)) (tgN 3) (dss1 (difS (PW.pt (dand (dtru (dvP 2 (pv 2))) (dand1 (dtru (dp (dcall (pe_dc (h_edge T) hr (dac (dv 0 (pv 0)) dan)))))))) (dss1 (dapp 2 (fun _ h => ps_expr (pe_bm PySem.F.plainAttrs_list PySem.F.slot_list_append PySem.F.type_list_append mt_append (pv 2) (pa_cons h pa_nil))) (dcallF (pe_dc (h_pick T) hr (dac (dv 0 (pv 0)) (dac (dv 2 (pv 2)) dan)))))) (dss1 (dapp 2 (fun _ h => ps_expr (pe_bm PySem.F.plainAttrs_list PySem.F.slot_list_append PySem.F.type_list_append mt_append (pv 2) (pa_cons h pa_nil))) (dcall (pe_dc (h_integer T) hr (dac (dv 0 (pv 0)) dan))))))))
    (dss1 (dret (dv 2 (pv 2))))))
theorem sc_is_integer : FnScope ["value"] ["value"] (defScope q_is_integer) := ⟨rfl, rfl, rfl, by decide +kernel, rfl, by decide +kernel, by decide +kernel⟩
theorem h_is_integer (T : Txt K mg) : Has P w K mg base "_law_is_integer" 1 ["value"] (dsp (s_isI5)) := by
  refine has_of (N := ["value"]) (k := 0) (t := liftS (fun _ _ _ _ => False) w_isI5) T.g_is_integer T.F_is_integer sc_is_integer (len_dsp (l_isI5)) (fun _ _ _ _ _ _ us hl => match us, hl with | [_], _ => rfl) (fun cdv A outer s H E hr => ?_) (dl_start (o_isI5))
  exact (dss1 (dret (dandV (disi (pe_callB cIsi (by rfl) T.z_isinstance (by decide +kernel) (pa_cons (dvP 0 (pv 0)) (pa_cons (pe_bltn (v := .ty "int") (u := .type "int") (by rfl) T.z_int (by rfl) (by rfl)) pa_nil)))) (done (dnotV (dp (disi (pe_callB cIsi (by rfl) T.z_isinstance (by decide +kernel) (pa_cons (dvP 0 (pv 0)) (pa_cons (pe_bltn (v := .ty "bool") (u := .type "bool") (by rfl) T.z_bool (by rfl) (by rfl)) pa_nil))))))))))
theorem sc_pairs : FnScope ["store", "keys", "k", "great", "pairs", "key"] ["store"] (defScope q_pairs) := ⟨rfl, rfl, rfl, by decide +kernel, rfl, by decide +kernel, by decide +kernel⟩
theorem h_pairs (T : Txt K mg) : Has P w K mg base "_law_pairs" 5 ["store"] (dsp (s_pairs)) := by
  refine has_of (N := ["store", "keys", "k", "great", "pairs", "key"]) (k := 4) (t := liftS (fun _ _ _ _ => False) (w_pairs)) T.g_pairs T.F_pairs sc_pairs (len_dsp (l_pairs)) (fun _ _ _ _ _ _ us hl => match us, hl with | [_], _ => rfl) (fun cdv A outer s H E hr => ?_) (dl_start (o_pairs))
  exact (dss (dasg 1 (fun _ h => ps_set (i := 1) sc_pairs.nd rfl (Or.inl rfl) h) (df (dsortFI rfl T.z_sorted T.z_set (dp (dcall (pe_dc (h_integers T) hr (dac (dv 0 (pv 0)) (dac dc_int dan))))))))
    (dsc (difS (dtcmp oEq opEq (dp (dcall (pe_dc (h_take T) hr (dac (dv 0 (pv 0)) (dac dc_int dan))))) (dp dc_int) (nomark _)) (dss1 (dasg 1 (fun _ h => ps_set (i := 1) sc_pairs.nd rfl (Or.inl rfl) h) (df (dsortFI rfl T.z_sorted T.z_set (dp (dop oAdd opAdd (dvP 1 (pv 1)) (dp (df (dlc (tcN 2) yes_tr (pe_lc (own := [("k", 2)]) (g := gName 2) (by rfl) sc_pairs.nd (diR1 (fun _ h => pi_range1 (by rfl) T.z_range h) (dac dc_int dan)) (blkOk_by (own := [("k", 2)]) (N := ["store", "keys", "k", "great", "pairs", "key"]) (sc := defScope q_pairs) (by decide +kernel)) (fun _ _ _ _ _ => pg_name (i := 2) sc_pairs.nd rfl (Or.inl rfl)) (fun _ _ _ _ _ => pts_nil) (fun _ _ _ _ _ => (dop oSub opSub (dp (dcall (pe_dc (h_take T) hr (dac (dv 0 (pv 0)) (dac dc_int dan))))) (dp dc_int))))))))))))) dss0)
    (dsc (difS (dtcmp oEq opEq (dp (dcall (pe_dc (h_take T) hr (dac (dv 0 (pv 0)) (dac dc_int dan))))) (dp dc_int) (nomark _)) (dss (dasg 3 (fun _ h => ps_set (i := 3) sc_pairs.nd rfl (Or.inl rfl) h) (dcb clIntL (pe_callTy (cIntL T.dig) (by rfl) T.z_int (by decide +kernel) (dbc (dp (dop oAdd opAdd (dp dc_str) (dp (dop oMulS opMulS (dp dc_str) (dp (dcall (pe_dc (h_take T) hr (dac (dv 0 (pv 0)) (dac dc_int dan))))))))) dbn))))
    (dss1 (dasg 1 (fun _ h => ps_set (i := 1) sc_pairs.nd rfl (Or.inl rfl) h) (df (dsortFI rfl T.z_sorted T.z_set (dp (dop oAdd opAdd (dvP 1 (pv 1)) (dp (dlst (dac (dcall (pe_dc (h_pick T) hr (dac (dv 0 (pv 0)) (dac (dlst (dac (dv 3 (pv 3)) (dac (dneg (dv 3 (pv 3))) dan))) dan)))) dan)))))))))) dss0)
    (dss (dasgO 4 (fun _ h => ps_set (i := 4) sc_pairs.nd rfl (Or.inl rfl) h) (dlstF dan))
    (dss (dfor PassesOwn.never rfl (diL (dcall (pe_dc (h_shuffled T) hr (dac (dv 0 (pv 0)) (dac (dv 1 (pv 1)) dan))))) (pg_name (i := 5) sc_pairs.nd rfl (Or.inl rfl)) (tgN 5) (dss1 (dapp 4 (fun _ h => ps_expr (pe_bm PySem.F.plainAttrs_list PySem.F.slot_list_append PySem.F.type_list_append mt_append (pv 4) (pa_cons h pa_nil))) (dtup (dac (dv 5 (pv 5)) (dac (dcall (pe_dc (h_pick T) hr (dac (dv 0 (pv 0)) (dac (dlst (dac dc_int (dac dc_int (dac dc_int (dac dc_int (dac dc_int (dac dc_int (dac (dcall (pe_dc (h_take T) hr (dac (dv 0 (pv 0)) (dac dc_int dan)))) dan)))))))) dan)))) dan))))))
    (dss1 (dret (dv 4 (pv 4)))))))))
theorem sc_dict : FnScope ["pairs", "found", "key", "value"] ["pairs"] (defScope q_dict) := ⟨rfl, rfl, rfl, by decide +kernel, rfl, by decide +kernel, by decide +kernel⟩
theorem hF_dict (T : Txt K mg) : Has P w K mg base "_law_dict" 1 ["pairs"] (dspFD s_dict) := by
  refine has_ofX (N := ["pairs", "found", "key", "value"]) (k := 0) (t := fun E => tSeq (liftS (fun cls d _ H => E cls d H) w_dict) (tRet (tVar 1))) T.g_dict T.F_dict sc_dict (len_dspFD l_dict) (fun _ _ _ _ _ _ us hl => match us, hl with | [_], _ => rfl) (fun cdv A outer s H E hr tk => ?_) (dl_startFV o_dict)
  exact (pss_seq2 (dasgD 1 (ps_set (i := 1) sc_dict.nd rfl (Or.inl rfl) pe_dnewK))
    (pss_cons (dfor PassesOwn.leaving rfl (diL (dv 0 (pv 0))) (pg_tup rfl (pgs_cons (pg_name (i := 2) sc_dict.nd rfl (Or.inl rfl)) (pgs_cons (pg_name (i := 3) sc_dict.nd rfl (Or.inl rfl)) pgs_nil))) (tgP 2 3) (dss1 (dputD 1 (ps_dput (hu_of hr) (pv 1) (dv 2 (pv 2)) (dv 3 (pv 3)) rfl))))
    (pss_one (ps_ret (pv 1)))))
theorem h_dict (T : Txt K mg) : Has P w K mg base "_law_dict" 1 ["pairs"] (dspX (sD s_dict)) := Has.weak (hF_dict T) dspFD_weak
theorem sc_Pis_number : FnScope ["value", "low", "high"] ["value", "low", "high"] (defScope q_Pis_number) := ⟨rfl, rfl, rfl, by decide +kernel, rfl, by decide +kernel, by decide +kernel⟩
theorem h_Pis_number (T : Txt K mg) : Has P w K mg base "is_number" 1 ["value", "low", "high"] (dsp (s_Pis_number)) := by
  refine has_of (N := ["value", "low", "high"]) (k := 0) (t := liftS (fun _ _ _ _ => False) w_Pis_number) T.g_Pis_number T.F_Pis_number sc_Pis_number (len_dsp (l_Pis_number)) (fun _ _ _ _ _ _ us hl => match us, hl with | [_, _, _], _ => rfl) (fun cdv A outer s H E hr => ?_) (dl_start (o_Pis_number))
  exact (dss1 (dret (dandV (disi (pe_callB cIsi (by rfl) T.z_isinstance (by decide +kernel) (pa_cons (dvP 0 (pv 0)) (pa_cons (pe_bltn (v := .ty "int") (u := .type "int") (by rfl) T.z_int (by rfl) (by rfl)) pa_nil)))) (dandV (dnotV (dp (disi (pe_callB cIsi (by rfl) T.z_isinstance (by decide +kernel) (pa_cons (dvP 0 (pv 0)) (pa_cons (pe_bltn (v := .ty "bool") (u := .type "bool") (by rfl) T.z_bool (by rfl) (by rfl)) pa_nil)))))) (done (dchain kLe kLe opLe opLe (dvP 1 (pv 1)) (dvP 0 (pv 0)) (dvP 2 (pv 2)) (fun _ _ _ x y z => pe_chain kLe kLe x y z)))))))
theorem sc_PBag___init__ : FnScope ["self", "numbers", "number", "table"] ["self", "numbers"] (defScope q_PBag___init__) := ⟨rfl, rfl, rfl, by decide +kernel, rfl, by decide +kernel, by decide +kernel⟩
theorem hI_Bag (T : Txt K mg) : HasI P w K mg base (He.ga K "Bag") 3 ["self", "numbers"] [.ref (He.dflAt ("Bag", some "__init__") 0 K)] (spI (He.ga K "Bag") (s_PBag___init__ K)) := by
  refine hasI_of (N := ["self", "numbers", "number", "table"]) (k := 2) (n := 1) (t := fun E => liftS (fun cls d _ H => E cls d H) (w_PBag___init__ K)) T.FI_Bag sc_PBag___init__ (len_spI (l_PBag___init__ K)) rfl (fun T kV doc pm an cdv ct us its h1 h2 => match us, its, h1, h2 with | [_, _], [_], _, _ => ⟨_, rfl, rfl⟩) (fun T kV doc pm an cdv ct us its h1 h2 => match us, its, h1, h2 with | [_], [_], _, _ => ⟨_, rfl, rfl⟩) (fun f cdv A outer s H E hr tk => ?_) (dl_startI (o_PBag___init__ K))
  exact (dss (dfor PassesOwn.leaving rfl (diVk 1 (pv 1) (fun _ h => pi_seq h)) (pg_name (i := 2) sc_PBag___init__.nd rfl (Or.inl rfl)) (tgN 2) (dss1 (difS (dtru (dp (disi (pe_callB cIsi (by rfl) T.z_isinstance (by decide +kernel) (pa_cons (dvP 2 (pv 2)) (pa_cons (pe_bltn (v := .ty "bool") (u := .type "bool") (by rfl) T.z_bool (by rfl) (by rfl)) pa_nil)))))) (dss1 (draise1 (ps_rs (by rfl) tk (pmk_in (i1_BadNumber T) T.c_BadNumber hr (pa_cons (dv 2 (pv 2)) pa_nil))))) dss0)))
    (dss (dasgD 3 (ps_set (i := 3) sc_PBag___init__.nd rfl (Or.inl rfl) pe_dnewK))
    (dss (dfor PassesOwn.leaving rfl (diL (df (dsrtF (pe_callB cr_sortedA (by rfl) T.z_sorted (by decide +kernel) (pa_cons (dvP 1 (pv 1)) pa_nil))))) (pg_name (i := 2) sc_PBag___init__.nd rfl (Or.inl rfl)) (tgN 2) (dss1 (dputD 3 (ps_dput (hu_of hr) (pv 3) (dv 2 (pv 2)) (dop oAdd opAdd (dp (dgetO (pe_dget2 (hu_of hr) (pv 3) (dv 2 (pv 2)) dc_int ⟨rfl, rfl, rfl, rfl⟩))) (dp dc_int)) rfl))))
    (dss (dselfD T.cl_Bag T.na_Bag__table (ps_fld (pv 0) (pv 3) rfl))
    (dss1 (dself T.cl_Bag T.na_Bag__items (ps_fld (pv 0) (dcb clTup (pe_callTy cTup (by rfl) T.z_tuple (by decide +kernel) (dbc (dp (df (dsrtF (pe_callB cr_sortedA (by rfl) T.z_sorted (by decide +kernel) (pa_cons (dvP 1 (pv 1)) pa_nil))))) dbn))) rfl)))))))
theorem sc_PBag_numbers : FnScope ["self"] ["self"] (defScope q_PBag_numbers) := ⟨rfl, rfl, rfl, by decide +kernel, rfl, by decide +kernel, by decide +kernel⟩
theorem hp_Bag_numbers (T : Txt K mg) : HasP P w K mg base (He.ga K "Bag") "numbers" 1 ["self"] (dsp (s_PBag_numbers K)) := by
  refine hasP_of (N := ["self"]) (k := 0) (t := liftS (fun _ _ _ _ => False) (w_PBag_numbers K)) T.FP_Bag_numbers sc_PBag_numbers (len_dsp (l_PBag_numbers K)) (fun _ _ _ _ _ _ us hl => match us, hl with | [_], _ => rfl) (fun f cdv A outer s H E hr => ?_) (dl_start (o_PBag_numbers K))
  exact (dss1 (dret (dfld T.cl_Bag T.na_Bag__items (pe_fld (dv 0 (pv 0)) rfl))))
theorem sc_PBag_total : FnScope ["self"] ["self"] (defScope q_PBag_total) := ⟨rfl, rfl, rfl, by decide +kernel, rfl, by decide +kernel, by decide +kernel⟩
theorem hp_Bag_total (T : Txt K mg) : HasP P w K mg base (He.ga K "Bag") "total" 1 ["self"] (dsp (s_PBag_total K)) := by
  refine hasP_of (N := ["self"]) (k := 0) (t := liftS (fun _ _ _ _ => False) (w_PBag_total K)) T.FP_Bag_total sc_PBag_total (len_dsp (l_PBag_total K)) (fun _ _ _ _ _ _ us hl => match us, hl with | [_], _ => rfl) (fun f cdv A outer s H E hr => ?_) (dl_start (o_PBag_total K))
  exact (dss1 (dret (dcb clSumA (pe_callB (cr_sumA rfl) (by rfl) T.z_sum (by decide +kernel) (dbc (dp (dfld T.cl_Bag T.na_Bag__items (pe_fld (dv 0 (pv 0)) rfl))) dbn)))))
theorem sc_PBag_times : FnScope ["self", "number"] ["self", "number"] (defScope q_PBag_times) := ⟨rfl, rfl, rfl, by decide +kernel, rfl, by decide +kernel, by decide +kernel⟩
theorem hm_Bag_times (T : Txt K mg) : HasM P w K mg base (He.ga K "Bag") "times" 1 ["self", "number"] (dsp (s_PBag_times K)) := by
  refine hasM_of (N := ["self", "number"]) (k := 0) (t := liftS (fun _ _ _ _ => False) (w_PBag_times K)) T.FM_Bag_times sc_PBag_times (len_dsp (l_PBag_times K)) (fun _ _ _ _ _ _ us hl => match us, hl with | [_, _], _ => rfl) (fun f cdv A outer s H E hr => ?_) (dl_start (o_PBag_times K))
  exact (dss1 (dret (dget (pe_dget2 (hu_of hr) (dfld T.cl_Bag T.na_Bag__table (pe_fld (dv 0 (pv 0)) rfl)) (dv 1 (pv 1)) dc_int ⟨rfl, rfl, rfl, rfl⟩))))
theorem sc_PBag_table : FnScope ["self"] ["self"] (defScope q_PBag_table) := ⟨rfl, rfl, rfl, by decide +kernel, rfl, by decide +kernel, by decide +kernel⟩
theorem hm_Bag_table (T : Txt K mg) : HasM P w K mg base (He.ga K "Bag") "table" 1 ["self"] (dsp (s_PBag_table K)) := by
  refine hasM_of (N := ["self"]) (k := 0) (t := liftS (fun _ _ _ _ => False) (w_PBag_table K)) T.FM_Bag_table sc_PBag_table (len_dsp (l_PBag_table K)) (fun _ _ _ _ _ _ us hl => match us, hl with | [_], _ => rfl) (fun f cdv A outer s H E hr => ?_) (dl_start (o_PBag_table K))
  exact (dss1 (dret (ddict (pe_callTy call_dictD (by rfl) T.z_dict (by decide +kernel) (pa_cons (dfld T.cl_Bag T.na_Bag__table (pe_fld (dv 0 (pv 0)) rfl)) pa_nil)))))
theorem hFD_Bag_table (T : Txt K mg) : HasM P w K mg base (He.ga K "Bag") "table" 1 ["self"] (dspFD (s_FDBag_table K)) := by
  refine hasMX_of (N := ["self"]) (k := 0) (t := fun E => tSeq (liftS (fun cls d _ H => E cls d H) wNx) (tRet (liftFD (f_FDBag_table K)))) T.FM_Bag_table sc_PBag_table (len_dspFD (l_FDBag_table K)) (fun _ _ _ _ _ _ us hl => match us, hl with | [_], _ => rfl) (fun f cdv A outer s H E hr tk => ?_) (dl_startFD (o_FDBag_table K))
  exact (pss_nx (pss_one (ps_ret (ddictF (pe_callTy call_dictD (by rfl) T.z_dict (by decide +kernel) (pa_cons (dfld T.cl_Bag T.na_Bag__table (pe_fld (dv 0 (pv 0)) rfl)) pa_nil))))))
theorem sc_PBag___len__ : FnScope ["self"] ["self"] (defScope q_PBag___len__) := ⟨rfl, rfl, rfl, by decide +kernel, rfl, by decide +kernel, by decide +kernel⟩
theorem hm_Bag___len__ (T : Txt K mg) : HasM P w K mg base (He.ga K "Bag") "__len__" 1 ["self"] (dsp (s_PBag___len__ K)) := by
  refine hasM_of (N := ["self"]) (k := 0) (t := liftS (fun _ _ _ _ => False) (w_PBag___len__ K)) T.FM_Bag___len__ sc_PBag___len__ (len_dsp (l_PBag___len__ K)) (fun _ _ _ _ _ _ us hl => match us, hl with | [_], _ => rfl) (fun f cdv A outer s H E hr => ?_) (dl_start (o_PBag___len__ K))
  exact (dss1 (dret (dcb clLen (pe_callB cLen (by rfl) T.z_len (by decide +kernel) (dbc (dp (dfld T.cl_Bag T.na_Bag__items (pe_fld (dv 0 (pv 0)) rfl))) dbn)))))
theorem sc_PBag___contains__ : FnScope ["self", "number"] ["self", "number"] (defScope q_PBag___contains__) := ⟨rfl, rfl, rfl, by decide +kernel, rfl, by decide +kernel, by decide +kernel⟩
theorem hm_Bag___contains__ (T : Txt K mg) : HasM P w K mg base (He.ga K "Bag") "__contains__" 1 ["self", "number"] (dsp (s_PBag___contains__ K)) := by
  refine hasM_of (N := ["self", "number"]) (k := 0) (t := liftS (fun _ _ _ _ => False) (w_PBag___contains__ K)) T.FM_Bag___contains__ sc_PBag___contains__ (len_dsp (l_PBag___contains__ K)) (fun _ _ _ _ _ _ us hl => match us, hl with | [_, _], _ => rfl) (fun f cdv A outer s H E hr => ?_) (dl_start (o_PBag___contains__ K))
  exact (dss1 (dret (dinDD (pe_cmp (pc_din (hu_of hr) (dv 1 (pv 1)) (dfld T.cl_Bag T.na_Bag__table (pe_fld (dv 0 (pv 0)) rfl)))))))
theorem sc_PBag___eq__ : FnScope ["self", "other"] ["self", "other"] (defScope q_PBag___eq__) := ⟨rfl, rfl, rfl, by decide +kernel, rfl, by decide +kernel, by decide +kernel⟩
theorem hm_Bag___eq__ (T : Txt K mg) : HasM P w K mg base (He.ga K "Bag") "__eq__" 1 ["self", "other"] (dsp (s_PBag___eq__ K)) := by
  refine hasM_of (N := ["self", "other"]) (k := 0) (t := liftS (fun _ _ _ _ => False) (w_PBag___eq__ K)) T.FM_Bag___eq__ sc_PBag___eq__ (len_dsp (l_PBag___eq__ K)) (fun _ _ _ _ _ _ us hl => match us, hl with | [_, _], _ => rfl) (fun f cdv A outer s H E hr => ?_) (dl_start (o_PBag___eq__ K))
  exact (dss1 (dret (dandV (disC T.ci_Bag (pe_callB call_isi (by rfl) T.z_isinstance (by decide +kernel) (pa_cons (dv 1 (pv 1)) (pa_cons (pe_glob (by rfl) T.c_Bag (by rfl)) pa_nil)))) (done (dcmpI (op_eqTI (hu64 hr)) opEqT (dfld T.cl_Bag T.na_Bag__items (pe_fld (dv 0 (pv 0)) rfl)) (dfld T.cl_Bag T.na_Bag__items (pe_fld (dv 1 (pv 1)) rfl)) (nomark _))))))
theorem sc_PBag_counted : FnScope ["cls", "table", "items", "number", "many"] ["cls", "table"] (defScope q_PBag_counted) := ⟨rfl, rfl, rfl, by decide +kernel, rfl, by decide +kernel, by decide +kernel⟩
theorem hc_Bag_counted (T : Txt K mg) : HasC P w K mg base (He.ga K "Bag") "counted" 5 ["cls", "table"] (spCM (He.ga K "Bag") (s_PBag_counted K)) := by
  refine hasC_of (N := ["cls", "table", "items", "number", "many"]) (k := 4) (t := fun E => tSeq (liftS (fun cls d _ H => E cls d H) (w_PBag_counted K)) (tRet (tMakeL 0 (He.ga K "Bag") (spI (He.ga K "Bag") (s_PBag___init__ K)) (tCons (tVar 2) tNil)))) T.FC_Bag_counted sc_PBag_counted len_spCM (fun _ _ _ _ _ _ us hl => match us, hl with | [_, _], _ => rfl) (fun f cdv A outer s H E hr tk => ?_) (dl_startCM (o_PBag_counted K))
  exact (pss_seq2 (dasgO 2 (fun _ h => ps_set (i := 2) sc_PBag_counted.nd rfl (Or.inl rfl) h) (dlstF dan))
    (pss_cons (dforKX itI (src_v 1) (tgP 3 4) (fun E tk => ps_for PassesOwn.leaving rfl (pi_items (pv 1)) (pg_tup rfl (pgs_cons (pg_name (i := 3) sc_PBag_counted.nd rfl (Or.inl rfl)) (pgs_cons (pg_name (i := 4) sc_PBag_counted.nd rfl (Or.inl rfl)) pgs_nil))) (dss (difS (dnot (dtru (dp (dcall (pe_dc (h_Pis_number T) hr (dac (dv 4 (pv 4)) (dac dc_int (dac (dc (pe_gi T.k_MOST_TIMES) (fun _ _ => .int _)) dan)))))))) (dss1 (draise1 (ps_rs (by rfl) tk (pmk_in (i1_BadNumber T) T.c_BadNumber hr (pa_cons (dv 4 (pv 4)) pa_nil))))) dss0)
    (dss1 (dext 2 (fun _ h => ps_expr (pe_bm PySem.F.plainAttrs_list PySem.F.slot_list_extend PySem.F.type_list_extend mt_extend (pv 2) (pa_cons h pa_nil))) (dop op_rep opMulL (dp (dlst (dac (dv 3 (pv 3)) dan))) (dvP 4 (pv 4))))))))
    (pss_one (ps_ret (pe_miL (hI_Bag T) rfl (.inl rfl) hr (pa_cons (pv 2) pa_nil))))))
theorem sc_holds : FnScope ["bag", "pairs", "good", "pair", "row", "key", "many", "told"] ["bag", "pairs"] (defScope q_holds) := ⟨rfl, rfl, rfl, by decide +kernel, rfl, by decide +kernel, by decide +kernel⟩
theorem h_holds (T : Txt K mg) : Has P w K mg base "_law_holds" 6 ["bag", "pairs"] (dsp (s_holds K)) := by
  refine has_of (N := ["bag", "pairs", "good", "pair", "row", "key", "many", "told"]) (k := 5) (t := liftS (fun _ _ _ _ => False) (w_holds K)) T.g_holds T.F_holds sc_holds (len_dsp (l_holds K)) (fun _ _ _ _ _ _ us hl => match us, hl with | [_, _], _ => rfl) (fun cdv A outer s H E hr => ?_) (dl_start (o_holds K))
  exact (dss (dasg 2 (fun _ h => ps_set (i := 2) sc_holds.nd rfl (Or.inl rfl) h) (df (dsortPF (pe_callB cr_sortedPO (by rfl) T.z_sorted (by decide +kernel) (pa_cons (dp (df (dlc (tcN 3) one_tr (pe_lc (own := [("pair", 3)]) (g := gName 3) (by rfl) sc_holds.nd (diL (dv 1 (pv 1))) (blkOk_by (own := [("pair", 3)]) (N := ["bag", "pairs", "good", "pair", "row", "key", "many", "told"]) (sc := defScope q_holds) (by decide +kernel)) (fun _ _ _ _ _ => pg_name (i := 3) sc_holds.nd rfl (Or.inl rfl)) (fun _ _ _ _ _ => (pts_one (dtcmp kGt opGt (dp (dix oIx opIx (dvP 3 (pv 3)) (dp dc_int) (fun _ _ => rfl))) (dp dc_int) (nomark _)))) (fun _ _ _ _ _ => (dv 3 (pv 3))))))) pa_nil)))))
    (dss (dasg 4 (fun _ h => ps_set (i := 4) sc_holds.nd rfl (Or.inl rfl) h) (dlst dan))
    (dss (dfor PassesOwn.never rfl (diL (dv 2 (pv 2))) (pg_tup rfl (pgs_cons (pg_name (i := 5) sc_holds.nd rfl (Or.inl rfl)) (pgs_cons (pg_name (i := 6) sc_holds.nd rfl (Or.inl rfl)) pgs_nil))) (tgP 5 6) (dss1 (dasg 4 (fun _ h => ps_set (i := 4) sc_holds.nd rfl (Or.inl rfl) h) (dop oAdd opAdd (dvP 4 (pv 4)) (dp (dop op_rep opMulL (dp (dlst (dac (dv 5 (pv 5)) dan))) (dvP 6 (pv 6))))))))
    (dss (difS (PW.pt (dor (dnot (dtru (dp (disC T.ci_Bag (pe_callB call_isi (by rfl) T.z_isinstance (by decide +kernel) (pa_cons (dv 0 (pv 0)) (pa_cons (pe_glob (by rfl) T.c_Bag (by rfl)) pa_nil))))))) (dor (dnot (dtru (dp (dcall (pe_dc (h_same T 2) hr (dac (dprop (pe_dp T.cl_Bag (hp_Bag_numbers T) hr (dv 0 (pv 0)))) (dac (dcb clTup (pe_callTy cTup (by rfl) T.z_tuple (by decide +kernel) (dbc (dvP 4 (pv 4)) dbn))) dan))))))) (dor1 (dnot (dtru (dp (dcall (pe_dc (h_same T 2) hr (dac (dlenI (pe_callB (call_lenI (hm_Bag___len__ T) hr) (by rfl) T.z_len (by decide +kernel) (pa_cons (dv 0 (pv 0)) pa_nil))) (dac (dcb clLen (pe_callB cLen (by rfl) T.z_len (by decide +kernel) (dbc (dvP 4 (pv 4)) dbn))) dan))))))))))) (dss1 (dret dc_bl)) dss0)
    (dss (dfor PassesOwn.never rfl (diL (dv 1 (pv 1))) (pg_tup rfl (pgs_cons (pg_name (i := 5) sc_holds.nd rfl (Or.inl rfl)) (pgs_cons (pg_name (i := 6) sc_holds.nd rfl (Or.inl rfl)) pgs_nil))) (tgP 5 6) (dss1 (difS (PW.pt (dor (dnot (dtru (dp (dcall (pe_dc (h_same T 2) hr (dac (dmeth (pe_dm T.cl_Bag (hm_Bag_times T) hr (dv 0 (pv 0)) (dac (dv 5 (pv 5)) dan))) (dac (dv 6 (pv 6)) dan))))))) (dor1 (dnot (dtru (dp (dcall (pe_dc (h_same T 2) hr (dac (dcmpI (op_inI (hm_Bag___contains__ T) hr) opInI (dv 5 (pv 5)) (dv 0 (pv 0)) (by rfl)) (dac (dcmp kGt opGt (dvP 6 (pv 6)) (dp dc_int) (nomark _)) dan)))))))))) (dss1 (dret dc_bl)) dss0)))
    (dss (dasgFD 7 (fun _ h => ps_set (i := 7) sc_holds.nd rfl (Or.inl rfl) h) (dmethFD (pe_dm0 T.cl_Bag (hFD_Bag_table T) hr (dv 0 (pv 0)))))
    (dss (difS (PW.pt (dor (dnot (dtru (dp (dcallB (pe_dc (hd_same T) hr (dac (dv 7 (pv 7)) (dac (dcallN (pe_dc (h_dict T) hr (dac (dv 2 (pv 2)) dan))) dan))))))) (dor1 (dnot (dtru (dp (dcall (pe_dc (h_same T 2) hr (dac (dprop (pe_dp T.cl_Bag (hp_Bag_total T) hr (dv 0 (pv 0)))) (dac (dcb clSumA (pe_callB (cr_sumA rfl) (by rfl) T.z_sum (by decide +kernel) (dbc (dvP 4 (pv 4)) dbn))) dan)))))))))) (dss1 (dret dc_bl)) dss0)
    (dss (dputD 7 (ps_dput (hu_of hr) (pv 7) (dc (pe_powc pe_int pe_int 100000000000000000000000000000000000000000 (by decide +kernel)) (fun _ _ => .int _)) dc_int rfl))
    (dss (dputD 7 (ps_dput (hu_of hr) (pv 7) dc_int dc_int rfl))
    (dss1 (dret (dandV (dcall (pe_dc (hd_same T) hr (dac (dmeth0 (pe_dm0 T.cl_Bag (hm_Bag_table T) hr (dv 0 (pv 0)))) (dac (dcallN (pe_dc (h_dict T) hr (dac (dv 2 (pv 2)) dan))) dan)))) (done (dcall (pe_dc (h_same T 2) hr (dac (dcmpI (op_eqI (hm_Bag___eq__ T) hr) (opEqI T.nf_Bag) (dCM (pe_cmS (hc_Bag_counted T) T.c_Bag hr passNS (dac (dmeth0 (pe_dm0 T.cl_Bag (hm_Bag_table T) hr (dv 0 (pv 0)))) dan))) (dv 0 (pv 0)) (nomark _)) (dac dc_bl dan)))))))))))))))))
theorem sc_refuses : FnScope ["store", "pairs", "wrong", "k", "at", "due", "pair", "table", "e"] ["store", "pairs"] (defScope q_refuses) := ⟨rfl, rfl, rfl, by decide +kernel, rfl, by decide +kernel, by decide +kernel⟩
theorem h_refuses (T : Txt K mg) : Has P w K mg base "_law_refuses" 6 ["store", "pairs"] (dsp ((s_ref5 K))) := by
  refine has_of (N := ["store", "pairs", "wrong", "k", "at", "due", "pair", "table", "e"]) (k := 5) (t := liftS (fun _ _ _ _ => False) (w_ref5 K)) T.g_refuses T.F_refuses sc_refuses (len_dsp ((l_ref5 K))) (fun _ _ _ _ _ _ us hl => match us, hl with | [_, _], _ => rfl) (fun cdv A outer s H E hr => ?_) (dl_start ((o_ref5 K)))
  exact (dss (dasgO 2 (fun _ h => ps_set (i := 2) sc_refuses.nd rfl (Or.inl rfl) h) (dlistF (fun _ h => pe_callTy cList (by rfl) T.z_list (by decide +kernel) (pa_cons h pa_nil)) (dvP 1 (pv 1))))
    (dsc (difS (dnot (dtru (dvP 2 (pv 2)))) (dss1 (dasgO 2 (fun _ h => ps_set (i := 2) sc_refuses.nd rfl (Or.inl rfl) h) (dlstF (dac (dtup (dac dc_int (dac dc_int dan))) dan)))) dss0)
    (dss (dfor PassesOwn.never rfl (diR1 (fun _ h => pi_range1 (by rfl) T.z_range h) (dac (dop oAdd opAdd (dp dc_int) (dp (dcall (pe_dc (h_take T) hr (dac (dv 0 (pv 0)) (dac dc_int dan)))))) dan)) (pg_name (i := 3) sc_refuses.nd rfl (Or.inl rfl)) (tgN 3) (dss (dasg 4 (fun _ h => ps_set (i := 4) sc_refuses.nd rfl (Or.inl rfl) h) (dcall (pe_dc (h_number T) hr (dac (dv 0 (pv 0)) (dac dc_int (dac (dop oSub opSub (dp (dcb clLen (pe_callB cLen (by rfl) T.z_len (by decide +kernel) (dbc (dvP 2 (pv 2)) dbn)))) (dp dc_int)) dan))))))
    (dss1 (dsetO 2 (ps_asg (dtup (dac (dix oIx opIx (dp (dix oIx opIx (dvP 2 (pv 2)) (dvP 4 (pv 4)) (fun _ _ => rfl))) (dp dc_int) (fun _ _ => rfl)) (dac (dcall (pe_dc (h_not_integer T) hr (dac (dv 0 (pv 0)) (dac dc_int (dac dc_int dan))))) dan))) (pg_sub (pv 2) (dv 4 (pv 4)) oSet))))))
    (dfz (dss (dasg 5 (fun _ h => ps_set (i := 5) sc_refuses.nd rfl (Or.inl rfl) h) (dix oIx opIx (dp (df (dlc (tcN 6) one_tr (pe_lc (own := [("pair", 6)]) (g := gName 6) (by rfl) sc_refuses.nd (diL (dv 2 (pv 2))) (blkOk_by (own := [("pair", 6)]) (N := ["store", "pairs", "wrong", "k", "at", "due", "pair", "table", "e"]) (sc := defScope q_refuses) (by decide +kernel)) (fun _ _ _ _ _ => pg_name (i := 6) sc_refuses.nd rfl (Or.inl rfl)) (fun _ _ _ _ _ => (pts_one (PW.pt (dor (dnot (dtru (dp (dcall (pe_dc (h_is_integer T) hr (dac (dix oIx opIx (dvP 6 (pv 6)) (dp dc_int) (fun _ _ => rfl)) dan)))))) (dor (dtcmp kLt opLt (dp (dix oIx opIx (dvP 6 (pv 6)) (dp dc_int) (fun _ _ => rfl))) (dp dc_int) (nomark _)) (dor1 (dtcmp kGt opGt (dp (dix oIx opIx (dvP 6 (pv 6)) (dp dc_int) (fun _ _ => rfl))) (dp dc_int) (nomark _)))))))) (fun _ _ _ _ _ => (dix oIx opIx (dvP 6 (pv 6)) (dp dc_int) (fun _ _ => rfl))))))) (dp dc_int) (fun _ _ => rfl)))
    (dss (dasg 7 (fun _ h => ps_set (i := 7) sc_refuses.nd rfl (Or.inl rfl) h) (dcallN (pe_dc (h_dict T) hr (dac (dv 2 (pv 2)) dan))))
    (dss (dtry (LN T) (ps_tryA (i := 8) (c := .ref (He.ga K "NestError")) rfl rfl sc_refuses.nd rfl rfl ⟨by rfl, by decide, .inl T.c_NestError⟩ tkNone (fun W pn xe tk _ => (dss1 (ddropCM (fun _ h => ps_expr h) (pe_cmS (hc_Bag_counted T) T.c_Bag hr (fun σ => L2N.passAt tk σ) (dac (dv 7 (pv 7)) dan))))) (fun a oe cls d pn hz hf => (dss (difS (dnot (dtru (dp (dcall (pe_hc (hh_same T 2) (roomS hr) (hotS hz hf) (dac (dkd (LE T) LS (pe_kdF (fun C b F G Z => hh_kinds T F G Z hf) (roomS hr) hz hf (pv 8))) (dac (dlst (dac dc_str (dac dc_str (dac dc_str dan)))) dan))))))) (dss1 (dret dc_bl)) dss0)
    (dss1 (dret (dandV (dcall (pe_hc (hh_same T 2) (roomS hr) (hotS hz hf) (dac (dxf (LX T) (pe_xfE hz hf (pv 8))) (dac (dv 5 (pv 5)) dan)))) (done (dcall (pe_hc (hh_same T 2) (roomS hr) (hotS hz hf) (dac (ditems (pe_listItemsH (hotS hz hf).c (dv 7 (pv 7)) (by rfl) T.z_list (by decide +kernel))) (dac (dv 2 (pv 2)) dan))))))))))))
    (dss1 (dret dc_bl)))))))))
theorem sc_law : FnScope ["script", "store", "pairs", "handed", "bag", "twin"] ["script"] (defScope q_law) := ⟨rfl, rfl, rfl, by decide +kernel, rfl, by decide +kernel, by decide +kernel⟩
theorem h_law (T : Txt K mg) : ∃ fd, (∀ (s : Shared) (u : Value), BindsTo s fd ⟨[u], []⟩ [("script", u)]) ∧ ∀ base : Heap, FnOk P w K mg base CX0 8 (He.ga K "law") fd ["script"] (sp_lawS K) := by
  obtain ⟨fd, F⟩ := T.F_law
  have b := FunD.bindsA (ps := ["script"]) F fun _ _ _ _ _ _ us hl => match us, hl with | [_], _ => rfl
  refine ⟨fd, fun s v => b s [v] rfl, fun base => law_of (N := ["script", "store", "pairs", "handed", "bag", "twin"]) (k := 7) (t := t_lawS K (fun _ _ _ _ => False) (w_law05 K)) F sc_law (l_lawS K) (fun cdv A outer s H E hr => ?_) (p_lawS K (n := 4) rfl (o_law05 K))⟩
  exact (pss_cons (ps_set (i := 1) sc_law.nd rfl (Or.inl rfl) (pe_dc (h_store T) hr (pa_cons (pv 0) pa_nil)))
    (dss (dasg 2 (fun _ h => ps_set (i := 2) sc_law.nd rfl (Or.inl rfl) h) (dcall (pe_dc (h_pairs T) hr (dac (dv 1 (pv 1)) dan))))
    (dss (dasgFD 3 (fun _ h => ps_set (i := 3) sc_law.nd rfl (Or.inl rfl) h) (dcallFD (pe_dc (hF_dict T) hr (dac (dv 2 (pv 2)) dan))))
    (dss (dasgCM 4 3 (fun _ h => ps_set (i := 4) sc_law.nd rfl (Or.inl rfl) h) (pe_cmS (hc_Bag_counted T) T.c_Bag hr passNS (pa_cons (pv 3) pa_nil)))
    (dss (difS (PW.pt (dor (dnot (dtru (dp (dcall (pe_dc (h_holds T) hr (dac (dv 4 (pv 4)) (dac (dv 2 (pv 2)) dan))))))) (dor1 (dnot (dtru (dp (dcall (pe_dc (h_same T 2) hr (dac (ditemsO 3 (pe_listItemsR rfl (pv 3) (by rfl) T.z_list (by decide +kernel))) (dac (dv 2 (pv 2)) dan)))))))))) (dss1 (dret dc_bl)) dss0)
    (dss (dputD 3 (ps_dput (hu_of hr) (pv 3) dc_int dc_int rfl))
    (dss (dasg 5 (fun _ h => ps_set (i := 5) sc_law.nd rfl (Or.inl rfl) h) (dCM (pe_cmS (hc_Bag_counted T) T.c_Bag hr passNS (dac (dcallN (pe_dc (h_dict T) hr (dac (dlrev (pe_listRev rfl (by rfl) T.z_list (by rfl) T.z_reversed (dvP 2 (pv 2)))) dan))) dan))))
    (dss (difS (PW.pt (dor (dnot (dtru (dp (dcall (pe_dc (h_refuses T) hr (dac (dv 1 (pv 1)) (dac (dv 2 (pv 2)) dan))))))) (dor (dnot (dtru (dp (dcall (pe_dc (h_holds T) hr (dac (dv 5 (pv 5)) (dac (dv 2 (pv 2)) dan))))))) (dor1 (dnot (dtru (dp (dcall (pe_dc (h_holds T) hr (dac (dv 4 (pv 4)) (dac (dv 2 (pv 2)) dan))))))))))) (dss1 (dret dc_bl)) dss0)
    (dss1 (dret (dandV (dcall (pe_dc (h_same T 2) hr (dac (dcmpI (op_eqI (hm_Bag___eq__ T) hr) (opEqI T.nf_Bag) (dv 4 (pv 4)) (dv 5 (pv 5)) (nomark _)) (dac dc_bl dan)))) (done (dcall (pe_dc (h_holds T) hr (dac (dCM (pe_cmS (hc_Bag_counted T) T.c_Bag hr passNS (dac (dcallN (pe_dc (h_dict T) hr (dac (dv 2 (pv 2)) dan))) dan))) (dac (dv 2 (pv 2)) dan))))))))))))))))
end
end DL
namespace DL
open PySem PySem.Spec PyProof.Rows L2 NW
theorem pnAt {K : PySem.W.Frag} (h : (pn.map fun d => He5.fnA K (d.at_ K)) = pn.map He5.DefA.val) (i : Nat) {d : He5.DefA} (e : pn[i]? = some d) : He5.fnA K (d.at_ K) = d.val := by
  have e2 : (pn.map fun d => He5.fnA K (d.at_ K))[i]? = (pn.map He5.DefA.val)[i]? := by rw [h]
  rw [List.getElem?_map, List.getElem?_map, e] at e2
  exact Option.some.inj e2
theorem txt {K : PySem.W.Frag} {h : Heap} {mg : Str → Option Value} (X : K.In h) (G : h.Ns mainGlobals mg) (c : He.SaysD fa fn K) (ok : (okL K).all id = true) (pv : (pn.map fun d => He5.fnA K (d.at_ K)) = pn.map He5.DefA.val) : Txt K mg := by
  constructor
  · exact He.glo_ok X G (c.fact 0 (f := .glo "_law_mix") rfl)
  · exact c.def_ 0 (d := d_mix) rfl
  · exact He.glo_ok X G (c.fact 1 (f := .glo "_law_take") rfl)
  · exact c.def_ 1 (d := d_take) rfl
  · exact He.glo_ok X G (c.fact 2 (f := .glo "_law_store") rfl)
  · exact c.def_ 2 (d := d_store) rfl
  · exact He.glo_ok X G (c.fact 3 (f := .glo "_law_same") rfl)
  · exact c.def_ 3 (d := d_same) rfl
  · exact He.glo_ok X G (c.fact 4 (f := .glo "_law_kinds") rfl)
  · exact c.def_ 4 (d := d_kinds) rfl
  · exact He.glo_ok X G (c.fact 5 (f := .glo "_law_edge") rfl)
  · exact c.def_ 5 (d := d_edge) rfl
  · exact He.glo_ok X G (c.fact 6 (f := .glo "_law_number") rfl)
  · exact c.def_ 6 (d := d_number) rfl
  · exact He.glo_ok X G (c.fact 7 (f := .glo "_law_pick") rfl)
  · exact c.def_ 7 (d := d_pick) rfl
  · exact He.glo_ok X G (c.fact 8 (f := .glo "_law_shuffled") rfl)
  · exact c.def_ 8 (d := d_shuffled) rfl
  · exact He.glo_ok X G (c.fact 9 (f := .glo "_law_not_integer") rfl)
  · exact c.def_ 9 (d := d_not_integer) rfl
  · exact He.glo_ok X G (c.fact 10 (f := .glo "_law_integer") rfl)
  · exact c.def_ 10 (d := d_integer) rfl
  · exact He.glo_ok X G (c.fact 11 (f := .glo "_law_integers") rfl)
  · exact c.def_ 11 (d := d_integers) rfl
  · exact He.glo_ok X G (c.fact 12 (f := .glo "_law_is_integer") rfl)
  · exact c.def_ 12 (d := d_is_integer) rfl
  · exact He.glo_ok X G (c.fact 13 (f := .glo "_law_pairs") rfl)
  · exact c.def_ 13 (d := d_pairs) rfl
  · exact He.glo_ok X G (c.fact 14 (f := .glo "_law_dict") rfl)
  · exact c.def_ 14 (d := d_dict) rfl
  · exact He.glo_ok X G (c.fact 15 (f := .glo "is_number") rfl)
  · exact c.def_ 15 (d := d_Pis_number) rfl
  · exact He.glo_ok X G (c.fact 16 (f := .glo "_law_holds") rfl)
  · exact c.def_ 16 (d := d_holds) rfl
  · exact He.glo_ok X G (c.fact 17 (f := .glo "_law_refuses") rfl)
  · exact c.def_ 17 (d := d_refuses) rfl
  · exact He.glo_ok X G (c.fact 18 (f := .glo "law") rfl)
  · exact c.def_ 18 (d := d_law) rfl
  · exact He.free_ok X G (c.fact 54 (f := .free "ValueError") rfl)
  · exact He.free_ok X G (c.fact 55 (f := .free "abs") rfl)
  · exact He.free_ok X G (c.fact 56 (f := .free "bool") rfl)
  · exact He.free_ok X G (c.fact 57 (f := .free "dict") rfl)
  · exact He.free_ok X G (c.fact 58 (f := .free "int") rfl)
  · exact He.free_ok X G (c.fact 59 (f := .free "isinstance") rfl)
  · exact He.free_ok X G (c.fact 60 (f := .free "len") rfl)
  · exact He.free_ok X G (c.fact 61 (f := .free "list") rfl)
  · exact He.free_ok X G (c.fact 62 (f := .free "max") rfl)
  · exact He.free_ok X G (c.fact 63 (f := .free "min") rfl)
  · exact He.free_ok X G (c.fact 64 (f := .free "range") rfl)
  · exact He.free_ok X G (c.fact 65 (f := .free "reversed") rfl)
  · exact He.free_ok X G (c.fact 66 (f := .free "set") rfl)
  · exact He.free_ok X G (c.fact 67 (f := .free "sorted") rfl)
  · exact He.free_ok X G (c.fact 68 (f := .free "str") rfl)
  · exact He.free_ok X G (c.fact 69 (f := .free "sum") rfl)
  · exact He.free_ok X G (c.fact 70 (f := .free "tuple") rfl)
  · exact He.int_ok X G (c.fact 71 (f := .int "MOST_TIMES" 100) rfl)
  · exact He.glo_ok X G (c.fact 19 (f := .glo "BadClaim") rfl)
  · exact He.glo_ok X G (c.fact 20 (f := .glo "BadCount") rfl)
  · exact He.glo_ok X G (c.fact 21 (f := .glo "BadName") rfl)
  · exact He.glo_ok X G (c.fact 22 (f := .glo "BadNumber") rfl)
  · exact He.glo_ok X G (c.fact 23 (f := .glo "BadOrder") rfl)
  · exact He.glo_ok X G (c.fact 24 (f := .glo "BadText") rfl)
  · exact He.glo_ok X G (c.fact 25 (f := .glo "BadWeight") rfl)
  · exact He.glo_ok X G (c.fact 26 (f := .glo "BadWish") rfl)
  · exact He.glo_ok X G (c.fact 27 (f := .glo "Bag") rfl)
  · exact He.glo_ok X G (c.fact 28 (f := .glo "Broken") rfl)
  · exact He.glo_ok X G (c.fact 29 (f := .glo "Clash") rfl)
  · exact He.glo_ok X G (c.fact 30 (f := .glo "Idle") rfl)
  · exact He.glo_ok X G (c.fact 31 (f := .glo "Inside") rfl)
  · exact He.glo_ok X G (c.fact 32 (f := .glo "Loop") rfl)
  · exact He.glo_ok X G (c.fact 33 (f := .glo "Nailed") rfl)
  · exact He.glo_ok X G (c.fact 34 (f := .glo "NestError") rfl)
  · exact He.glo_ok X G (c.fact 35 (f := .glo "NoChange") rfl)
  · exact He.glo_ok X G (c.fact 36 (f := .glo "NoHolder") rfl)
  · exact He.glo_ok X G (c.fact 37 (f := .glo "NoStory") rfl)
  · exact He.glo_ok X G (c.fact 38 (f := .glo "NotComing") rfl)
  · exact He.glo_ok X G (c.fact 39 (f := .glo "NotEmpty") rfl)
  · exact He.glo_ok X G (c.fact 40 (f := .glo "NothingDone") rfl)
  · exact He.glo_ok X G (c.fact 41 (f := .glo "OrderRefused") rfl)
  · exact He.glo_ok X G (c.fact 42 (f := .glo "OtherDoors") rfl)
  · exact He.glo_ok X G (c.fact 43 (f := .glo "OtherYard") rfl)
  · exact He.glo_ok X G (c.fact 44 (f := .glo "OutOfSteps") rfl)
  · exact He.glo_ok X G (c.fact 45 (f := .glo "Refusal") rfl)
  · exact He.glo_ok X G (c.fact 46 (f := .glo "Same") rfl)
  · exact He.glo_ok X G (c.fact 47 (f := .glo "Sealed") rfl)
  · exact He.glo_ok X G (c.fact 48 (f := .glo "Short") rfl)
  · exact He.glo_ok X G (c.fact 49 (f := .glo "TooMany") rfl)
  · exact He.glo_ok X G (c.fact 50 (f := .glo "Twice") rfl)
  · exact He.glo_ok X G (c.fact 51 (f := .glo "Unbalanced") rfl)
  · exact He.glo_ok X G (c.fact 52 (f := .glo "Unknown") rfl)
  · exact He.glo_ok X G (c.fact 53 (f := .glo "Unlike") rfl)
  · exact okAt ok 0
  · have E1 := err1_ok (okAt ok 1) (okAt ok 2) (okAt ok 3) (c.def_ 19 (d := d_BadNumber) rfl)
    refine ⟨E1.o, fun f hf => ?_, E1.ex⟩
    simp only [List.mem_cons, List.not_mem_nil, or_false] at hf
    subst hf
    exact E1.n
  · exact ⟨fun c hc => errFB_ok (List.all_eq_true.mp (okAt ok 4) c hc)⟩
  · exact fun p hp => He.eqO_ok (List.all_eq_true.mp (okAt ok 5) p hp)
  · exact clsB_ok (okAt ok 6)
  · exact He.eqO_ok (okAt ok 7)
  · exact He.eqO_ok (okAt ok 8)
  · exact cinB_ok (clsB_ok (okAt ok 6)) (okAt ok 9)
  · exact nfB_ok (okAt ok 10)
  · exact ktuB_ok (okAt ok 11)
  · obtain ⟨fd, F⟩ := c.def_ 20 (d := d_PBag___init__) rfl
    exact ⟨_, fd, mkB_ok (okAt ok 12), F⟩
  · obtain ⟨fd, F⟩ := He5.DefA.funD (pnAt pv 0 (d := p_PBag_numbers) rfl) (okAt ok 14)
    exact ⟨_, _, fd, propB_ok (okAt ok 13), F⟩
  · obtain ⟨fd, F⟩ := He5.DefA.funD (pnAt pv 1 (d := p_PBag_total) rfl) (okAt ok 16)
    exact ⟨_, _, fd, propB_ok (okAt ok 15), F⟩
  · obtain ⟨fd, F⟩ := c.def_ 21 (d := d_PBag_times) rfl
    exact ⟨_, fd, methB_ok (okAt ok 17), F⟩
  · obtain ⟨fd, F⟩ := c.def_ 22 (d := d_PBag_table) rfl
    exact ⟨_, fd, methB_ok (okAt ok 18), F⟩
  · obtain ⟨fd, F⟩ := c.def_ 23 (d := d_PBag___len__) rfl
    exact ⟨_, fd, methB_ok (okAt ok 19), F⟩
  · obtain ⟨fd, F⟩ := c.def_ 24 (d := d_PBag___contains__) rfl
    exact ⟨_, fd, methB_ok (okAt ok 20), F⟩
  · obtain ⟨fd, F⟩ := c.def_ 25 (d := d_PBag___eq__) rfl
    exact ⟨_, fd, methB_ok (okAt ok 21), F⟩
  · obtain ⟨fd, F⟩ := He5.DefA.funD (pnAt pv 2 (d := p_PBag_counted) rfl) (okAt ok 23)
    have z := cmB_ok (okAt ok 22)
    exact ⟨_, _, _, fd, z.1, z.2, F⟩
end DL
open PySem PySem.W PySem.Calls PyProof.Rows
theorem PySem.Challenge.cw_nestweigh_k05_counted_bags_holds : PySem.Challenge.rw_nestweigh_k05_counted_bags.Holds := by
  refine NW.early fun hws => ?_
  refine HandSHeadRun.head_any (r := OpenLaw.row PySem.Challenge.rw_nestweigh_k05_counted_bags) (q := view (OpenLaw.row PySem.Challenge.rw_nestweigh_k05_counted_bags).prog [58]) (H := NW.hk) (ob := NW.ob) (M := 20000) (loose := NW.names) (d := HandSHeadRun.topDef (OpenLaw.row PySem.Challenge.rw_nestweigh_k05_counted_bags).prog 58) (kwd := []) NW.ob_eq
    (by kernel_rfl) (fun s => by kernel_rfl)
    NW.run (by kernel_rfl) (by kernel_rfl) (by kernel_rfl) (by rfl) (by exact hws) (by decide +kernel) ⟨rfl, rfl, rfl, rfl, rfl, by decide +kernel⟩ ?hw ?hc
  case hw => w_witness2
  case hc =>
    refine L2.walk_ofE (l := PySem.Challenge.rw_nestweigh_k05_counted_bags) (n := 63) (k := 8) (x := "script") (CX := L2.CX0) rfl (by decide) (by kernel_rfl) ⟨rfl, by decide, by decide⟩ ?F (fun _ _ _ _ z => z)
    intro w mg fa h Y G hmg0
    obtain ⟨K, KX, c, ok, pv⟩ := Y
    have T : DL.Txt K mg := DL.txt KX G c ok pv
    have hmg : mg ("law" : PySem.Str) = some (.ref fa) := by
      have e : (HandSHeadRun.topDef (OpenLaw.row PySem.Challenge.rw_nestweigh_k05_counted_bags).prog 58).name = ("law" : PySem.Str) := by kernel_rfl
      rw [← e]
      exact hmg0
    have e2 : fa = He.ga K "law" := NW.ref_inj (hmg.symm.trans T.g_law)
    rw [e2]
    obtain ⟨fd, hb, hF⟩ := DL.h_law (P := (PySem.Challenge.rw_nestweigh_k05_counted_bags).prog) (w := w) T
    exact ⟨K, fd, DL.sp_lawS K, KX, hb, fun H a ns hl _ hS => ⟨a, ns, rfl, hS, fun _ => rfl⟩, fun base _ _ => hF base⟩
