import PyProof.Rows.All
import Wide.All
import OpenK.AllK
import Wide.FinOn
import KE.KStateDown
import KE.KMathGC
import KE.KExcIs
import KE.GoesMore
import KE.GoesComp
import HandS.ForMost
import HandS.Exc
import HandS.TryOnly
import HandS.TryMany
import HandS.ExcCtx
import HandS.Hot
import HandS.HotCalls
import HandS.ExcInit
import HandS.ExcInitHot
import HandS.ExcIs
import HandS.ExcField
import HandS.WordsExc
import HandS.Defaults
import HandS.Wide
import HandS.IsInst
import HandS.Conv
import HandS.Codes
import HandS.Head0
import HandS.Head1
import HandS.Head2
import HandS.HeadEnd
import HandS.HeadHook1
import HandS.HeadHook2
import HandS.Head3
import HandS.Rev
import HandS.RevTup
import HandS.Flow
import HandS.ExcValue
import HandS.SetFor
import HandS.SortInts
import PyProof.Rows.SortShellAny
import HandS.Strs
import HandS.FStr
import HandS.MakeKwOnly
import HandS.Dict
import HandS.WordsDict
import HandS.Property
import HandS.IterVal
import KE.KOwnIter
import HandS.More
import HandS.HeadNt
import HandS.ListItems
import HandS.TupAny
import HandS.ExcOwn
import HandS.Iter
import KE.GoesEnum
import HandS.ForMost
import HandS.Conv
import HandS.DictComp
import KE.KItemsList
import HandS.Hot
import HandS.HotCalls
import HandS.ClsMeth
import HandS.SortRule
import HandS.ExcCtx
import HandS.IsInst
import PySem.Challenge.RW_nestweigh_k18_within_and_held
set_option Elab.async false
set_option linter.all false
set_option maxRecDepth 100000
set_option maxHeartbeats 4000000
set_option exponentiation.threshold 1000
namespace NW
open PySem PySem.Spec PyProof.Rows L2
def inL (l : List Str) : Str → Bool := fun s => decide (s ∈ l)
def clsFn (s : Stmt) : Stmt := match s with | .ClassDef (body := b) .. => b.getD 0 (.Pass ⟨0, 0, 0, 0⟩) | _ => .Pass ⟨0, 0, 0, 0⟩
def oexK (K : PySem.W.Frag) (C : Addr) : Bool := match K.lookup C with
  | some ⟨.type "type", _, .cls cd, sl⟩ => (match cd.mro, sl.toList with
    | .ref C' :: bm, [_, _, _, _, some (.builtin n), _] => C' == C && n == "ValueError.__new__" && !cd.hasDel && cd.hasDict && PySem.HandSPX.refsVE bm
    | _, _ => false)
  | _ => false
def oexB (K : PySem.W.Frag) (C : Addr) : Bool := oexK K C && (He.eqO (PySem.W.findIn K (.ref C) "__setattr__") (some (some (.builtin "object.__setattr__"))) && (decide (PySem.W.subIn K (.ref C) (.type "BaseException") = some true) && (decide (PySem.W.typeIn K (.ref C) = some (.type "type")) && PySem.W.keepIn K (.ref C))))
def excCB (K : PySem.W.Frag) (D : Addr) : Bool := He.eqO (PySem.W.findIn K (.ref D) "__getattribute__") (some (some (.builtin "BaseException.__getattribute__"))) && (He.eqO (PySem.W.findIn K (.ref D) "__getattr__") (some none) && (decide (PySem.W.subIn K (.ref D) (.type "BaseException") = some true) && (PySem.W.hasDictIn K D &&
  (He.eqO (PySem.W.findIn K (.ref D) "__class__") (some (some (.builtin "object.__class__"))) && (He.eqO (PySem.W.specialIn K (.builtin "object.__class__") "__get__") (some (some (.builtin "getset_descriptor.__get__"))) && (decide (PySem.W.takesIn K (.builtin "object.__class__") = some true) && decide (PySem.W.mroIn K D (.type "object") = some true)))))))
def iniB (K : PySem.W.Frag) (C : Addr) : Bool := He.eqO (PySem.W.findIn K (.ref C) "__init__") (some (some (.ref (He.ma K C "__init__")))) && decide (PySem.W.typeIn K (.ref (He.ma K C "__init__")) = some (.type "function"))
end NW
namespace NW
open PySem PySem.Spec PyProof.Rows L2
end NW
namespace NW
open PySem PySem.Spec PyProof.Rows L2
def clsB (K : PySem.W.Frag) (C : Addr) : Bool := PySem.W.plainGet K C Str.empty && (PySem.W.hasDictIn K C && (PySem.W.plainOver K C && He.eqO (PySem.W.findIn K (.ref C) "__setattr__") (some (some (.builtin "object.__setattr__")))))
def methB (K : PySem.W.Frag) (C : Addr) (m : Str) : Bool := He.eqO (PySem.W.findIn K (.ref C) m) (some (some (.ref (He.ma K C m)))) && (PySem.W.isFn K (.ref (He.ma K C m)) && PySem.W.keepIn K (.ref (He.ma K C m)))
def mkB (K : PySem.W.Frag) (C : Addr) : Bool := PySem.W.makesIn K C && (He.eqO (PySem.W.findIn K (.ref C) "__init__") (some (some (.ref (He.ma K C "__init__")))) && (PySem.W.isFn K (.ref (He.ma K C "__init__")) && PySem.W.keepIn K (.ref C)))
def propB (K : PySem.W.Frag) (C : Addr) (f : Str) : Bool := He.eqO (PySem.W.findIn K (.ref C) f) (some (some (.ref (He.ma K C f)))) && (He.eqO (PySem.W.specialIn K (.ref (He.ma K C f)) "__get__") (some (some (.builtin "property.__get__"))) && (decide (PySem.W.takesIn K (.ref (He.ma K C f)) = some true) && (match PySem.W.recIn K (He.ma K C f) "property" with
  | some (.ref _ :: _) => true
  | _ => false)))
def cinB (K : PySem.W.Frag) (C : Addr) : Bool := He.eqO (PySem.W.findIn K (.ref C) "__class__") (some (some (.builtin "object.__class__"))) && (He.eqO (PySem.W.specialIn K (.builtin "object.__class__") "__get__") (some (some (.builtin "getset_descriptor.__get__"))) && (decide (PySem.W.takesIn K (.builtin "object.__class__") = some true) && (decide (PySem.W.mroIn K C (.type "object") = some true) &&
  (decide (PySem.W.kitOne K (.ref C) (.ref C) = some true) && (decide (PySem.W.kitOne K (.type "NoneType") (.ref C) = some false) && (decide (PySem.W.kitOne K (.type "list") (.ref C) = some false) && decide (PySem.W.kitOne K (.type "tuple") (.ref C) = some false)))))))
def nfB (K : PySem.W.Frag) (C : Addr) : Bool := PySem.W.notFirst K C (.type "NoneType") && (PySem.W.notFirst K C (.type "list") && (PySem.W.notFirst K C (.type "tuple") && PySem.W.notFirst K C (.ref C)))
def mthS (s : Stmt) (i : Nat) : Stmt := match s with | .ClassDef (body := b) .. => b.getD i (.Pass ⟨0, 0, 0, 0⟩) | _ => .Pass ⟨0, 0, 0, 0⟩
end NW
namespace NW
open PySem PySem.Spec PyProof.Rows L2
end NW
namespace NW
open PySem PySem.Spec PyProof.Rows L2
/-- where a keyword-only default that is an object stands -/
def kwAt (f : Str × Option Str) (x : Str) (K : PySem.W.Frag) : Addr := match K.lookup (He.fAd K f) with
  | some ⟨_, _, .func fd, _⟩ => (match fd.kwdefaults with
    | .ref D => (match PySem.W.nsIn K D x with
      | some (some (.ref a)) => a
      | _ => 0)
    | _ => 0)
  | _ => 0
/-- a class's constant is the whole number i -/
def cvB (K : PySem.W.Frag) (C : Addr) (f : Str) (i : Int) : Bool := PySem.W.readsIn K C (.type "type") && (match PySem.W.findCls K (.ref C) (.type "type") f with
  | some (.val (.int j _)) => decide (j = i)
  | _ => false)
end NW
namespace NW
open PySem PySem.Spec PyProof.Rows L2
def hookL (as : List Addr) (fa : List He.Fa) (fn : List He.DefD) (pn : List He5.DefA) (ok : PySem.W.Frag → List Bool) : PySem.W.Hook where
  α := He.AlD × Bool × List He.FnW
  obs := fun s => (He.obsD fa fn (He.frG s.heap.get? as), (ok (He.frG s.heap.get? as)).all id, pn.map fun d => He5.fnA (He.frG s.heap.get? as) (d.at_ (He.frG s.heap.get? as)))
  val := fun _ => (He.valD fn, true, pn.map He5.DefA.val)
  says := fun _ h => ∃ K : PySem.W.Frag, K.In h ∧ He.SaysD fa fn K ∧ (ok K).all id = true ∧ (pn.map fun d => He5.fnA K (d.at_ K)) = pn.map He5.DefA.val
  of := fun _ _ e => ⟨_, He.frG_in, congrArg (fun z : He.AlD × Bool × List He.FnW => z.1) e, congrArg (fun z : He.AlD × Bool × List He.FnW => z.2.1) e, congrArg (fun z : He.AlD × Bool × List He.FnW => z.2.2) e⟩
  keeps := fun _ _ _ ⟨K, hK, c⟩ k => ⟨K, PySem.W.Frag.In.keeps hK k, c⟩
def obsL (as : List Addr) (fa : List He.Fa) (fn : List He.DefD) (pn : List He5.DefA) (ok : PySem.W.Frag → List Bool) (g : Addr → Option Obj) : He.AlD × Bool × List He.FnW := let K := He.frG g as
  (He.obsD fa fn K, (ok K).all id, pn.map fun d => He5.fnA K (d.at_ K))
theorem obsL_eq {as : List Addr} {fa : List He.Fa} {fn : List He.DefD} {pn : List He5.DefA} {ok : PySem.W.Frag → List Bool} {g : Addr → Option Obj} {s : Shared} (h : ∀ a, g a = s.heap.get? a) : obsL as fa fn pn ok g = (hookL as fa fn pn ok).obs s := by
  have e : g = s.heap.get? := funext h
  rw [e] <;> rfl
end NW
namespace NW
open PySem PySem.Spec PyProof.Rows L2
abbrev Clause := Value × Option Nat × (Addr → Value → Option Addr → TS)
def outD : Option Nat → Ends → Ends
  | none, D => D
  | some i, D => ⟨fun σ H => D.nx (σ.set i none) H, D.rt, fun σ H => D.bk (σ.set i none) H, fun σ H => D.ct (σ.set i none) H⟩
def inS : Option Nat → Addr → L2.St → L2.St
  | none, _, σ => σ
  | some i, a, σ => σ.set i (some (.ref a))
def wCl (K : PySem.W.Frag) (Wout : L2.WX) (D : Ends) : List Clause → L2.WX
  | [] => Wout
  | (c, o, ts) :: l => fun cls d σ H => ∃ b, PySem.W.exmOne K cls c = some b ∧ (b = true → ∀ a, H a = none → ts a cls d (outD o D) (inS o a σ) H) ∧ (b = false → wCl K Wout D l cls d σ H)
def NmAt (X : Cx) : Option Str → Option Nat → Prop
  | none, none => True
  | some n, some i => X.N.Nodup ∧ X.N[i]? = some n ∧ X.env.kindOf n = some .local
  | _, _ => False
inductive ClOk (X : Cx) : List ExceptHandler → List Clause → Prop
  | nil : ClOk X [] []
  | cons {x : Str} {c : Value} {o : Option Nat} {on : Option Str} {ts : Addr → Value → Option Addr → TS} {st : Stmt} {sts : List Stmt} {p1 p2 : Pos} {hds : List ExceptHandler} {l : List Clause} (hc : Names X x c) (hn : NmAt X on o)
      (hsu : ∀ (a : Addr) (oe : Obj) (cls : Value) (d : Option Addr) (pn : List (Addr × Obj)), L2N.Zn cls d oe → (∃ vs, oe.data = .fields vs) → PSs (X.suite a ((a, oe) :: pn)) (st :: sts) (ts a cls d)) (r : ClOk X hds l) :
      ClOk X (.ExceptHandler (some (.Name x p1)) on (st :: sts) p2 :: hds) ((c, o, ts) :: l)
section
variable {X : Cx} {body : List Stmt} {h1 : ExceptHandler} {hds : List ExceptHandler} {l : List Clause} {pos : Pos} {tb : L2.WX → TS} {Wout : L2.WX}
theorem ps_tryM (hs : X.stack = X.env :: X.outer) (hf : X.env.frame = some X.env.locals) (tk : L2N.Takes X Wout)
    (hb : ∀ (W : L2.WX) (pn : List (Addr × Obj)) (xe : Value → Shared → Prop), L2N.Takes (X.tr pn xe) W → PassesOwn (model X.prog X.w) X.A X.env xe → PSs (X.tr pn xe) body (tb W))
    (hh : ClOk X (h1 :: hds) l) : PS X (.Try body (h1 :: hds) [] [] pos) (fun D σ H => tb (wCl X.K Wout D l) D σ H) := by
  constructor
  intro pins s σ H D I hw
  have fr : X.A.frames = some (X.env :: X.outer) := I.ok.frames.trans (congrArg some hs)
  have ran := (hb (wCl X.K Wout D l) (X.pn ++ pins) (fun x q1 => wpAny (model X.prog X.w) X.A (noteFrame x X.env) (fun _ q2 => wpAny (model X.prog X.w) X.A (setFlight x none) (fun _ q3 => wpAny (model X.prog X.w) X.A (handleBy x X.env (h1 :: hds)) (SP X pins D) X.xe q3) X.xe q2) X.xe q1)
    (fun u sq xx => by
      obtain ⟨a, B, sb, pb, ρ, G, cls, d, rfl, Jb, nb, up, sky, na, os, ag, w⟩ := xx
      have J : Inv X pins ρ G sb := Jb.ofTry I.ok
      rw [hs] at sky
      refine L2N.Sky.land (s := sq) L2N.Zn.steady fr hf sky fun hA flA upA => ?_
      have JA : Inv X pins ρ G { sq with heap := hA } := J.landed nb flA.1 (up.trans upA) os ag
      obtain ⟨oA, vA, gA, zA, dA⟩ := flA.there
      have off : ∀ e ∈ X.env :: X.outer, e.frame ≠ some a := fun e he ef => by
        obtain ⟨_, o', g', nf⟩ := flA.2.2.1.mem (List.mem_filterMap.mpr ⟨e, he, ef⟩)
        rw [gA] at g'
        injection g' with g'
        exact nf vA (g' ▸ dA)
      have nL : a ≠ X.env.locals := fun z => off X.env List.mem_cons_self (by rw [hf, z])
      have nF : a ∉ X.fs := fun z => by
        obtain ⟨e, he, q⟩ := List.mem_filterMap.mp z
        exact off e (List.mem_cons_of_mem _ he) q
      have SA := JA.suite gA dA na nL nF
      have go : ∀ {hs2 : List ExceptHandler} {l2 : List Clause}, ClOk X hs2 l2 → wCl X.K Wout D l2 cls d ρ G → wpAny (model X.prog X.w) X.A (handleBy (.ref a) X.env hs2) (SP X pins D) X.xe { sq with heap := hA } := by
        intro hs2 l2 ck
        induction ck with
        | nil =>
          intro w2
          apply wpAny_handleBy_nil
          obtain ⟨_, _, _, ob, wb, T, _, _, gb, _, db, e1, _⟩ := id flA
          unfold PySem.passOn
          apply wpAny_bind
          apply wpAny_field gb db e1
          rw [if_neg (by simp : ¬ ((Value.ref T == Value.none) = true))]
          have on_ : wpAny (model X.prog X.w) X.A (setFlight (.ref a) X.env.frame) (fun _ q4 => wpAny (model X.prog X.w) X.A (throw (.ref a) : Sem Flow) (SP X pins D) X.xe q4) X.xe { sq with heap := hA } := by
            rw [hf]
            exact HandSPX.setFlight_upZ flA fun hB flB upB => wpAny_throw (tk _ _ ⟨a, B, sb, pins, ρ, G, cls, d, rfl, J, nb, (up.trans upA).trans upB, .inr (.inr (by rw [hs]; exact flB)), na, os, ag, w2⟩)
          first
            | exact wpAny_bind (wpAny_pure (wpAny_bind on_))
            | exact wpAny_bind on_
        | @cons x c o on ts st sts p1 p2 hds3 l3 hc hn hsu r ih =>
          intro w2
          obtain ⟨b, eb, yes, no⟩ := w2
          apply wpAny_handleBy_cons (codeAny_handlers_test ?_) (by intro z; cases z)
          have lt : PySem.W.Looks (model X.prog X.w) hA (typeOf (.ref a)) cls := fun _ _ _ _ kk qq => wpAny_typeOf_ref (kk _ _ gA) (zA.1 ▸ qq)
          have lm := PySem.W.exm_one (M := model X.prog X.w) JA.kIn lt eb
          have named : ∀ {Q E : Value → Shared → Prop}, Q c { sq with heap := hA } → wpAny (model X.prog X.w) (X.A.mark (some (.ref a))) (eval (.Name x p1) X.env) Q E { sq with heap := hA } := fun {Q E} q => by
            obtain ⟨n1, n2, n3 | ⟨n3, n4, n5⟩⟩ := hc
            · exact ld_glob (X := X.suite a ((a, oA) :: (X.pn ++ pins))) SA n1 n3 q n2
            · exact ld_blt (X := X.suite a ((a, oA) :: (X.pn ++ pins))) SA n1 n3 n4 q n5 n2
          apply named
          apply lm.here
          cases b with
          | false => exact ih (no rfl)
          | true =>
            match on, o, hn with
            | none, none, _ =>
              apply codeAny_handlers_suite
              refine HandSPX.lands_againZ flA fun hB flB upB => ?_
              obtain ⟨oB, vB, gB, zB, dB⟩ := flB.there
              have JB : Inv X pins ρ G { sq with heap := hB } := J.landed nb flB.1 ((up.trans upA).trans upB) os ag
              have SB := JB.suite gB dB na nL nF
              refine wpAny_mono ((hsu a oB cls d (X.pn ++ pins) zB ⟨_, dB⟩).run [] _ _ G _ SB (yes rfl a na)) (fun f t g => ?_) fun _ _ z => z.elim
              cases f with
              | next => exact let ⟨_, _, S, q⟩ := g; ⟨_, _, S.unsuite I.ok, q⟩
              | brk => exact let ⟨_, _, S, q⟩ := g; ⟨_, _, S.unsuite I.ok, q⟩
              | cont => exact let ⟨_, _, S, q⟩ := g; ⟨_, _, S.unsuite I.ok, q⟩
              | ret u => exact let ⟨_, _, _, S, z, q⟩ := g; ⟨_, _, _, S.unsuite I.ok, z, q⟩
            | some n, some i, ⟨nd, ei, lo⟩ =>
              apply codeAny_handlers_suite_as
              refine HandSPX.lands_againZ flA fun hB flB upB => ?_
              obtain ⟨oB, vB, gB, zB, dB⟩ := flB.there
              have JB : Inv X pins ρ G { sq with heap := hB } := J.landed nb flB.1 ((up.trans upA).trans upB) os ag
              have SB := JB.suite gB dB na nL nF
              refine store_ok (X := X.suite a ((a, oB) :: (X.pn ++ pins))) (v := .ref a) SB nd ei (.inl lo) rfl (fun sc SC => ?_) (.inr lo)
              refine wpAny_mono ((hsu a oB cls d (X.pn ++ pins) zB ⟨_, dB⟩).run [] sc _ G _ SC (yes rfl a na)) (fun f t g => ?_) fun _ _ z => z.elim
              have fin : ∀ {ρ2 : L2.St} {G2 : Hp} {Q : Shared → Prop}, Inv (X.suite a ((a, oB) :: (X.pn ++ pins))) [] ρ2 G2 t → (∀ t2, Inv X pins (ρ2.set i none) G2 t2 → Q t2) → wpAny (model X.prog X.w) X.A (do bindName X.env n .none; unbindBehindTheSuite X.env n p2) (fun _ t2 => Q t2) X.xe t := fun S hq => gone_ok (S.unsuite I.ok) nd ei lo hq
              cases f with
              | next => exact let ⟨_, _, S, q⟩ := g; fin S fun _ S2 => ⟨_, _, S2, q⟩
              | brk => exact let ⟨_, _, S, q⟩ := g; fin S fun _ S2 => ⟨_, _, S2, q⟩
              | cont => exact let ⟨_, _, S, q⟩ := g; fin S fun _ S2 => ⟨_, _, S2, q⟩
              | ret u => exact let ⟨_, _, _, S, z, q⟩ := g; fin S fun _ S2 => ⟨_, _, _, S2, z, q⟩
      exact go hh w) PassesOwn.looking).run [] s σ H D (I.toTry _) hw
  apply wpAny_Try_except
  refine wpAny_mono ran (fun f t g => ?_) fun _ _ z => z
  cases f with
  | next => exact let ⟨_, _, J, q⟩ := g; wpAny_execs_nil ⟨_, _, J.ofTry I.ok, q⟩
  | brk => exact let ⟨_, _, J, q⟩ := g; ⟨_, _, J.ofTry I.ok, q⟩
  | cont => exact let ⟨_, _, J, q⟩ := g; ⟨_, _, J.ofTry I.ok, q⟩
  | ret u => exact let ⟨_, _, _, J, z, q⟩ := g; ⟨_, _, _, J.ofTry I.ok, z, q⟩
end
end NW
namespace NW
open PySem PySem.Spec PyProof.Rows L2
def errGB (K : PySem.W.Frag) (cs : List Str) (C : Addr) (b : Str → Bool) : Bool := decide (PySem.W.kitOne K (.ref C) (.type "ValueError") = some (b "ValueError")) && ((cs.all fun n => decide (PySem.W.kitOne K (.ref C) (.ref (He.ga K n)) = some (b n))) && (excCB K C && xfB K C))
end NW
namespace DL
open PySem PySem.Spec PyProof.Rows
def kindsOf : Str → List Str := fun c => if c ∈ (["Same", "Inside", "Unlike", "Nailed", "Sealed", "Idle"] : List Str) then ["ValueError", "NestError", "Refusal", c] else ["ValueError", "NestError", c]
def allErr : List Str := ["BadName", "BadWeight", "BadNumber", "BadCount", "Twice", "Short", "BadText", "Unbalanced", "Broken", "NotComing", "TooMany", "BadWish", "Clash", "OtherDoors", "NoStory", "BadOrder", "OrderRefused", "OutOfSteps", "NotEmpty", "NoChange", "NothingDone", "BadClaim", "OtherYard", "Unknown", "NoHolder", "Loop", "Same", "Inside", "Unlike", "Nailed", "Sealed", "Idle"]
def allFld : List (Str × Str) := [(("BadName" : Str), ("name" : Str)), (("Twice" : Str), ("name" : Str)), (("Unknown" : Str), ("name" : Str)), (("NoHolder" : Str), ("name" : Str)), (("Loop" : Str), ("name" : Str)), (("Same" : Str), ("name" : Str)), (("Nailed" : Str), ("name" : Str)), (("Sealed" : Str), ("name" : Str))] ++ [(("Idle" : Str), ("name" : Str)), (("Unbalanced" : Str), ("name" : Str)), (("Clash" : Str), ("name" : Str)), (("NotEmpty" : Str), ("name" : Str)), (("NoChange" : Str), ("name" : Str)), (("BadWeight" : Str), ("weight" : Str)), (("BadNumber" : Str), ("number" : Str)), (("Short" : Str), ("number" : Str))] ++ [(("BadWish" : Str), ("at" : Str)), (("BadClaim" : Str), ("claim" : Str)), (("NotComing" : Str), ("bar" : Str)), (("OrderRefused" : Str), ("line" : Str)), (("OrderRefused" : Str), ("reason" : Str)), (("OrderRefused" : Str), ("deeds" : Str)), (("OutOfSteps" : Str), ("line" : Str)), (("OutOfSteps" : Str), ("deeds" : Str))] ++ [(("Unlike" : Str), ("first" : Str)), (("Unlike" : Str), ("second" : Str)), (("Unlike" : Str), ("first_weight" : Str)), (("Unlike" : Str), ("second_weight" : Str)), (("Inside" : Str), ("inner" : Str)), (("Inside" : Str), ("outer" : Str)), (("TooMany" : Str), ("many" : Str)), (("TooMany" : Str), ("limit" : Str))] ++ [(("Broken" : Str), ("at" : Str)), (("Broken" : Str), ("reason" : Str)), (("BadCount" : Str), ("what" : Str)), (("BadCount" : Str), ("many" : Str)), (("BadText" : Str), ("line" : Str)), (("BadText" : Str), ("fault" : Str)), (("BadOrder" : Str), ("line" : Str)), (("BadOrder" : Str), ("fault" : Str))]
end DL
namespace NW
open PySem PySem.W PySem.Calls PyProof.Rows
theorem early (h : (PySem.W.OpenLaw.row PySem.Challenge.rw_nestweigh_k18_within_and_held).wellSaid = true → (PySem.W.OpenLaw.row PySem.Challenge.rw_nestweigh_k18_within_and_held).Holds) : PySem.Challenge.rw_nestweigh_k18_within_and_held.Holds := by
  w_on; o_law
  exact h (by assumption)
theorem bareR : (PySem.W.OpenLaw.row PySem.Challenge.rw_nestweigh_k18_within_and_held).prog.bare := ⟨rfl, rfl, rfl, rfl, rfl, by decide +kernel⟩
end NW
namespace NW
open PySem PySem.Spec PyProof.Rows L2
def top (i : Nat) : Stmt := PySem.Challenge.pw_nestweigh_k18_within_and_held.main.body.getD i (.Pass ⟨0, 0, 0, 0⟩)
abbrev q_mix : Stmt := top 42
abbrev q_take : Stmt := top 43
abbrev q_store : Stmt := top 41
abbrev q_same : Stmt := top 54
abbrev q_number : Stmt := top 44
abbrev q_pick : Stmt := top 45
abbrev q_shuffled : Stmt := top 46
abbrev q_sign : Stmt := top 47
abbrev q_name_of : Stmt := top 48
abbrev q_name : Stmt := top 49
abbrev q_unlike : Stmt := top 50
abbrev q_name_like : Stmt := top 51
abbrev q_names : Stmt := top 52
abbrev q_not_name : Stmt := top 53
abbrev q_marked : Stmt := top 57
abbrev q_tree : Stmt := top 55
abbrev q_weights : Stmt := top 56
abbrev q_plan_of : Stmt := top 58
abbrev q_plan : Stmt := top 59
abbrev q_Pis_name : Stmt := top 18
abbrev q_Pvalid_name : Stmt := top 19
abbrev q_Pis_number : Stmt := top 20
abbrev q_Pvalid_weight : Stmt := top 21
abbrev q_P_require_count : Stmt := top 27
abbrev q_P_require_shelves : Stmt := top 28
abbrev q_P_require_listed : Stmt := top 30
abbrev q_P_require_boxes : Stmt := top 29
abbrev q_Prequire_box : Stmt := top 24
abbrev q_Pis_holder : Stmt := top 25
abbrev q_Prequire_holder : Stmt := top 26
abbrev q_P_meets_itself : Stmt := top 34
abbrev q_Pleast_looped : Stmt := top 33
abbrev q_Pchain : Stmt := top 36
abbrev q_Pheld : Stmt := top 38
abbrev q_Pall_held : Stmt := top 39
abbrev q_Pis_within : Stmt := top 37
abbrev q_yard : Stmt := top 60
abbrev q_chain : Stmt := top 61
abbrev q_inside : Stmt := top 62
abbrev q_row : Stmt := top 63
abbrev q_any_table : Stmt := top 64
abbrev q_word : Stmt := top 65
abbrev q_asked : Stmt := top 66
abbrev q_is_row : Stmt := top 67
abbrev q_is_right : Stmt := top 68
abbrev q_is_refused : Stmt := top 69
abbrev q_law : Stmt := top 70
abbrev q_BadCount : Stmt := clsFn (top 6)
abbrev q_BadName : Stmt := clsFn (top 4)
abbrev q_BadWeight : Stmt := clsFn (top 5)
abbrev q_Loop : Stmt := clsFn (top 10)
abbrev q_NoHolder : Stmt := clsFn (top 9)
abbrev q_Twice : Stmt := clsFn (top 7)
abbrev q_Unknown : Stmt := clsFn (top 8)
abbrev q_PYard___init__ : Stmt := mthS (top 23) 2
abbrev q_PYard_is_box : Stmt := mthS (top 23) 11
abbrev q_PYard_is_shelf : Stmt := mthS (top 23) 12
abbrev q_PYard___iter__ : Stmt := mthS (top 23) 15
abbrev q_PWorld___init__ : Stmt := mthS (top 32) 0
abbrev q_PWorld_yard : Stmt := mthS (top 32) 1
abbrev q_PWorld_row : Stmt := mthS (top 32) 2
abbrev q_PWorld_holder : Stmt := mthS (top 32) 3
abbrev q_PWorld___iter__ : Stmt := mthS (top 32) 8
def d_mix : He.DefD := ⟨("_law_mix", none), "_law_mix", "_law_mix", defArgs q_mix, defBody q_mix, defScope q_mix, [], []⟩
def d_take : He.DefD := ⟨("_law_take", none), "_law_take", "_law_take", defArgs q_take, defBody q_take, defScope q_take, [], []⟩
def d_store : He.DefD := ⟨("_law_store", none), "_law_store", "_law_store", defArgs q_store, defBody q_store, defScope q_store, [], []⟩
def d_same : He.DefD := ⟨("_law_same", none), "_law_same", "_law_same", defArgs q_same, defBody q_same, defScope q_same, [], []⟩
def d_number : He.DefD := ⟨("_law_number", none), "_law_number", "_law_number", defArgs q_number, defBody q_number, defScope q_number, [], []⟩
def d_pick : He.DefD := ⟨("_law_pick", none), "_law_pick", "_law_pick", defArgs q_pick, defBody q_pick, defScope q_pick, [], []⟩
def d_shuffled : He.DefD := ⟨("_law_shuffled", none), "_law_shuffled", "_law_shuffled", defArgs q_shuffled, defBody q_shuffled, defScope q_shuffled, [], []⟩
def d_sign : He.DefD := ⟨("_law_sign", none), "_law_sign", "_law_sign", defArgs q_sign, defBody q_sign, defScope q_sign, [], []⟩
def d_name_of : He.DefD := ⟨("_law_name_of", none), "_law_name_of", "_law_name_of", defArgs q_name_of, defBody q_name_of, defScope q_name_of, [], []⟩
def d_name : He.DefD := ⟨("_law_name", none), "_law_name", "_law_name", defArgs q_name, defBody q_name, defScope q_name, [], []⟩
def d_unlike : He.DefD := ⟨("_law_unlike", none), "_law_unlike", "_law_unlike", defArgs q_unlike, defBody q_unlike, defScope q_unlike, [], []⟩
def d_name_like : He.DefD := ⟨("_law_name_like", none), "_law_name_like", "_law_name_like", defArgs q_name_like, defBody q_name_like, defScope q_name_like, [], []⟩
def d_names : He.DefD := ⟨("_law_names", none), "_law_names", "_law_names", defArgs q_names, defBody q_names, defScope q_names, [], []⟩
def d_not_name : He.DefD := ⟨("_law_not_name", none), "_law_not_name", "_law_not_name", defArgs q_not_name, defBody q_not_name, defScope q_not_name, [], []⟩
def d_marked : He.DefD := ⟨("_law_marked", none), "_law_marked", "_law_marked", defArgs q_marked, defBody q_marked, defScope q_marked, [], []⟩
def d_tree : He.DefD := ⟨("_law_tree", none), "_law_tree", "_law_tree", defArgs q_tree, defBody q_tree, defScope q_tree, [], []⟩
def d_weights : He.DefD := ⟨("_law_weights", none), "_law_weights", "_law_weights", defArgs q_weights, defBody q_weights, defScope q_weights, [], []⟩
def d_plan_of : He.DefD := ⟨("_law_plan_of", none), "_law_plan_of", "_law_plan_of", defArgs q_plan_of, defBody q_plan_of, defScope q_plan_of, [], []⟩
def d_plan : He.DefD := ⟨("_law_plan", none), "_law_plan", "_law_plan", defArgs q_plan, defBody q_plan, defScope q_plan, [], []⟩
def d_Pis_name : He.DefD := ⟨("is_name", none), "is_name", "is_name", defArgs q_Pis_name, defBody q_Pis_name, defScope q_Pis_name, [], []⟩
def d_Pvalid_name : He.DefD := ⟨("valid_name", none), "valid_name", "valid_name", defArgs q_Pvalid_name, defBody q_Pvalid_name, defScope q_Pvalid_name, [], []⟩
def d_Pis_number : He.DefD := ⟨("is_number", none), "is_number", "is_number", defArgs q_Pis_number, defBody q_Pis_number, defScope q_Pis_number, [], []⟩
def d_Pvalid_weight : He.DefD := ⟨("valid_weight", none), "valid_weight", "valid_weight", defArgs q_Pvalid_weight, defBody q_Pvalid_weight, defScope q_Pvalid_weight, [], []⟩
def d_P_require_count : He.DefD := ⟨("_require_count", none), "_require_count", "_require_count", defArgs q_P_require_count, defBody q_P_require_count, defScope q_P_require_count, [], []⟩
def d_P_require_shelves : He.DefD := ⟨("_require_shelves", none), "_require_shelves", "_require_shelves", defArgs q_P_require_shelves, defBody q_P_require_shelves, defScope q_P_require_shelves, [], []⟩
def d_P_require_listed : He.DefD := ⟨("_require_listed", none), "_require_listed", "_require_listed", defArgs q_P_require_listed, defBody q_P_require_listed, defScope q_P_require_listed, [], []⟩
def d_P_require_boxes : He.DefD := ⟨("_require_boxes", none), "_require_boxes", "_require_boxes", defArgs q_P_require_boxes, defBody q_P_require_boxes, defScope q_P_require_boxes, [], []⟩
def d_Prequire_box : He.DefD := ⟨("require_box", none), "require_box", "require_box", defArgs q_Prequire_box, defBody q_Prequire_box, defScope q_Prequire_box, [], []⟩
def d_Pis_holder : He.DefD := ⟨("is_holder", none), "is_holder", "is_holder", defArgs q_Pis_holder, defBody q_Pis_holder, defScope q_Pis_holder, [], []⟩
def d_Prequire_holder : He.DefD := ⟨("require_holder", none), "require_holder", "require_holder", defArgs q_Prequire_holder, defBody q_Prequire_holder, defScope q_Prequire_holder, [], []⟩
def d_P_meets_itself : He.DefD := ⟨("_meets_itself", none), "_meets_itself", "_meets_itself", defArgs q_P_meets_itself, defBody q_P_meets_itself, defScope q_P_meets_itself, [], []⟩
def d_Pleast_looped : He.DefD := ⟨("least_looped", none), "least_looped", "least_looped", defArgs q_Pleast_looped, defBody q_Pleast_looped, defScope q_Pleast_looped, [], []⟩
def d_Pchain : He.DefD := ⟨("chain", none), "chain", "chain", defArgs q_Pchain, defBody q_Pchain, defScope q_Pchain, [], []⟩
def d_Pheld : He.DefD := ⟨("held", none), "held", "held", defArgs q_Pheld, defBody q_Pheld, defScope q_Pheld, [], []⟩
def d_Pall_held : He.DefD := ⟨("all_held", none), "all_held", "all_held", defArgs q_Pall_held, defBody q_Pall_held, defScope q_Pall_held, [], []⟩
def d_Pis_within : He.DefD := ⟨("is_within", none), "is_within", "is_within", defArgs q_Pis_within, defBody q_Pis_within, defScope q_Pis_within, [], []⟩
def d_yard : He.DefD := ⟨("_law_yard", none), "_law_yard", "_law_yard", defArgs q_yard, defBody q_yard, defScope q_yard, [], []⟩
def d_chain : He.DefD := ⟨("_law_chain", none), "_law_chain", "_law_chain", defArgs q_chain, defBody q_chain, defScope q_chain, [], []⟩
def d_inside : He.DefD := ⟨("_law_inside", none), "_law_inside", "_law_inside", defArgs q_inside, defBody q_inside, defScope q_inside, [], []⟩
def d_row : He.DefD := ⟨("_law_row", none), "_law_row", "_law_row", defArgs q_row, defBody q_row, defScope q_row, [], []⟩
def d_any_table : He.DefD := ⟨("_law_any_table", none), "_law_any_table", "_law_any_table", defArgs q_any_table, defBody q_any_table, defScope q_any_table, [], []⟩
def d_word : He.DefD := ⟨("_law_word", none), "_law_word", "_law_word", defArgs q_word, defBody q_word, defScope q_word, [], []⟩
def d_asked : He.DefD := ⟨("_law_asked", none), "_law_asked", "_law_asked", defArgs q_asked, defBody q_asked, defScope q_asked, [], []⟩
def d_is_row : He.DefD := ⟨("_law_is_row", none), "_law_is_row", "_law_is_row", defArgs q_is_row, defBody q_is_row, defScope q_is_row, [], []⟩
def d_is_right : He.DefD := ⟨("_law_is_right", none), "_law_is_right", "_law_is_right", defArgs q_is_right, defBody q_is_right, defScope q_is_right, [], []⟩
def d_is_refused : He.DefD := ⟨("_law_is_refused", none), "_law_is_refused", "_law_is_refused", defArgs q_is_refused, defBody q_is_refused, defScope q_is_refused, [], []⟩
def d_law : He.DefD := ⟨("law", none), "law", "law", defArgs q_law, defBody q_law, defScope q_law, [], []⟩
def d_BadCount : He.DefD := ⟨("BadCount", some "__init__"), "__init__", "BadCount.__init__", defArgs q_BadCount, defBody q_BadCount, defScope q_BadCount, [], []⟩
def d_BadName : He.DefD := ⟨("BadName", some "__init__"), "__init__", "BadName.__init__", defArgs q_BadName, defBody q_BadName, defScope q_BadName, [], []⟩
def d_BadWeight : He.DefD := ⟨("BadWeight", some "__init__"), "__init__", "BadWeight.__init__", defArgs q_BadWeight, defBody q_BadWeight, defScope q_BadWeight, [], []⟩
def d_Loop : He.DefD := ⟨("Loop", some "__init__"), "__init__", "Loop.__init__", defArgs q_Loop, defBody q_Loop, defScope q_Loop, [], []⟩
def d_NoHolder : He.DefD := ⟨("NoHolder", some "__init__"), "__init__", "NoHolder.__init__", defArgs q_NoHolder, defBody q_NoHolder, defScope q_NoHolder, [], []⟩
def d_Twice : He.DefD := ⟨("Twice", some "__init__"), "__init__", "Twice.__init__", defArgs q_Twice, defBody q_Twice, defScope q_Twice, [], []⟩
def d_Unknown : He.DefD := ⟨("Unknown", some "__init__"), "__init__", "Unknown.__init__", defArgs q_Unknown, defBody q_Unknown, defScope q_Unknown, [], []⟩
def d_PYard___init__ : He.DefD := ⟨("Yard", some "__init__"), "__init__", "Yard.__init__", defArgs q_PYard___init__, defBody q_PYard___init__, defScope q_PYard___init__, [], [("nailed", .adr (kwAt ("Yard", some "__init__") "nailed")), ("sealed", .adr (kwAt ("Yard", some "__init__") "sealed"))]⟩
def d_PYard_is_box : He.DefD := ⟨("Yard", some "is_box"), "is_box", "Yard.is_box", defArgs q_PYard_is_box, defBody q_PYard_is_box, defScope q_PYard_is_box, [], []⟩
def d_PYard_is_shelf : He.DefD := ⟨("Yard", some "is_shelf"), "is_shelf", "Yard.is_shelf", defArgs q_PYard_is_shelf, defBody q_PYard_is_shelf, defScope q_PYard_is_shelf, [], []⟩
def d_PYard___iter__ : He.DefD := ⟨("Yard", some "__iter__"), "__iter__", "Yard.__iter__", defArgs q_PYard___iter__, defBody q_PYard___iter__, defScope q_PYard___iter__, [], []⟩
def d_PWorld___init__ : He.DefD := ⟨("World", some "__init__"), "__init__", "World.__init__", defArgs q_PWorld___init__, defBody q_PWorld___init__, defScope q_PWorld___init__, [], []⟩
def p_PWorld_yard : He5.DefA := ⟨fun K => He5.wf K (He.ga K "World") "property" "yard", "yard", "World.yard", defArgs q_PWorld_yard, defBody q_PWorld_yard, defScope q_PWorld_yard, [], []⟩
def p_PWorld_row : He5.DefA := ⟨fun K => He5.wf K (He.ga K "World") "property" "row", "row", "World.row", defArgs q_PWorld_row, defBody q_PWorld_row, defScope q_PWorld_row, [], []⟩
def d_PWorld_holder : He.DefD := ⟨("World", some "holder"), "holder", "World.holder", defArgs q_PWorld_holder, defBody q_PWorld_holder, defScope q_PWorld_holder, [], []⟩
def d_PWorld___iter__ : He.DefD := ⟨("World", some "__iter__"), "__iter__", "World.__iter__", defArgs q_PWorld___iter__, defBody q_PWorld___iter__, defScope q_PWorld___iter__, [], []⟩
def fn : List He.DefD := [d_mix, d_take, d_store, d_same, d_number, d_pick, d_shuffled, d_sign, d_name_of, d_name, d_unlike, d_name_like, d_names, d_not_name, d_marked, d_tree] ++ [d_weights, d_plan_of, d_plan, d_Pis_name, d_Pvalid_name, d_Pis_number, d_Pvalid_weight, d_P_require_count, d_P_require_shelves, d_P_require_listed, d_P_require_boxes, d_Prequire_box, d_Pis_holder, d_Prequire_holder, d_P_meets_itself, d_Pleast_looped] ++ [d_Pchain, d_Pheld, d_Pall_held, d_Pis_within, d_yard, d_chain, d_inside, d_row, d_any_table, d_word, d_asked, d_is_row, d_is_right, d_is_refused, d_law, d_BadCount] ++ [d_BadName, d_BadWeight, d_Loop, d_NoHolder, d_Twice, d_Unknown, d_PYard___init__, d_PYard_is_box, d_PYard_is_shelf, d_PYard___iter__, d_PWorld___init__, d_PWorld_holder, d_PWorld___iter__]
def pn : List He5.DefA := [p_PWorld_yard, p_PWorld_row]
def fa0 : List He.Fa := [.glo "_law_mix", .glo "_law_take", .glo "_law_store", .glo "_law_same", .glo "_law_number", .glo "_law_pick", .glo "_law_shuffled", .glo "_law_sign", .glo "_law_name_of", .glo "_law_name", .glo "_law_unlike", .glo "_law_name_like", .glo "_law_names", .glo "_law_not_name", .glo "_law_marked", .glo "_law_tree"]
def fa1 : List He.Fa := [.glo "_law_weights", .glo "_law_plan_of", .glo "_law_plan", .glo "is_name", .glo "valid_name", .glo "is_number", .glo "valid_weight", .glo "_require_count", .glo "_require_shelves", .glo "_require_listed", .glo "_require_boxes", .glo "require_box", .glo "is_holder", .glo "require_holder", .glo "_meets_itself", .glo "least_looped"]
def fa2 : List He.Fa := [.glo "chain", .glo "held", .glo "all_held", .glo "is_within", .glo "_law_yard", .glo "_law_chain", .glo "_law_inside", .glo "_law_row", .glo "_law_any_table", .glo "_law_word", .glo "_law_asked", .glo "_law_is_row", .glo "_law_is_right", .glo "_law_is_refused", .glo "law", .glo "BadCount"]
def fa3 : List He.Fa := [.glo "BadName", .glo "BadWeight", .glo "Inside", .glo "Loop", .glo "NestError", .glo "NoHolder", .glo "Refusal", .glo "Same", .glo "Twice", .glo "Unknown", .glo "World", .glo "Yard", .free "ValueError", .free "abs", .free "all", .free "bool"]
def fa4 : List He.Fa := [.free "dict", .free "enumerate", .free "int", .free "isinstance", .free "iter", .free "len", .free "list", .free "max", .free "min", .free "range", .free "sorted", .free "str", .free "tuple", .str "DIGITS" "0123456789", .str "LETTERS" "abcdefghijklmnopqrstuvwxyz", .int "LONGEST_NAME" 8]
def fa5 : List He.Fa := [.int "MOST_WEIGHT" 1000000000]
def fa : List He.Fa := fa0 ++ fa1 ++ fa2 ++ fa3 ++ fa4 ++ fa5
def okL0 (K : PySem.W.Frag) : List Bool := [oexB K (He.ga K "BadCount"),
  iniB K (He.ga K "BadCount"),
  He.eqO (PySem.W.findIn K (.ref (He.ga K "BadCount")) "what") (some none),
  He.eqO (PySem.W.findIn K (.ref (He.ga K "BadCount")) "many") (some none),
  oexB K (He.ga K "BadName"),
  iniB K (He.ga K "BadName"),
  He.eqO (PySem.W.findIn K (.ref (He.ga K "BadName")) "name") (some none),
  oexB K (He.ga K "BadWeight"),
  iniB K (He.ga K "BadWeight"),
  He.eqO (PySem.W.findIn K (.ref (He.ga K "BadWeight")) "weight") (some none),
  oexB K (He.ga K "Loop"),
  iniB K (He.ga K "Loop"),
  He.eqO (PySem.W.findIn K (.ref (He.ga K "Loop")) "name") (some none),
  oexB K (He.ga K "NoHolder")]
def okL1 (K : PySem.W.Frag) : List Bool := [iniB K (He.ga K "NoHolder"),
  He.eqO (PySem.W.findIn K (.ref (He.ga K "NoHolder")) "name") (some none),
  oexB K (He.ga K "Twice"),
  iniB K (He.ga K "Twice"),
  He.eqO (PySem.W.findIn K (.ref (He.ga K "Twice")) "name") (some none),
  oexB K (He.ga K "Unknown"),
  iniB K (He.ga K "Unknown"),
  He.eqO (PySem.W.findIn K (.ref (He.ga K "Unknown")) "name") (some none),
  clsB K (He.ga K "Yard"),
  He.eqO (PySem.W.findIn K (.ref (He.ga K "Yard")) "_boxes") (some none),
  He.eqO (PySem.W.findIn K (.ref (He.ga K "Yard")) "_holders") (some none),
  He.eqO (PySem.W.findIn K (.ref (He.ga K "Yard")) "_nailed") (some none),
  He.eqO (PySem.W.findIn K (.ref (He.ga K "Yard")) "_sealed") (some none),
  He.eqO (PySem.W.findIn K (.ref (He.ga K "Yard")) "_shelves") (some none)]
def okL2 (K : PySem.W.Frag) : List Bool := [He.eqO (PySem.W.findIn K (.ref (He.ga K "Yard")) "_weights") (some none),
  cinB K (He.ga K "Yard"),
  nfB K (He.ga K "Yard"),
  cvB K (He.ga K "Yard") "MOST_BOXES" 12,
  cvB K (He.ga K "Yard") "MOST_SHELVES" 4,
  clsB K (He.ga K "World"),
  He.eqO (PySem.W.findIn K (.ref (He.ga K "World")) "_row") (some none),
  He.eqO (PySem.W.findIn K (.ref (He.ga K "World")) "_table") (some none),
  He.eqO (PySem.W.findIn K (.ref (He.ga K "World")) "_yard") (some none),
  cinB K (He.ga K "World"),
  nfB K (He.ga K "World"),
  mkB K (He.ga K "Yard"),
  methB K (He.ga K "Yard") "is_box",
  methB K (He.ga K "Yard") "is_shelf"]
def okL3 (K : PySem.W.Frag) : List Bool := [methB K (He.ga K "Yard") "__iter__",
  mkB K (He.ga K "World"),
  propB K (He.ga K "World") "yard",
  p_PWorld_yard.ok K,
  propB K (He.ga K "World") "row",
  p_PWorld_row.ok K,
  methB K (He.ga K "World") "holder",
  methB K (He.ga K "World") "__iter__"]
def okLX (K : PySem.W.Frag) : List Bool := [(["Unknown"] : List PySem.Str).all fun c => errGB K (["BadName", "Inside", "Refusal", "Same"] : List PySem.Str) (He.ga K c) (inL (DL.kindsOf c)),
  ([("Unknown", "NestError"), ("Unknown", "Unknown")] : List (PySem.Str × PySem.Str)).all fun p => decide (PySem.W.exmOne K (.ref (He.ga K p.1)) (.ref (He.ga K p.2)) = some (inL (DL.kindsOf p.1) p.2)),
  ([("Unknown", "name")] : List (PySem.Str × PySem.Str)).all fun p => He.eqO (PySem.W.findIn K (.ref (He.ga K p.1)) p.2) (some none)]
def okL (K : PySem.W.Frag) : List Bool := okL0 K ++ okL1 K ++ okL2 K ++ okL3 K ++ okLX K
def names0 : List PySem.Str := ["_wall", "NestError", "Refusal", "BadName", "BadWeight", "BadCount", "Twice", "Unknown", "NoHolder", "Loop", "Same", "Inside", "MOST_WEIGHT", "LONGEST_NAME", "LETTERS", "DIGITS"]
def names1 : List PySem.Str := ["is_name", "valid_name", "is_number", "valid_weight", "Yard", "require_box", "is_holder", "require_holder", "_require_count", "_require_shelves", "_require_boxes", "_require_listed", "World", "least_looped", "_meets_itself", "chain"]
def names2 : List PySem.Str := ["is_within", "held", "all_held", "_law_store", "_law_mix", "_law_take", "_law_number", "_law_pick", "_law_shuffled", "_law_sign", "_law_name_of", "_law_name", "_law_unlike", "_law_name_like", "_law_names", "_law_not_name"]
def names3 : List PySem.Str := ["_law_same", "_law_tree", "_law_weights", "_law_marked", "_law_plan_of", "_law_plan", "_law_yard", "_law_chain", "_law_inside", "_law_row", "_law_any_table", "_law_word", "_law_asked", "_law_is_row", "_law_is_right", "_law_is_refused"]
def names : List PySem.Str := names0 ++ names1 ++ names2 ++ names3
def as0 : List Addr := [3, 6, 4, 21, 31, 44, 63, 82, 101, 120, 139, 158, 177, 196, 215, 222, 229, 236, 243, 372, 383, 390, 397, 404, 411, 418, 425, 508, 519, 526, 533, 540, 545, 550, 557, 564, 571, 578, 585, 592]
def as1 : List Addr := [599, 606, 613, 620, 627, 634, 641, 648, 655, 660, 667, 672, 679, 686, 693, 698, 703, 710, 717, 724, 731, 738, 745, 752, 0, 20, 30, 43, 62, 81, 100, 119, 138, 157, 176, 195, 214, 221, 228, 235]
def as2 : List Addr := [242, 371, 382, 389, 396, 403, 410, 417, 424, 507, 518, 525, 532, 539, 544, 549, 556, 563, 570, 577, 584, 591, 598, 605, 612, 619, 626, 633, 640, 647, 654, 659, 666, 671, 678, 685, 692, 697, 702, 709]
def as3 : List Addr := [716, 723, 730, 737, 744, 751, 15, 16, 17, 18, 19, 29, 32, 42, 60, 61, 79, 80, 98, 99, 117, 118, 136, 137, 155, 156, 174, 175, 193, 194, 212, 213, 218, 219, 220, 223, 224, 225, 226, 227]
def as4 : List Addr := [230, 231, 232, 233, 234, 237, 238, 239, 240, 241, 258, 266, 274, 282, 290, 298, 305, 312, 319, 326, 333, 341, 348, 355, 362, 369, 370, 373, 374, 377, 378, 379, 380, 381, 384, 385, 386, 387, 388, 391]
def as5 : List Addr := [392, 393, 394, 395, 398, 399, 400, 401, 402, 405, 406, 407, 408, 409, 412, 413, 414, 415, 416, 419, 420, 421, 422, 423, 437, 445, 453, 460, 467, 474, 483, 491, 498, 505, 506, 509, 510, 513, 514, 515]
def as6 : List Addr := [516, 517, 520, 521, 522, 523, 524, 527, 528, 529, 530, 531, 534, 535, 536, 537, 538, 541, 542, 543, 546, 547, 548, 551, 552, 553, 554, 555, 558, 559, 560, 561, 562, 565, 566, 567, 568, 569, 572, 573]
def as7 : List Addr := [574, 575, 576, 579, 580, 581, 582, 583, 586, 587, 588, 589, 590, 593, 594, 595, 596, 597, 600, 601, 602, 603, 604, 607, 608, 609, 610, 611, 614, 615, 616, 617, 618, 621, 622, 623, 624, 625, 628, 629]
def as8 : List Addr := [630, 631, 632, 635, 636, 637, 638, 639, 642, 643, 644, 645, 646, 649, 650, 651, 652, 653, 656, 657, 658, 661, 662, 663, 664, 665, 668, 669, 670, 673, 674, 675, 676, 677, 680, 681, 682, 683, 684, 687]
def as9 : List Addr := [688, 689, 690, 691, 694, 695, 696, 699, 700, 701, 704, 705, 706, 707, 708, 711, 712, 713, 714, 715, 718, 719, 720, 721, 722, 725, 726, 727, 728, 729, 732, 733, 734, 735, 736, 739, 740, 741, 742, 743]
def as10 : List Addr := [746, 747, 748, 749, 750, 59, 78, 97, 116, 135, 154, 173, 192, 211, 257, 253, 265, 273, 281, 289, 297, 304, 311, 318, 325, 332, 340, 334, 347, 354, 361, 368, 436, 444, 452, 459, 466, 473, 481, 482]
def as11 : List Addr := [490, 497, 504, 54, 55, 56, 57, 58, 73, 74, 75, 76, 77, 92, 93, 94, 95, 96, 111, 112, 113, 114, 115, 130, 131, 132, 133, 134, 149, 150, 151, 152, 153, 168, 169, 170, 171, 172, 187, 188]
def as12 : List Addr := [189, 190, 191, 206, 207, 208, 209, 210, 254, 255, 256, 251, 252, 264, 272, 280, 288, 296, 299, 300, 301, 302, 303, 306, 307, 308, 309, 310, 313, 314, 315, 316, 317, 320, 321, 322, 323, 324, 327, 328]
def as13 : List Addr := [329, 330, 331, 335, 336, 337, 338, 339, 342, 343, 344, 345, 346, 349, 350, 351, 352, 353, 356, 357, 358, 359, 360, 363, 364, 365, 366, 367, 433, 434, 435, 443, 451, 454, 455, 456, 457, 458, 461, 462]
def as14 : List Addr := [463, 464, 465, 468, 469, 470, 471, 472, 480, 484, 485, 486, 487, 488, 489, 492, 493, 494, 495, 496, 499, 500, 501, 502, 503, 2]
def asL : List Addr := as0 ++ as1 ++ as2 ++ as3 ++ as4 ++ as5 ++ as6 ++ as7 ++ as8 ++ as9 ++ as10 ++ as11 ++ as12 ++ as13 ++ as14
abbrev R : PySem.W.OpenRow := PySem.W.OpenLaw.row PySem.Challenge.rw_nestweigh_k18_within_and_held
abbrev hk : PySem.W.Hook := hookL asL fa fn pn okL
def ob (s : PySem.W.SharedT) : He.AlD × Bool × List He.FnW := obsL asL fa fn pn okL (HandSHeadRun.getT s)
theorem ob_eq (s : PySem.W.SharedT) : ob s = hk.obs s.abs := obsL_eq (HandSHeadRun.getT_eq s)
theorem map3 {α β γ δ : Type} {x : Option α} {f : α → β} {g : α → γ} {k : α → δ} {b : β} {c : γ} {d : δ} (h1 : x.map (fun s => (f s, g s)) = some (b, c)) (h2 : x.map k = some d) : x.map (fun s => (f s, g s, k s)) = some (b, c, d) := by
  cases x with
  | none => cases h1
  | some s =>
    have e1 : (f s, g s) = (b, c) := Option.some.inj h1
    have e2 : k s = d := Option.some.inj h2
    obtain ⟨e3, e4⟩ := Prod.mk.inj e1
    show some (f s, g s, k s) = some (b, c, d)
    rw [e3, e4, e2]
abbrev vw : PySem.Program := PySem.W.view R.prog [70]
noncomputable abbrev xs (w : World) (os : OsState) := HandSHeadRun.endF (HandSHeadRun.stepQ (HandSHeadRun.denQ HandSHeadRun.tabQ) R.prog w) 20000 R.prog w os
theorem runA (w : World) (os : OsState) : (xs w os).map (fun s => (HandSHeadRun.looksF R.prog (PySem.W.boot_heap w.params) s.abs, HandSHeadRun.seenQ vw names (PySem.importedModules R.prog.main.body) (fun s => PySem.W.xlAt vw [] s && PySem.W.recOk R.toRowW.records s) s.abs)) = some (true, PySem.W.openGood vw names) := by kernel_rfl
theorem runB (w : World) (os : OsState) : (xs w os).map ob = some (hk.val w) := by kernel_rfl
theorem run (w : World) : HandSHeadRun.RunEq R vw hk ob 20000 names w := fun os => map3 (runA w os) (runB w os)
end NW
namespace NW
open PySem PySem.Spec PyProof.Rows L2
open C8 (tCut pss_cut)
theorem orOp {X : Cx} {f : Value → Value → Sem Value} {r q : R2} (a : OpR X f r) (b : OpR X f q) : OpR X f (fun x y H Q => r x y H Q ∨ q x y H Q) := by
  intro pins s σ H x y v u Q I rx ry h
  cases h with
  | inl h => exact a pins s σ H x y v u Q I rx ry h
  | inr h => exact b pins s σ H x y v u Q I rx ry h
theorem orCall {X : Cx} {f : Value} {r q : List V → Hp → VK → Prop} (a : CallR X f r) (b : CallR X f q) : CallR X f (fun xs H Q => r xs H Q ∨ q xs H Q) := by
  intro pins s σ H xs us Q I rx h
  cases h with
  | inl h => exact a pins s σ H xs us Q I rx h
  | inr h => exact b pins s σ H xs us Q I rx h
/-- a new object of content o -/
def NewR (o : HO) (H : Hp) (Q : VK) : Prop := ∀ q, H q = none → Q (.ref q) (upd H q o)
def rAddS : R2 := fun x y H Q => ∃ i j, x = .str i ∧ y = .str j ∧ i.length + j.length ≤ sizeLine ∧ Q (.str (i ++ j)) H
def aAdd : R2 := fun x y H Q => rI0 (fun i j => .int (i + j)) x y H Q ∨ (rAddS x y H Q ∨ rCat x y H Q)
theorem oAdd {X : Cx} : OpR X (binaryOp .Add) aAdd := orOp op_add (orOp op_add_str op_cat)
section
variable {H : Hp} {Q : VK} {i j : Int} {x y : Str} {p q : Addr} {xs ys : List V}
theorem add_ii (h : Q (.int (i + j)) H) : aAdd (.int i) (.int j) H Q := .inl ⟨i, j, rfl, rfl, h⟩
theorem add_ss (hl : x.length + y.length ≤ 1000000) (h : Q (.str (x ++ y)) H) : aAdd (.str x) (.str y) H Q := .inr (.inl ⟨x, y, rfl, rfl, Nat.le_trans hl (by decide), h⟩)
theorem add_ll (hp : H p = some (.lst xs)) (hq : H q = some (.lst ys)) (hl : xs.length + ys.length ≤ 1000000) (h : NewR (.lst (xs ++ ys)) H Q) : aAdd (.ref p) (.ref q) H Q := .inr (.inr ⟨p, q, xs, ys, rfl, rfl, hp, hq, Nat.le_trans hl (by decide), h⟩)
end
def aSub : R2 := rI0 fun i j => .int (i - j)
theorem oSub {X : Cx} : OpR X (binaryOp .Sub) aSub := op_sub
def aMul : R2 := rI IntMulOk fun i j => .int (i * j)
theorem oMul {X : Cx} : OpR X (binaryOp .Mult) aMul := by
  intro pins s σ H x y v u Q I rx ry h
  obtain ⟨i, j, ex, ey, hc, q⟩ := h
  subst ex ey
  obtain ⟨t1, e1⟩ := rx
  obtain ⟨t2, e2⟩ := ry
  subst e1 e2
  exact PyProof.Rows.mul_int ⟨.int (i * j), H, I.tok _, ⟨_, rfl⟩, q⟩ hc
def aDiv : R2 := rI CDivW fun i j => .int (i / j)
theorem oDiv {X : Cx} : OpR X (binaryOp .FloorDiv) aDiv := op_fdivW
def aMod : R2 := rI (fun _ j => 0 < j) fun i j => .int (i % j)
theorem oMod {X : Cx} : OpR X (binaryOp .Mod) aMod := op_mod
def aPow : R2 := rI CPow fun i j => .int (i ^ j.toNat)
theorem oPow {X : Cx} : OpR X (binaryOp .Pow) aPow := op_pow
section
variable {H : Hp} {Q : VK} {i j : Int}
theorem sub_ii (h : Q (.int (i - j)) H) : aSub (.int i) (.int j) H Q := ⟨i, j, rfl, rfl, h⟩
theorem mul_l (h1 : -(2 ^ 64) < i) (h2 : i < 2 ^ 64) (h : Q (.int (i * j)) H) : aMul (.int i) (.int j) H Q := ⟨i, j, rfl, rfl, (CMul.ok (.inl ⟨h1, h2⟩)), h⟩
theorem mul_r (h1 : -(2 ^ 64) < j) (h2 : j < 2 ^ 64) (h : Q (.int (i * j)) H) : aMul (.int i) (.int j) H Q := ⟨i, j, rfl, rfl, (CMul.ok (.inr ⟨h1, h2⟩)), h⟩
theorem div_ii (h1 : 0 < j) (h2 : j < 2 ^ 300) (h : Q (.int (i / j)) H) : aDiv (.int i) (.int j) H Q := ⟨i, j, rfl, rfl, wide_div h1 (b := 300) (by omega) (by decide) (by decide), h⟩
theorem mod_ii (h1 : 0 < j) (h : Q (.int (i % j)) H) : aMod (.int i) (.int j) H Q := ⟨i, j, rfl, rfl, h1, h⟩
theorem pow_ii {k : Int} (h0 : 0 ≤ j) (h1 : j ≤ 1000000) (h2 : i.natAbs < 2 ^ 64) (e : i ^ j.toNat = k) (h : Q (.int k) H) : aPow (.int i) (.int j) H Q := ⟨i, j, rfl, rfl, ⟨h0, h1, h2⟩, by
  show Q (.int (i ^ j.toNat)) H
  rw [e]; exact h⟩
end
def aLt : R2 := rI0 fun i j => .bl (decide (i < j))
def aLe : R2 := rI0 fun i j => .bl (decide (i ≤ j))
def aGt : R2 := rI0 fun i j => .bl (decide (j < i))
def aGe : R2 := rI0 fun i j => .bl (decide (j ≤ i))
theorem oLt {X : Cx} : OpR X (compareOp .Lt) aLt := op_lt
theorem oLe {X : Cx} : OpR X (compareOp .LtE) aLe := op_le
theorem oGt {X : Cx} : OpR X (compareOp .Gt) aGt := op_gt
theorem oGe {X : Cx} : OpR X (compareOp .GtE) aGe := op_ge
def aEq : R2 := rEq
def aNe : R2 := rNe
theorem oEq {X : Cx} : OpR X (compareOp .Eq) aEq := op_eq
theorem oNe {X : Cx} : OpR X (compareOp .NotEq) aNe := op_ne
section
variable {H : Hp} {Q : VK} {i j : Int} {x y : V}
theorem lt_ii (h : Q (.bl (decide (i < j))) H) : aLt (.int i) (.int j) H Q := ⟨i, j, rfl, rfl, h⟩
theorem le_ii (h : Q (.bl (decide (i ≤ j))) H) : aLe (.int i) (.int j) H Q := ⟨i, j, rfl, rfl, h⟩
theorem gt_ii (h : Q (.bl (decide (j < i))) H) : aGt (.int i) (.int j) H Q := ⟨i, j, rfl, rfl, h⟩
theorem ge_ii (h : Q (.bl (decide (j ≤ i))) H) : aGe (.int i) (.int j) H Q := ⟨i, j, rfl, rfl, h⟩
theorem eq_ii (h : Q (.bl (decide (i = j))) H) : aEq (.int i) (.int j) H Q := ⟨rfl, by
  have e : decide (V.int i = V.int j) = decide (i = j) := by rw [dec_int, Bool.beq_eq_decide_eq]
  rw [e]; exact h⟩
theorem ne_ii (h : Q (.bl (!decide (i = j))) H) : aNe (.int i) (.int j) H Q := ⟨rfl, by
  have e : decide (V.int i = V.int j) = decide (i = j) := by rw [dec_int, Bool.beq_eq_decide_eq]
  rw [e]; exact h⟩
theorem eq_sc (hs : scal x y = true) (h : Q (.bl (decide (x = y))) H) : aEq x y H Q := ⟨hs, h⟩
end
def gGetL (K : PySem.W.Frag) : V → V → Hp → VK → Prop := fun x y H Q => ∃ p xs i v, x = .ref p ∧ y = .int i ∧ 0 ≤ i ∧ SqL K H p xs ∧ xs[i.toNat]? = some v ∧ Q v H
theorem getL {X : Cx} : PGet X (gGetL X.K) := by
  intro pins s σ H o i ov iv Q I ro ri h
  obtain ⟨p, xs, k, v, eo, ei, h0, hq, hv, q⟩ := h
  subst eo ei
  obtain rfl : ov = Value.ref p := ro
  obtain ⟨t, et⟩ := ri
  subst et
  obtain ⟨its, r, pl, hz⟩ := I.list hq
  obtain ⟨u, hu, ru⟩ := r.get hv
  have hlt : k.toNat < its.length := by
    cases Nat.lt_or_ge k.toNat its.length with
    | inl h => exact h
    | inr h =>
      rw [List.getElem?_eq_none h] at hu
      cases hu
  have hl := r.length
  have hn := line63
  exact wpAny_getItem_list pl.isList h0 (by omega) (by simpa using hu) ⟨v, H, I, ru, q⟩
section
variable {K : PySem.W.Frag} {σ : L2.St} {H : Hp} {Q : VK} {D : Ends} {t u : TS} {te ta tb : TE} {c d : TT} {g : TG} {i : Nat} {v : V} {B : Bool → Hp → Prop}
theorem s_seq (h : t { D with nx := u D } σ H) : tSeq t u D σ H := h
theorem s_asg (h : te σ H fun x H1 => g x σ H1 D.nx) : tAsg te g D σ H := h
theorem s_if (h : c σ H fun b H1 => if b = true then t D σ H1 else u D σ H1) : tIfS c t u D σ H := h
theorem s_ret (h : te σ H D.rt) : tRet te D σ H := h
theorem s_drop (h : te σ H fun _ H1 => D.nx σ H1) : tDrop te D σ H := h
theorem s_name {Q : L2.St → Hp → Prop} (h : Q (σ.set i (some v)) H) : gName i v σ H Q := h
theorem v_c (h : Q v H) : tC v σ H Q := h
theorem v_op {r : R2} (h : ta σ H fun x H1 => tb σ H1 fun y H2 => r x y H2 Q) : tOp r ta tb σ H Q := h
theorem c_test (h : te σ H fun x H1 => ∃ k, x = .bl k ∧ B k H1) : tTest te σ H B := h
theorem c_bl {b : Bool} {B : Bool → Prop} (h : B b) : ∃ k, V.bl b = .bl k ∧ B k := ⟨b, rfl, h⟩
end
section
variable {X : Cx} {a b : Expr} {pos : Pos} {i j k : Int}
theorem pe_weak {e : Expr} {t t' : TE} (h : PE X e t) (w : ∀ σ H Q, t' σ H Q → t σ H Q) : PE X e t' := ⟨fun pins s σ H Q I q => h.run pins s σ H Q I (w σ H Q q)⟩
theorem pe_powc (ha : PE X a (tC (.int i))) (hb : PE X b (tC (.int j))) (k : Int) (h : decide (0 ≤ j ∧ j ≤ 1000000 ∧ i.natAbs < 2 ^ 64 ∧ i ^ j.toNat = k) = true) : PE X (.BinOp a .Pow b pos) (tC (.int k)) :=
  pe_weak (pe_op oPow ha hb) fun σ H Q q => by
    obtain ⟨h1, h2, h3, h4⟩ := of_decide_eq_true h
    exact pow_ii h1 h2 h3 h4 q
theorem pe_mulc (ha : PE X a (tC (.int i))) (hb : PE X b (tC (.int j))) (k : Int) (h : decide (-(2 ^ 64) < i ∧ i < 2 ^ 64 ∧ i * j = k) = true) : PE X (.BinOp a .Mult b pos) (tC (.int k)) :=
  pe_weak (pe_op oMul ha hb) fun σ H Q q => by
    obtain ⟨h1, h2, h3⟩ := of_decide_eq_true h
    exact mul_l h1 h2 (by rw [h3]; exact q)
end
end NW
namespace NW
open PySem PySem.Spec PyProof.Rows L2
open C8 (tCut pss_cut)
theorem passN {X : Cx} : Passes (L2N.CX X.prog X.w) X E0 := fun _ _ _ _ _ _ _ h => by
  obtain ⟨_, _, _, _, _, _, _, _, _, _, _, _, z⟩ := h
  exact z.elim
/-- the module's name x stands for a def that keeps sp, by level k -/
structure HasAt (P : Program) (w : World) (K : PySem.W.Frag) (mg : Str → Option Value) (base : Heap) (x : Str) (k : Nat) (ps : List Str) (sp : Sp) (f : Addr) (fd : FuncData) : Prop where
  g : mg x = some (.ref f)
  kp : PySem.W.keepIn K (.ref f) = true
  b : Binds K fd ps []
  ok : FnOk P w K mg base (L2N.CX P w) k f fd ps sp
def Has (P : Program) (w : World) (K : PySem.W.Frag) (mg : Str → Option Value) (base : Heap) (x : Str) (k : Nat) (ps : List Str) (sp : Sp) : Prop := ∃ f fd, HasAt P w K mg base x k ps sp f fd
section
variable {X : Cx} {k j : Nat} {ps : List Str} {sp : Sp} {x : Str} {p pos : Pos} {e : Expr} {es : List Expr} {t : TA}
theorem pe_dc (h : Has X.prog X.w X.K X.mg X.base x k ps sp) (hr : Room j X.A) (ha : PA X (e :: es) t) (hk : k ≤ j := by decide) (hg : Gl X x := by rfl) (hdb : (x == ("__debug__" : Str)) = false := by decide)
    (he : starEach (e :: es) X.env = (false, eval e X.env) :: starEach es X.env := by rfl) (hpl : (backTo pos (starEach es X.env)).any (·.1) = false := by rfl) : PE X (.Call (.Name x p) (e :: es) [] pos) (tCall sp [] E0 t) := by
  obtain ⟨f, fd, F⟩ := h
  exact pe_call F.ok (hr.mono hk) hg F.g F.kp F.b .nil passN ha hdb he hpl
theorem pe_dcS {E : L2.St → XK} (h : Has X.prog X.w X.K X.mg X.base x k ps sp) (hr : Room j X.A) (hx : ∀ σ, PassesAt (L2N.CX X.prog X.w) X σ (E σ)) (ha : PA X (e :: es) t) (hk : k ≤ j := by decide) (hg : Gl X x := by rfl) (hdb : (x == ("__debug__" : Str)) = false := by decide)
    (he : starEach (e :: es) X.env = (false, eval e X.env) :: starEach es X.env := by rfl) (hpl : (backTo pos (starEach es X.env)).any (·.1) = false := by rfl) : PE X (.Call (.Name x p) (e :: es) [] pos) (tCallS sp E t) := by
  obtain ⟨f, fd, F⟩ := h
  exact pe_callS F.ok (hr.mono hk) hg F.g F.kp F.b hx ha hdb he hpl
end
section
variable {P : Program} {w : World} {K : PySem.W.Frag} {mg : Str → Option Value} {base : Heap} {x : Str} {params : Arguments} {body : List Stmt} {scope : Scope} {f : Addr} {N ps : List Str} {k : Nat} {sp : Sp}
/-- a def that lets nothing out -/
theorem has_of {t : TS} (g : mg x = some (.ref f)) (F : ∃ fd, FunD K x x params body scope [] [] f fd) (S : FnScope N ps scope) (len : ∀ vs H Q E, sp vs H Q E → vs.length = ps.length)
    (bn : ∀ (kV doc pm : Value) (an : Option Addr) (cdv ct : Value) (us : List Value), us.length = ps.length → bindArgs (PySem.W.fnOf x x params body scope .none kV doc pm an cdv ct) ⟨us, []⟩ = pure (ps.zip us))
    (d : ∀ (cdv : Value) (A : Around) (outer : List Env) (s : Shared) (H : Hp) (E : XK), Room k (A.deeper (envOfC x scope s.heap.objs.size f cdv)) → PSs (cxOf (L2N.CX P w) P w K mg base N x scope f cdv A outer s H E).nox body t)
    (pure_ : ∀ vs H Q E, sp vs H Q E → t { nx := fun _ H' => Q .non H', rt := Q } (start N vs) H) : Has P w K mg base x (k + 1) ps sp := by
  obtain ⟨fd, F⟩ := F
  exact ⟨f, fd, g, F.kp, F.bindsN bn, F.ok S len fun cdv A outer s H vs Q E hr h => ⟨t, PSs.nox (d cdv A outer s H E hr), pure_ vs H Q E h⟩⟩
end
/-- a module's constant -/
theorem pe_gi {X : Cx} {x : Str} {i : Int} {pos : Pos} (h : ∃ t, X.mg x = some (.int i t)) (hg : Gl X x := by rfl) (hd : (x == ("__debug__" : Str)) = false := by decide) : PE X (.Name x pos) (tC (.int i)) := by
  obtain ⟨t, h⟩ := h
  exact pe_glob hg h ⟨t, rfl⟩ hd
theorem pe_gs {X : Cx} {x z : Str} {pos : Pos} (h : ∃ t, X.mg x = some (.str z t)) (hg : Gl X x := by rfl) (hd : (x == ("__debug__" : Str)) = false := by decide) : PE X (.Name x pos) (tC (.str z)) := by
  obtain ⟨t, h⟩ := h
  exact pe_glob hg h ⟨t, rfl⟩ hd
end NW
namespace NW
open PySem PySem.Spec PyProof.Rows L2
open C8 (tCut pss_cut)
/-- the store: its cells, the next cell's place, .. -/
def Sto (H : Hp) (st : Addr) : Prop := ∃ (cl : Addr) (ns : List Int) (at_ left small seed turn : Int), H st = some (.lst [.ref cl, .int at_, .int left, .int small, .int seed, .int turn]) ∧ H cl = some (.lst (ns.map V.int)) ∧ 0 ≤ at_
/-- all but the store stays -/
structure Keep (st : Addr) (H H' : Hp) : Prop where
  o : ∀ b o, H b = some o → b ≠ st → H' b = some o
  h : ∀ v r, H st = some (.lst (v :: r)) → ∃ r', H' st = some (.lst (v :: r'))
theorem Keep.refl (st : Addr) (H : Hp) : Keep st H H := ⟨fun _ _ h _ => h, fun _ r h => ⟨r, h⟩⟩
theorem Keep.trans {st : Addr} {H H1 H2 : Hp} (a : Keep st H H1) (b : Keep st H1 H2) : Keep st H H2 := ⟨fun c o h n => b.o c o (a.o c o h n) n, fun v r h => by
  obtain ⟨r1, h1⟩ := a.h v r h
  exact b.h v r1 h1⟩
theorem Keep.upd {st : Addr} {H H1 : Hp} {v : V} {r r' : List V} (a : Keep st H H1) (hp : H1 st = some (.lst (v :: r))) : Keep st H (upd H1 st (.lst (v :: r'))) := ⟨fun c u h n => by
  rw [upd_ne n]; exact a.o c u h n, fun w s h => by
  obtain ⟨r1, h1⟩ := a.h w s h
  rw [hp] at h1
  injection h1 with h1
  injection h1 with h1
  injection h1 with h1 h2
  exact ⟨r', by rw [upd_same, h1]⟩⟩
theorem Keep.new {st p : Addr} {H H1 : Hp} {o : HO} (a : Keep st H H1) (hp : H1 p = none) : Keep st H (L2.upd H1 p o) := ⟨fun c u h n => by
  rw [upd_ne (ne_of_none (a.o c u h n) hp)]; exact a.o c u h n, fun w s h => by
  obtain ⟨r1, h1⟩ := a.h w s h
  exact ⟨r1, by rw [upd_ne (ne_of_none h1 hp)]; exact h1⟩⟩
theorem Keep.same {st : Addr} {H H1 : Hp} (s : Same H H1) : Keep st H H1 := ⟨fun c u h _ => s c u h, fun v r h => ⟨r, s _ _ h⟩⟩
/-- an object of the call's own changes -/
theorem Keep.own {st p : Addr} {H H1 : Hp} {o : HO} (a : Keep st H H1) (hp : H p = none) (hn : p ≠ st) : Keep st H (L2.upd H1 p o) := ⟨fun c u h n => by
  rw [upd_ne (ne_of_none h hp)]; exact a.o c u h n, fun w s h => by
  obtain ⟨r1, h1⟩ := a.h w s h
  exact ⟨r1, by rw [upd_ne (Ne.symm hn)]; exact h1⟩⟩
theorem Sto.own {H : Hp} {st cl p : Addr} {r : List V} {o : HO} (h : Sto H st) (hh : H st = some (.lst (.ref cl :: r))) (h1 : p ≠ st) (h2 : p ≠ cl) : Sto (L2.upd H p o) st := by
  obtain ⟨cl', ns, a, b, c, d, e, g1, g2, g3⟩ := h
  rw [g1] at hh
  injection hh with hh
  injection hh with hh
  injection hh with hh
  injection hh with hh
  subst hh
  exact ⟨cl', ns, a, b, c, d, e, by rw [upd_ne (Ne.symm h1)]; exact g1, by rw [upd_ne (Ne.symm h2)]; exact g2, g3⟩
def aInt : List V → Hp → VK → Prop := fun xs H Q => ((∃ i, xs = [.int i] ∧ Q (.int i) H) ∨ ∃ k, xs = [.bl k] ∧ Q (.int (if k then 1 else 0)) H) ∨ ∃ a n, xs = [.str a] ∧ PySem.intText? a = some n ∧ a.length ≤ 640 ∧ Q (.int n) H
theorem cInt {X : Cx} : CallR X (.type "int") aInt := orCall call_int1 call_int_str
def aAbs : List V → Hp → VK → Prop := fun xs H Q => ∃ i, xs = [.int i] ∧ Q (.int (if i < 0 then -i else i)) H
def aMax : List V → Hp → VK → Prop := fun xs H Q => ∃ i j, xs = [.int i, .int j] ∧ Q (.int (if j > i then j else i)) H
def aMin : List V → Hp → VK → Prop := fun xs H Q => ∃ i j, xs = [.int i, .int j] ∧ Q (.int (if j < i then j else i)) H
def aLen (K : PySem.W.Frag) : List V → Hp → VK → Prop := fun xs H Q => ∃ x n, xs = [x] ∧ LenV K x H n ∧ Q (.int (n : Nat)) H
theorem cLen {X : Cx} : CallR X (.builtin "len") (aLen X.K) := call_len
def aList (K : PySem.W.Frag) : List V → Hp → VK → Prop := fun xs H Q => ∃ p ys, xs = [.ref p] ∧ (SqL K H p ys ∨ SqT K H p ys) ∧ ∀ l, H l = none → Q (.ref l) (upd H l (.lst ys))
theorem cList {X : Cx} : CallR X (.type "list") (aList X.K) := call_list_of
def aIx (K : PySem.W.Frag) : R2 := rIx K
theorem oIx {X : Cx} : IxR X (aIx X.K) := ix_seq
def aSet : TSet := rSetL
theorem oSet {X : Cx} : PSet X aSet := set_list
def iAdd : TIp := rI0 fun i j => .int (i + j)
theorem ioAdd {X : Cx} : PIp X .Add iAdd := fun pins s σ H x y v u Q I rx ry h => iop_add pins s σ H x y v u Q I rx ry h
section
variable {K : PySem.W.Frag} {H : Hp} {Q : VK} {i j : Int} {p : Addr} {xs : List V} {v : V} {σ : L2.St} {ta tb : TE} {t : TA} {B : Bool → Hp → Prop}
theorem int_i (h : Q (.int i) H) : aInt [.int i] H Q := .inl (.inl ⟨i, rfl, h⟩)
theorem abs_i (h : Q (.int (i.natAbs : Int)) H) : aAbs [.int i] H Q := ⟨i, rfl, by
  have e : (if i < 0 then -i else i) = (i.natAbs : Int) := by
    by_cases c : i < 0
    · rw [if_pos c]; omega
    · rw [if_neg c]; omega
  rw [e]; exact h⟩
theorem max_i (h : Q (.int (max i j)) H) : aMax [.int i, .int j] H Q := ⟨i, j, rfl, by
  have e : (if j > i then j else i) = max i j := by
    by_cases c : j > i
    · rw [if_pos c]; omega
    · rw [if_neg c]; omega
  rw [e]; exact h⟩
theorem min_i (h : Q (.int (min i j)) H) : aMin [.int i, .int j] H Q := ⟨i, j, rfl, by
  have e : (if j < i then j else i) = min i j := by
    by_cases c : j < i
    · rw [if_pos c]; omega
    · rw [if_neg c]; omega
  rw [e]; exact h⟩
theorem len_m (hp : H p = some (.lst xs)) (h : Q (.int (xs.length : Nat)) H) : aLen K [.ref p] H Q := ⟨_, _, rfl, .inl ⟨xs, SqL.of hp, rfl⟩, h⟩
theorem len_t (hp : SqT K H p xs) (h : Q (.int (xs.length : Nat)) H) : aLen K [.ref p] H Q := ⟨_, _, rfl, .inr ⟨xs, hp, rfl⟩, h⟩
theorem list_l (hp : SqL K H p xs) (h : NewR (.lst xs) H Q) : aList K [.ref p] H Q := ⟨p, xs, rfl, .inl hp, h⟩
theorem ix_m (hp : H p = some (.lst xs)) (e : atI xs i = some v) (h : Q v H) : aIx K (.ref p) (.int i) H Q := .inl ⟨p, xs, i, v, rfl, rfl, SqL.of hp, e, h⟩
theorem ix_l (hp : SqL K H p xs) (e : atI xs i = some v) (h : Q v H) : aIx K (.ref p) (.int i) H Q := .inl ⟨p, xs, i, v, rfl, rfl, hp, e, h⟩
theorem ix_t (hp : SqT K H p xs) (e : atI xs i = some v) (h : Q v H) : aIx K (.ref p) (.int i) H Q := .inr (.inl ⟨p, xs, i, v, rfl, rfl, hp, e, h⟩)
theorem get_m (hp : H p = some (.lst xs)) (h0 : 0 ≤ i) (e : xs[i.toNat]? = some v) (h : Q v H) : gGetL K (.ref p) (.int i) H Q := ⟨p, xs, i, v, rfl, rfl, h0, SqL.of hp, e, h⟩
theorem set_m {R : Hp → Prop} {n : Nat} (hp : H p = some (.lst xs)) (e : ixN xs.length i = some n) (h : R (upd H p (.lst (xs.set n v)))) : aSet (.ref p) (.int i) v H R := ⟨p, xs, i, n, rfl, rfl, hp, e, h⟩
theorem iadd_ii (h : Q (.int (i + j)) H) : iAdd (.int i) (.int j) H Q := ⟨i, j, rfl, rfl, h⟩
theorem v_augS {tget : V → V → Hp → VK → Prop} {ti : TIp} {tset : TSet} {D : Ends} {te : TE} (h : ta σ H fun o H1 => tb σ H1 fun a H2 => tget o a H2 fun x H3 => te σ H3 fun y H4 => ti x y H4 fun z H5 => tset o a z H5 fun H6 => D.nx σ H6) : tAugS ta tb te tget ti tset D σ H := h
theorem v_sub {tset : TSet} {R : L2.St → Hp → Prop} (h : ta σ H fun o H1 => tb σ H1 fun a H2 => tset o a v H2 fun H3 => R σ H3) : gSub ta tb tset v σ H R := h
theorem v_cons {R : List V → Hp → Prop} (h : ta σ H fun x H1 => t σ H1 fun ys H2 => R (x :: ys) H2) : tCons ta t σ H R := h
theorem v_nil {R : List V → Hp → Prop} (h : R [] H) : tNil σ H R := h
theorem v_cb {r : List V → Hp → VK → Prop} (h : t σ H fun vs H1 => r vs H1 Q) : tCB r t σ H Q := h
theorem v_call {sp : Sp} {E : XK} (h : t σ H fun vs H1 => sp vs H1 Q E) : tCall sp [] E t σ H Q := by
  show t σ H fun vs H1 => sp (vs ++ []) H1 Q E
  have e : (fun (vs : List V) (H1 : Hp) => sp (vs ++ []) H1 Q E) = fun vs H1 => sp vs H1 Q E := by
    funext vs H1
    rw [List.append_nil]
  rw [e]
  exact h
theorem c_and {c d : TT} (h : c σ H fun b H1 => if b = true then d σ H1 B else B false H1) : tAnd c d σ H B := h
theorem c_or {c d : TT} (h : c σ H fun b H1 => if b = true then B true H1 else d σ H1 B) : tOr c d σ H B := h
theorem c_not {c : TT} (h : c σ H fun b H1 => B (!b) H1) : tNot c σ H B := h
theorem if_d {c : Prop} {dc : Decidable c} {A A' : Prop} (h1 : c → A) (h2 : ¬ c → A') : if @decide c dc = true then A else A' := by
  by_cases q : c
  · rw [if_pos (decide_eq_true q)]; exact h1 q
  · rw [if_neg (fun z => q (of_decide_eq_true z))]; exact h2 q
theorem if_t {A A' : Prop} (h : A) : if true = true then A else A' := h
theorem if_f {A A' : Prop} (h : A') : if false = true then A else A' := h
theorem v_var0 (h : Q v H) : tVar 0 (some v :: σ) H Q := ⟨v, rfl, h⟩
theorem s_name0 {o : Option V} {R : L2.St → Hp → Prop} (h : R (some v :: σ) H) : gName 0 v (o :: σ) H R := h
theorem v_aug0 {ti : TIp} {D : Ends} (h : ta (some v :: σ) H fun y H1 => ti v y H1 fun z H2 => D.nx (some z :: σ) H2) : tAug 0 ta ti D (some v :: σ) H := ⟨v, rfl, h⟩
theorem v_var1 {a0 : Option V} (h : Q v H) : tVar 1 (a0 :: some v :: σ) H Q := ⟨v, rfl, h⟩
theorem s_name1 {a0 : Option V} {o : Option V} {R : L2.St → Hp → Prop} (h : R (a0 :: some v :: σ) H) : gName 1 v (a0 :: o :: σ) H R := h
theorem v_aug1 {a0 : Option V} {ti : TIp} {D : Ends} (h : ta (a0 :: some v :: σ) H fun y H1 => ti v y H1 fun z H2 => D.nx (a0 :: some z :: σ) H2) : tAug 1 ta ti D (a0 :: some v :: σ) H := ⟨v, rfl, h⟩
theorem v_var2 {a0 a1 : Option V} (h : Q v H) : tVar 2 (a0 :: a1 :: some v :: σ) H Q := ⟨v, rfl, h⟩
theorem s_name2 {a0 a1 : Option V} {o : Option V} {R : L2.St → Hp → Prop} (h : R (a0 :: a1 :: some v :: σ) H) : gName 2 v (a0 :: a1 :: o :: σ) H R := h
theorem v_aug2 {a0 a1 : Option V} {ti : TIp} {D : Ends} (h : ta (a0 :: a1 :: some v :: σ) H fun y H1 => ti v y H1 fun z H2 => D.nx (a0 :: a1 :: some z :: σ) H2) : tAug 2 ta ti D (a0 :: a1 :: some v :: σ) H := ⟨v, rfl, h⟩
theorem v_var3 {a0 a1 a2 : Option V} (h : Q v H) : tVar 3 (a0 :: a1 :: a2 :: some v :: σ) H Q := ⟨v, rfl, h⟩
theorem s_name3 {a0 a1 a2 : Option V} {o : Option V} {R : L2.St → Hp → Prop} (h : R (a0 :: a1 :: a2 :: some v :: σ) H) : gName 3 v (a0 :: a1 :: a2 :: o :: σ) H R := h
theorem v_aug3 {a0 a1 a2 : Option V} {ti : TIp} {D : Ends} (h : ta (a0 :: a1 :: a2 :: some v :: σ) H fun y H1 => ti v y H1 fun z H2 => D.nx (a0 :: a1 :: a2 :: some z :: σ) H2) : tAug 3 ta ti D (a0 :: a1 :: a2 :: some v :: σ) H := ⟨v, rfl, h⟩
theorem v_var4 {a0 a1 a2 a3 : Option V} (h : Q v H) : tVar 4 (a0 :: a1 :: a2 :: a3 :: some v :: σ) H Q := ⟨v, rfl, h⟩
theorem s_name4 {a0 a1 a2 a3 : Option V} {o : Option V} {R : L2.St → Hp → Prop} (h : R (a0 :: a1 :: a2 :: a3 :: some v :: σ) H) : gName 4 v (a0 :: a1 :: a2 :: a3 :: o :: σ) H R := h
theorem v_aug4 {a0 a1 a2 a3 : Option V} {ti : TIp} {D : Ends} (h : ta (a0 :: a1 :: a2 :: a3 :: some v :: σ) H fun y H1 => ti v y H1 fun z H2 => D.nx (a0 :: a1 :: a2 :: a3 :: some z :: σ) H2) : tAug 4 ta ti D (a0 :: a1 :: a2 :: a3 :: some v :: σ) H := ⟨v, rfl, h⟩
theorem v_var5 {a0 a1 a2 a3 a4 : Option V} (h : Q v H) : tVar 5 (a0 :: a1 :: a2 :: a3 :: a4 :: some v :: σ) H Q := ⟨v, rfl, h⟩
theorem s_name5 {a0 a1 a2 a3 a4 : Option V} {o : Option V} {R : L2.St → Hp → Prop} (h : R (a0 :: a1 :: a2 :: a3 :: a4 :: some v :: σ) H) : gName 5 v (a0 :: a1 :: a2 :: a3 :: a4 :: o :: σ) H R := h
theorem v_aug5 {a0 a1 a2 a3 a4 : Option V} {ti : TIp} {D : Ends} (h : ta (a0 :: a1 :: a2 :: a3 :: a4 :: some v :: σ) H fun y H1 => ti v y H1 fun z H2 => D.nx (a0 :: a1 :: a2 :: a3 :: a4 :: some z :: σ) H2) : tAug 5 ta ti D (a0 :: a1 :: a2 :: a3 :: a4 :: some v :: σ) H := ⟨v, rfl, h⟩
theorem v_var6 {a0 a1 a2 a3 a4 a5 : Option V} (h : Q v H) : tVar 6 (a0 :: a1 :: a2 :: a3 :: a4 :: a5 :: some v :: σ) H Q := ⟨v, rfl, h⟩
theorem s_name6 {a0 a1 a2 a3 a4 a5 : Option V} {o : Option V} {R : L2.St → Hp → Prop} (h : R (a0 :: a1 :: a2 :: a3 :: a4 :: a5 :: some v :: σ) H) : gName 6 v (a0 :: a1 :: a2 :: a3 :: a4 :: a5 :: o :: σ) H R := h
theorem v_aug6 {a0 a1 a2 a3 a4 a5 : Option V} {ti : TIp} {D : Ends} (h : ta (a0 :: a1 :: a2 :: a3 :: a4 :: a5 :: some v :: σ) H fun y H1 => ti v y H1 fun z H2 => D.nx (a0 :: a1 :: a2 :: a3 :: a4 :: a5 :: some z :: σ) H2) : tAug 6 ta ti D (a0 :: a1 :: a2 :: a3 :: a4 :: a5 :: some v :: σ) H := ⟨v, rfl, h⟩
theorem v_var7 {a0 a1 a2 a3 a4 a5 a6 : Option V} (h : Q v H) : tVar 7 (a0 :: a1 :: a2 :: a3 :: a4 :: a5 :: a6 :: some v :: σ) H Q := ⟨v, rfl, h⟩
theorem s_name7 {a0 a1 a2 a3 a4 a5 a6 : Option V} {o : Option V} {R : L2.St → Hp → Prop} (h : R (a0 :: a1 :: a2 :: a3 :: a4 :: a5 :: a6 :: some v :: σ) H) : gName 7 v (a0 :: a1 :: a2 :: a3 :: a4 :: a5 :: a6 :: o :: σ) H R := h
theorem v_aug7 {a0 a1 a2 a3 a4 a5 a6 : Option V} {ti : TIp} {D : Ends} (h : ta (a0 :: a1 :: a2 :: a3 :: a4 :: a5 :: a6 :: some v :: σ) H fun y H1 => ti v y H1 fun z H2 => D.nx (a0 :: a1 :: a2 :: a3 :: a4 :: a5 :: a6 :: some z :: σ) H2) : tAug 7 ta ti D (a0 :: a1 :: a2 :: a3 :: a4 :: a5 :: a6 :: some v :: σ) H := ⟨v, rfl, h⟩
theorem v_var8 {a0 a1 a2 a3 a4 a5 a6 a7 : Option V} (h : Q v H) : tVar 8 (a0 :: a1 :: a2 :: a3 :: a4 :: a5 :: a6 :: a7 :: some v :: σ) H Q := ⟨v, rfl, h⟩
theorem s_name8 {a0 a1 a2 a3 a4 a5 a6 a7 : Option V} {o : Option V} {R : L2.St → Hp → Prop} (h : R (a0 :: a1 :: a2 :: a3 :: a4 :: a5 :: a6 :: a7 :: some v :: σ) H) : gName 8 v (a0 :: a1 :: a2 :: a3 :: a4 :: a5 :: a6 :: a7 :: o :: σ) H R := h
theorem v_aug8 {a0 a1 a2 a3 a4 a5 a6 a7 : Option V} {ti : TIp} {D : Ends} (h : ta (a0 :: a1 :: a2 :: a3 :: a4 :: a5 :: a6 :: a7 :: some v :: σ) H fun y H1 => ti v y H1 fun z H2 => D.nx (a0 :: a1 :: a2 :: a3 :: a4 :: a5 :: a6 :: a7 :: some z :: σ) H2) : tAug 8 ta ti D (a0 :: a1 :: a2 :: a3 :: a4 :: a5 :: a6 :: a7 :: some v :: σ) H := ⟨v, rfl, h⟩
theorem v_var9 {a0 a1 a2 a3 a4 a5 a6 a7 a8 : Option V} (h : Q v H) : tVar 9 (a0 :: a1 :: a2 :: a3 :: a4 :: a5 :: a6 :: a7 :: a8 :: some v :: σ) H Q := ⟨v, rfl, h⟩
theorem s_name9 {a0 a1 a2 a3 a4 a5 a6 a7 a8 : Option V} {o : Option V} {R : L2.St → Hp → Prop} (h : R (a0 :: a1 :: a2 :: a3 :: a4 :: a5 :: a6 :: a7 :: a8 :: some v :: σ) H) : gName 9 v (a0 :: a1 :: a2 :: a3 :: a4 :: a5 :: a6 :: a7 :: a8 :: o :: σ) H R := h
theorem v_aug9 {a0 a1 a2 a3 a4 a5 a6 a7 a8 : Option V} {ti : TIp} {D : Ends} (h : ta (a0 :: a1 :: a2 :: a3 :: a4 :: a5 :: a6 :: a7 :: a8 :: some v :: σ) H fun y H1 => ti v y H1 fun z H2 => D.nx (a0 :: a1 :: a2 :: a3 :: a4 :: a5 :: a6 :: a7 :: a8 :: some z :: σ) H2) : tAug 9 ta ti D (a0 :: a1 :: a2 :: a3 :: a4 :: a5 :: a6 :: a7 :: a8 :: some v :: σ) H := ⟨v, rfl, h⟩
theorem v_var10 {a0 a1 a2 a3 a4 a5 a6 a7 a8 a9 : Option V} (h : Q v H) : tVar 10 (a0 :: a1 :: a2 :: a3 :: a4 :: a5 :: a6 :: a7 :: a8 :: a9 :: some v :: σ) H Q := ⟨v, rfl, h⟩
theorem s_name10 {a0 a1 a2 a3 a4 a5 a6 a7 a8 a9 : Option V} {o : Option V} {R : L2.St → Hp → Prop} (h : R (a0 :: a1 :: a2 :: a3 :: a4 :: a5 :: a6 :: a7 :: a8 :: a9 :: some v :: σ) H) : gName 10 v (a0 :: a1 :: a2 :: a3 :: a4 :: a5 :: a6 :: a7 :: a8 :: a9 :: o :: σ) H R := h
theorem v_aug10 {a0 a1 a2 a3 a4 a5 a6 a7 a8 a9 : Option V} {ti : TIp} {D : Ends} (h : ta (a0 :: a1 :: a2 :: a3 :: a4 :: a5 :: a6 :: a7 :: a8 :: a9 :: some v :: σ) H fun y H1 => ti v y H1 fun z H2 => D.nx (a0 :: a1 :: a2 :: a3 :: a4 :: a5 :: a6 :: a7 :: a8 :: a9 :: some z :: σ) H2) : tAug 10 ta ti D (a0 :: a1 :: a2 :: a3 :: a4 :: a5 :: a6 :: a7 :: a8 :: a9 :: some v :: σ) H := ⟨v, rfl, h⟩
theorem v_var11 {a0 a1 a2 a3 a4 a5 a6 a7 a8 a9 a10 : Option V} (h : Q v H) : tVar 11 (a0 :: a1 :: a2 :: a3 :: a4 :: a5 :: a6 :: a7 :: a8 :: a9 :: a10 :: some v :: σ) H Q := ⟨v, rfl, h⟩
theorem s_name11 {a0 a1 a2 a3 a4 a5 a6 a7 a8 a9 a10 : Option V} {o : Option V} {R : L2.St → Hp → Prop} (h : R (a0 :: a1 :: a2 :: a3 :: a4 :: a5 :: a6 :: a7 :: a8 :: a9 :: a10 :: some v :: σ) H) : gName 11 v (a0 :: a1 :: a2 :: a3 :: a4 :: a5 :: a6 :: a7 :: a8 :: a9 :: a10 :: o :: σ) H R := h
theorem v_aug11 {a0 a1 a2 a3 a4 a5 a6 a7 a8 a9 a10 : Option V} {ti : TIp} {D : Ends} (h : ta (a0 :: a1 :: a2 :: a3 :: a4 :: a5 :: a6 :: a7 :: a8 :: a9 :: a10 :: some v :: σ) H fun y H1 => ti v y H1 fun z H2 => D.nx (a0 :: a1 :: a2 :: a3 :: a4 :: a5 :: a6 :: a7 :: a8 :: a9 :: a10 :: some z :: σ) H2) : tAug 11 ta ti D (a0 :: a1 :: a2 :: a3 :: a4 :: a5 :: a6 :: a7 :: a8 :: a9 :: a10 :: some v :: σ) H := ⟨v, rfl, h⟩
theorem v_var12 {a0 a1 a2 a3 a4 a5 a6 a7 a8 a9 a10 a11 : Option V} (h : Q v H) : tVar 12 (a0 :: a1 :: a2 :: a3 :: a4 :: a5 :: a6 :: a7 :: a8 :: a9 :: a10 :: a11 :: some v :: σ) H Q := ⟨v, rfl, h⟩
theorem s_name12 {a0 a1 a2 a3 a4 a5 a6 a7 a8 a9 a10 a11 : Option V} {o : Option V} {R : L2.St → Hp → Prop} (h : R (a0 :: a1 :: a2 :: a3 :: a4 :: a5 :: a6 :: a7 :: a8 :: a9 :: a10 :: a11 :: some v :: σ) H) : gName 12 v (a0 :: a1 :: a2 :: a3 :: a4 :: a5 :: a6 :: a7 :: a8 :: a9 :: a10 :: a11 :: o :: σ) H R := h
theorem v_aug12 {a0 a1 a2 a3 a4 a5 a6 a7 a8 a9 a10 a11 : Option V} {ti : TIp} {D : Ends} (h : ta (a0 :: a1 :: a2 :: a3 :: a4 :: a5 :: a6 :: a7 :: a8 :: a9 :: a10 :: a11 :: some v :: σ) H fun y H1 => ti v y H1 fun z H2 => D.nx (a0 :: a1 :: a2 :: a3 :: a4 :: a5 :: a6 :: a7 :: a8 :: a9 :: a10 :: a11 :: some z :: σ) H2) : tAug 12 ta ti D (a0 :: a1 :: a2 :: a3 :: a4 :: a5 :: a6 :: a7 :: a8 :: a9 :: a10 :: a11 :: some v :: σ) H := ⟨v, rfl, h⟩
theorem v_var13 {a0 a1 a2 a3 a4 a5 a6 a7 a8 a9 a10 a11 a12 : Option V} (h : Q v H) : tVar 13 (a0 :: a1 :: a2 :: a3 :: a4 :: a5 :: a6 :: a7 :: a8 :: a9 :: a10 :: a11 :: a12 :: some v :: σ) H Q := ⟨v, rfl, h⟩
theorem s_name13 {a0 a1 a2 a3 a4 a5 a6 a7 a8 a9 a10 a11 a12 : Option V} {o : Option V} {R : L2.St → Hp → Prop} (h : R (a0 :: a1 :: a2 :: a3 :: a4 :: a5 :: a6 :: a7 :: a8 :: a9 :: a10 :: a11 :: a12 :: some v :: σ) H) : gName 13 v (a0 :: a1 :: a2 :: a3 :: a4 :: a5 :: a6 :: a7 :: a8 :: a9 :: a10 :: a11 :: a12 :: o :: σ) H R := h
theorem v_aug13 {a0 a1 a2 a3 a4 a5 a6 a7 a8 a9 a10 a11 a12 : Option V} {ti : TIp} {D : Ends} (h : ta (a0 :: a1 :: a2 :: a3 :: a4 :: a5 :: a6 :: a7 :: a8 :: a9 :: a10 :: a11 :: a12 :: some v :: σ) H fun y H1 => ti v y H1 fun z H2 => D.nx (a0 :: a1 :: a2 :: a3 :: a4 :: a5 :: a6 :: a7 :: a8 :: a9 :: a10 :: a11 :: a12 :: some z :: σ) H2) : tAug 13 ta ti D (a0 :: a1 :: a2 :: a3 :: a4 :: a5 :: a6 :: a7 :: a8 :: a9 :: a10 :: a11 :: a12 :: some v :: σ) H := ⟨v, rfl, h⟩
theorem v_var14 {a0 a1 a2 a3 a4 a5 a6 a7 a8 a9 a10 a11 a12 a13 : Option V} (h : Q v H) : tVar 14 (a0 :: a1 :: a2 :: a3 :: a4 :: a5 :: a6 :: a7 :: a8 :: a9 :: a10 :: a11 :: a12 :: a13 :: some v :: σ) H Q := ⟨v, rfl, h⟩
theorem s_name14 {a0 a1 a2 a3 a4 a5 a6 a7 a8 a9 a10 a11 a12 a13 : Option V} {o : Option V} {R : L2.St → Hp → Prop} (h : R (a0 :: a1 :: a2 :: a3 :: a4 :: a5 :: a6 :: a7 :: a8 :: a9 :: a10 :: a11 :: a12 :: a13 :: some v :: σ) H) : gName 14 v (a0 :: a1 :: a2 :: a3 :: a4 :: a5 :: a6 :: a7 :: a8 :: a9 :: a10 :: a11 :: a12 :: a13 :: o :: σ) H R := h
theorem v_aug14 {a0 a1 a2 a3 a4 a5 a6 a7 a8 a9 a10 a11 a12 a13 : Option V} {ti : TIp} {D : Ends} (h : ta (a0 :: a1 :: a2 :: a3 :: a4 :: a5 :: a6 :: a7 :: a8 :: a9 :: a10 :: a11 :: a12 :: a13 :: some v :: σ) H fun y H1 => ti v y H1 fun z H2 => D.nx (a0 :: a1 :: a2 :: a3 :: a4 :: a5 :: a6 :: a7 :: a8 :: a9 :: a10 :: a11 :: a12 :: a13 :: some z :: σ) H2) : tAug 14 ta ti D (a0 :: a1 :: a2 :: a3 :: a4 :: a5 :: a6 :: a7 :: a8 :: a9 :: a10 :: a11 :: a12 :: a13 :: some v :: σ) H := ⟨v, rfl, h⟩
theorem v_var15 {a0 a1 a2 a3 a4 a5 a6 a7 a8 a9 a10 a11 a12 a13 a14 : Option V} (h : Q v H) : tVar 15 (a0 :: a1 :: a2 :: a3 :: a4 :: a5 :: a6 :: a7 :: a8 :: a9 :: a10 :: a11 :: a12 :: a13 :: a14 :: some v :: σ) H Q := ⟨v, rfl, h⟩
theorem s_name15 {a0 a1 a2 a3 a4 a5 a6 a7 a8 a9 a10 a11 a12 a13 a14 : Option V} {o : Option V} {R : L2.St → Hp → Prop} (h : R (a0 :: a1 :: a2 :: a3 :: a4 :: a5 :: a6 :: a7 :: a8 :: a9 :: a10 :: a11 :: a12 :: a13 :: a14 :: some v :: σ) H) : gName 15 v (a0 :: a1 :: a2 :: a3 :: a4 :: a5 :: a6 :: a7 :: a8 :: a9 :: a10 :: a11 :: a12 :: a13 :: a14 :: o :: σ) H R := h
theorem v_aug15 {a0 a1 a2 a3 a4 a5 a6 a7 a8 a9 a10 a11 a12 a13 a14 : Option V} {ti : TIp} {D : Ends} (h : ta (a0 :: a1 :: a2 :: a3 :: a4 :: a5 :: a6 :: a7 :: a8 :: a9 :: a10 :: a11 :: a12 :: a13 :: a14 :: some v :: σ) H fun y H1 => ti v y H1 fun z H2 => D.nx (a0 :: a1 :: a2 :: a3 :: a4 :: a5 :: a6 :: a7 :: a8 :: a9 :: a10 :: a11 :: a12 :: a13 :: a14 :: some z :: σ) H2) : tAug 15 ta ti D (a0 :: a1 :: a2 :: a3 :: a4 :: a5 :: a6 :: a7 :: a8 :: a9 :: a10 :: a11 :: a12 :: a13 :: a14 :: some v :: σ) H := ⟨v, rfl, h⟩
theorem mod_r (h1 : 0 < j) (h : ∀ r, 0 ≤ r → r < j → r = i % j → Q (.int r) H) : aMod (.int i) (.int j) H Q := mod_ii h1 (h _ (Int.emod_nonneg _ (by omega)) (Int.emod_lt_of_pos _ h1) rfl)
theorem div_r (h1 : 0 < j) (h2 : j < 2 ^ 300) (h : ∀ r, r = i / j → Q (.int r) H) : aDiv (.int i) (.int j) H Q := div_ii h1 h2 (h _ rfl)
theorem ixN_lit {n k : Nat} (h0 : (0 : Int) ≤ (k : Int)) (h : (k : Int) < n) : ixN n (k : Int) = some k := by
  unfold ixN
  rw [if_pos h0, if_pos h]
  rfl
theorem ix_m0 {r : List V} (hp : H p = some (.lst (v :: r))) (h : Q v H) : aIx K (.ref p) (.int 0) H Q := ix_m hp (atI_nat (j := 0) rfl) h
theorem get_m0 {r : List V} (hp : H p = some (.lst (v :: r))) (h : Q v H) : gGetL K (.ref p) (.int 0) H Q := get_m hp (by decide) rfl h
theorem ix_m1 {a0 : V} {r : List V} (hp : H p = some (.lst (a0 :: v :: r))) (h : Q v H) : aIx K (.ref p) (.int 1) H Q := ix_m hp (atI_nat (j := 1) rfl) h
theorem get_m1 {a0 : V} {r : List V} (hp : H p = some (.lst (a0 :: v :: r))) (h : Q v H) : gGetL K (.ref p) (.int 1) H Q := get_m hp (by decide) rfl h
theorem set_m1 {a0 : V} {o : V} {r : List V} {R : Hp → Prop} (hp : H p = some (.lst (a0 :: o :: r))) (h : R (upd H p (.lst (a0 :: v :: r)))) : aSet (.ref p) (.int 1) v H R := set_m hp (n := 1) (ixN_lit (by decide) (by simp only [List.length_cons]; omega)) h
theorem ix_m2 {a0 a1 : V} {r : List V} (hp : H p = some (.lst (a0 :: a1 :: v :: r))) (h : Q v H) : aIx K (.ref p) (.int 2) H Q := ix_m hp (atI_nat (j := 2) rfl) h
theorem get_m2 {a0 a1 : V} {r : List V} (hp : H p = some (.lst (a0 :: a1 :: v :: r))) (h : Q v H) : gGetL K (.ref p) (.int 2) H Q := get_m hp (by decide) rfl h
theorem set_m2 {a0 a1 : V} {o : V} {r : List V} {R : Hp → Prop} (hp : H p = some (.lst (a0 :: a1 :: o :: r))) (h : R (upd H p (.lst (a0 :: a1 :: v :: r)))) : aSet (.ref p) (.int 2) v H R := set_m hp (n := 2) (ixN_lit (by decide) (by simp only [List.length_cons]; omega)) h
theorem ix_m3 {a0 a1 a2 : V} {r : List V} (hp : H p = some (.lst (a0 :: a1 :: a2 :: v :: r))) (h : Q v H) : aIx K (.ref p) (.int 3) H Q := ix_m hp (atI_nat (j := 3) rfl) h
theorem get_m3 {a0 a1 a2 : V} {r : List V} (hp : H p = some (.lst (a0 :: a1 :: a2 :: v :: r))) (h : Q v H) : gGetL K (.ref p) (.int 3) H Q := get_m hp (by decide) rfl h
theorem set_m3 {a0 a1 a2 : V} {o : V} {r : List V} {R : Hp → Prop} (hp : H p = some (.lst (a0 :: a1 :: a2 :: o :: r))) (h : R (upd H p (.lst (a0 :: a1 :: a2 :: v :: r)))) : aSet (.ref p) (.int 3) v H R := set_m hp (n := 3) (ixN_lit (by decide) (by simp only [List.length_cons]; omega)) h
theorem ix_m4 {a0 a1 a2 a3 : V} {r : List V} (hp : H p = some (.lst (a0 :: a1 :: a2 :: a3 :: v :: r))) (h : Q v H) : aIx K (.ref p) (.int 4) H Q := ix_m hp (atI_nat (j := 4) rfl) h
theorem get_m4 {a0 a1 a2 a3 : V} {r : List V} (hp : H p = some (.lst (a0 :: a1 :: a2 :: a3 :: v :: r))) (h : Q v H) : gGetL K (.ref p) (.int 4) H Q := get_m hp (by decide) rfl h
theorem set_m4 {a0 a1 a2 a3 : V} {o : V} {r : List V} {R : Hp → Prop} (hp : H p = some (.lst (a0 :: a1 :: a2 :: a3 :: o :: r))) (h : R (upd H p (.lst (a0 :: a1 :: a2 :: a3 :: v :: r)))) : aSet (.ref p) (.int 4) v H R := set_m hp (n := 4) (ixN_lit (by decide) (by simp only [List.length_cons]; omega)) h
theorem ix_m5 {a0 a1 a2 a3 a4 : V} {r : List V} (hp : H p = some (.lst (a0 :: a1 :: a2 :: a3 :: a4 :: v :: r))) (h : Q v H) : aIx K (.ref p) (.int 5) H Q := ix_m hp (atI_nat (j := 5) rfl) h
theorem get_m5 {a0 a1 a2 a3 a4 : V} {r : List V} (hp : H p = some (.lst (a0 :: a1 :: a2 :: a3 :: a4 :: v :: r))) (h : Q v H) : gGetL K (.ref p) (.int 5) H Q := get_m hp (by decide) rfl h
theorem set_m5 {a0 a1 a2 a3 a4 : V} {o : V} {r : List V} {R : Hp → Prop} (hp : H p = some (.lst (a0 :: a1 :: a2 :: a3 :: a4 :: o :: r))) (h : R (upd H p (.lst (a0 :: a1 :: a2 :: a3 :: a4 :: v :: r)))) : aSet (.ref p) (.int 5) v H R := set_m hp (n := 5) (ixN_lit (by decide) (by simp only [List.length_cons]; omega)) h
theorem st_set1 {st : Addr} {H0 : Hp} {c0 c1 c2 c3 c4 c5 v : V} {R : Hp → Prop} (hp : H st = some (.lst [c0, c1, c2, c3, c4, c5])) (k : Keep st H0 H) (h : ∀ H1, H1 st = some (.lst [c0, v, c2, c3, c4, c5]) → Keep st H0 H1 → R H1) : aSet (.ref st) (.int 1) v H R := set_m1 hp (h _ upd_same (k.upd hp))
theorem st_set2 {st : Addr} {H0 : Hp} {c0 c1 c2 c3 c4 c5 v : V} {R : Hp → Prop} (hp : H st = some (.lst [c0, c1, c2, c3, c4, c5])) (k : Keep st H0 H) (h : ∀ H1, H1 st = some (.lst [c0, c1, v, c3, c4, c5]) → Keep st H0 H1 → R H1) : aSet (.ref st) (.int 2) v H R := set_m2 hp (h _ upd_same (k.upd hp))
theorem st_set3 {st : Addr} {H0 : Hp} {c0 c1 c2 c3 c4 c5 v : V} {R : Hp → Prop} (hp : H st = some (.lst [c0, c1, c2, c3, c4, c5])) (k : Keep st H0 H) (h : ∀ H1, H1 st = some (.lst [c0, c1, c2, v, c4, c5]) → Keep st H0 H1 → R H1) : aSet (.ref st) (.int 3) v H R := set_m3 hp (h _ upd_same (k.upd hp))
theorem st_set4 {st : Addr} {H0 : Hp} {c0 c1 c2 c3 c4 c5 v : V} {R : Hp → Prop} (hp : H st = some (.lst [c0, c1, c2, c3, c4, c5])) (k : Keep st H0 H) (h : ∀ H1, H1 st = some (.lst [c0, c1, c2, c3, v, c5]) → Keep st H0 H1 → R H1) : aSet (.ref st) (.int 4) v H R := set_m4 hp (h _ upd_same (k.upd hp))
theorem st_set5 {st : Addr} {H0 : Hp} {c0 c1 c2 c3 c4 c5 v : V} {R : Hp → Prop} (hp : H st = some (.lst [c0, c1, c2, c3, c4, c5])) (k : Keep st H0 H) (h : ∀ H1, H1 st = some (.lst [c0, c1, c2, c3, c4, v]) → Keep st H0 H1 → R H1) : aSet (.ref st) (.int 5) v H R := set_m5 hp (h _ upd_same (k.upd hp))
theorem s_next {D : Ends} (h : D.nx σ H) : tNext D σ H := h
theorem s_break {D : Ends} (h : D.bk σ H) : tBreak D σ H := h
theorem s_cont {D : Ends} (h : D.ct σ H) : tCont D σ H := h
theorem s_cut {D : Ends} {t1 t2 : TS} (Mid : L2.St → Hp → Prop) (h1 : t1 { D with nx := Mid } σ H) (h2 : ∀ σ' H', Mid σ' H' → t2 D σ' H') : tCut t1 t2 D σ H := ⟨Mid, h1, h2⟩
end
theorem atI_ints {ns : List Int} {k : Int} (h0 : 0 ≤ k) (h : k < ((ns.map V.int).length : Nat)) : ∃ c : Int, atI (ns.map V.int) k = some (.int c) := by
  rw [List.length_map] at h
  have hk : k.toNat < ns.length := by omega
  have ek : k = ((k.toNat : Nat) : Int) := by omega
  refine ⟨ns[k.toNat], ?_⟩
  have q : atI (ns.map V.int) ((k.toNat : Nat) : Int) = some (.int ns[k.toNat]) := atI_nat (by rw [List.getElem?_map, List.getElem?_eq_getElem hk] <;> rfl)
  rw [← ek] at q
  exact q
/-- what a for owes where its iterator J stands -/
def LoopI (J : It) (g : TG) (tb : TS) (D : Ends) (σ : L2.St) (H : Hp) : Prop := ∃ W : Nat → Nat → L2.St → Hp → Prop, (∃ m, W 0 m σ H) ∧ ∀ i m σ H, W i m σ H →
  (J.stop i H ∧ D.nx σ H) ∨ (J.go i H ∧ ∃ N : L2.St → Hp → Prop, (∀ σ' H', N σ' H' → ∃ m', m' < m ∧ W (i + 1) m' σ' H') ∧ ∀ x H', J.yld i H x H' → g x σ H' fun σ2 H2 => tb { D with nx := N, ct := N, bk := D.nx } σ2 H2)
section
variable {K : PySem.W.Frag} {H : Hp} {σ : L2.St} {D : Ends} {g : TG} {tb : TS} {ta : TA} {te : TE}
theorem s_for1 (h : ta σ H fun vs H1 => ∃ j : Int, vs = [.int j] ∧ -(2 ^ 62) ≤ j ∧ j < 2 ^ 62 ∧ LoopI (Itr 0 j.toNat) g tb D σ H1) : tFor (iRng1 ta) g tb D σ H := h
theorem rng1 {j : Int} {R : Int → Prop} (h1 : -(2 ^ 62) ≤ j) (h2 : j < 2 ^ 62) (h : R j) : ∃ j' : Int, [V.int j] = [.int j'] ∧ -(2 ^ 62) ≤ j' ∧ j' < 2 ^ 62 ∧ R j' := ⟨j, rfl, h1, h2, h⟩
theorem loop_rng {n : Nat} (Pv : Nat → L2.St → Hp → Prop) (h0 : Pv 0 σ H) (hs : ∀ i σ H, i < n → Pv i σ H → g (.int (i : Int)) σ H fun σ2 H2 => tb { D with nx := Pv (i + 1), ct := Pv (i + 1), bk := D.nx } σ2 H2)
    (hd : ∀ σ H, Pv n σ H → D.nx σ H) : LoopI (Itr 0 n) g tb D σ H := for_range Pv h0 (fun i σ H hi hp => by rw [Int.zero_add]; exact hs i σ H hi hp) hd
theorem s_forL (h : te σ H fun x H1 => ∃ a, x = .ref a ∧ (∃ xs, SqL K H1 a xs) ∧ LoopI (Itl K a) g tb D σ H1) : tFor (iList K te) g tb D σ H := h
end
end NW
namespace NW
open PySem PySem.Spec PyProof.Rows L2
open C8 (tCut pss_cut)
local macro_rules | `(tactic| walk_at "nw") => `(tactic| first
  | with_reducible refine s_seq ?_
  | with_reducible refine s_asg ?_
  | with_reducible refine s_if ?_
  | with_reducible refine s_ret ?_
  | with_reducible refine s_drop ?_
  | with_reducible refine v_var0 ?_
  | with_reducible refine s_name0 ?_
  | with_reducible refine v_aug0 ?_
  | with_reducible refine v_var1 ?_
  | with_reducible refine s_name1 ?_
  | with_reducible refine v_aug1 ?_
  | with_reducible refine v_var2 ?_
  | with_reducible refine s_name2 ?_
  | with_reducible refine v_aug2 ?_
  | with_reducible refine v_var3 ?_
  | with_reducible refine s_name3 ?_
  | with_reducible refine v_aug3 ?_
  | with_reducible refine v_var4 ?_
  | with_reducible refine s_name4 ?_
  | with_reducible refine v_aug4 ?_
  | with_reducible refine v_var5 ?_
  | with_reducible refine s_name5 ?_
  | with_reducible refine v_aug5 ?_
  | with_reducible refine v_var6 ?_
  | with_reducible refine s_name6 ?_
  | with_reducible refine v_aug6 ?_
  | with_reducible refine v_var7 ?_
  | with_reducible refine s_name7 ?_
  | with_reducible refine v_aug7 ?_
  | with_reducible refine v_var8 ?_
  | with_reducible refine s_name8 ?_
  | with_reducible refine v_aug8 ?_
  | with_reducible refine v_var9 ?_
  | with_reducible refine s_name9 ?_
  | with_reducible refine v_aug9 ?_
  | with_reducible refine v_var10 ?_
  | with_reducible refine s_name10 ?_
  | with_reducible refine v_aug10 ?_
  | with_reducible refine v_var11 ?_
  | with_reducible refine s_name11 ?_
  | with_reducible refine v_aug11 ?_
  | with_reducible refine v_var12 ?_
  | with_reducible refine s_name12 ?_
  | with_reducible refine v_aug12 ?_
  | with_reducible refine v_var13 ?_
  | with_reducible refine s_name13 ?_
  | with_reducible refine v_aug13 ?_
  | with_reducible refine v_var14 ?_
  | with_reducible refine s_name14 ?_
  | with_reducible refine v_aug14 ?_
  | with_reducible refine v_var15 ?_
  | with_reducible refine s_name15 ?_
  | with_reducible refine v_aug15 ?_
  | with_reducible refine v_c ?_
  | with_reducible refine v_op ?_
  | with_reducible refine v_cons ?_
  | with_reducible refine v_nil ?_
  | with_reducible refine v_cb ?_
  | with_reducible refine v_call ?_
  | with_reducible refine c_test ?_
  | with_reducible refine c_bl ?_
  | with_reducible refine c_and ?_
  | with_reducible refine c_or ?_
  | with_reducible refine c_not ?_
  | with_reducible refine v_augS ?_
  | with_reducible refine v_sub ?_
  | with_reducible refine add_ii ?_
  | with_reducible refine sub_ii ?_
  | with_reducible refine iadd_ii ?_
  | with_reducible refine lt_ii ?_
  | with_reducible refine le_ii ?_
  | with_reducible refine gt_ii ?_
  | with_reducible refine ge_ii ?_
  | with_reducible refine eq_ii ?_
  | with_reducible refine ne_ii ?_
  | with_reducible refine int_i ?_
  | with_reducible refine abs_i ?_
  | with_reducible refine max_i ?_
  | with_reducible refine min_i ?_
  | with_reducible refine mul_r (by omega) (by omega) ?_
  | with_reducible refine mul_l (by omega) (by omega) ?_
  | with_reducible refine ix_m0 (by assumption) ?_
  | with_reducible refine get_m0 (by assumption) ?_
  | with_reducible refine ix_m1 (by assumption) ?_
  | with_reducible refine get_m1 (by assumption) ?_
  | with_reducible refine ix_m2 (by assumption) ?_
  | with_reducible refine get_m2 (by assumption) ?_
  | with_reducible refine ix_m3 (by assumption) ?_
  | with_reducible refine get_m3 (by assumption) ?_
  | with_reducible refine ix_m4 (by assumption) ?_
  | with_reducible refine get_m4 (by assumption) ?_
  | with_reducible refine ix_m5 (by assumption) ?_
  | with_reducible refine get_m5 (by assumption) ?_
  | (with_reducible refine st_set1 (by assumption) (by assumption) ?_; intro H1 hs1 kp1)
  | (with_reducible refine st_set2 (by assumption) (by assumption) ?_; intro H1 hs1 kp1)
  | (with_reducible refine st_set3 (by assumption) (by assumption) ?_; intro H1 hs1 kp1)
  | (with_reducible refine st_set4 (by assumption) (by assumption) ?_; intro H1 hs1 kp1)
  | (with_reducible refine st_set5 (by assumption) (by assumption) ?_; intro H1 hs1 kp1)
  | with_reducible refine len_m (by assumption) ?_
  | with_reducible refine s_for1 ?_
  | with_reducible refine s_forL ?_
  | with_reducible refine rng1 (by omega) (by omega) ?_
  | with_reducible refine s_next ?_
  | with_reducible refine s_break ?_
  | with_reducible refine s_cont ?_
  | with_reducible refine if_t ?_
  | with_reducible refine if_f ?_)
def sp_mix : Sp := fun vs H Q _ => ∃ a b : Int, vs = [.int a, .int b] ∧ ∀ r : Int, 0 ≤ r → r < 9967 → Q (.int r) H
def t_mix (K : PySem.W.Frag) : TS :=
  (tSeq (tAsg (tOp aMod (tOp aAdd (tOp aAdd (tOp aMul (tCB aInt (tCons (tVar 0) tNil)) (tC (.int 29))) (tOp aMul (tCB aInt (tCons (tVar 1) tNil)) (tC (.int 4001)))) (tC (.int 17))) (tC (.int 10007))) (gName 2))
    (tSeq (tAsg (tOp aMod (tOp aAdd (tOp aAdd (tOp aAdd (tOp aMul (tVar 2) (tVar 2)) (tVar 2)) (tCB aInt (tCons (tVar 0) tNil))) (tCB aInt (tCons (tVar 1) tNil))) (tC (.int 9973))) (gName 3))
    (tRet (tOp aMod (tOp aAdd (tOp aAdd (tOp aMul (tVar 3) (tVar 3)) (tOp aMul (tC (.int 3)) (tVar 3))) (tVar 2)) (tC (.int 9967))))))
theorem p_mix (K : PySem.W.Frag) (vs : List V) (H : Hp) (Q : VK) (E : XK) (h : sp_mix vs H Q E) : t_mix K { nx := fun _ H' => Q .non H', rt := Q } (start ["seed", "turn", "one", "two"] vs) H := by
  obtain ⟨a, b, e, q⟩ := h
  subst e
  show t_mix K _ [some (.int a), some (.int b), none, none] H
  unfold t_mix
  repeat walk_at "nw"
  refine mod_r (by omega) fun one h0 h1 _ => ?_
  repeat walk_at "nw"
  refine mod_r (by omega) fun two h2 h3 _ => ?_
  repeat walk_at "nw"
  refine mod_r (by omega) fun r h4 h5 _ => ?_
  repeat walk_at "nw"
  exact q r h4 h5
def sp_take : Sp := fun vs H Q _ => ∃ (st : Addr) (many : Int), vs = [.ref st, .int many] ∧ Sto H st ∧ many < 2 ^ 300 ∧ ∀ (r : Int) (H' : Hp), Sto H' st → Keep st H H' → 0 ≤ r → (r < many ∨ r = 0) → Q (.int r) H'
def t_take (K : PySem.W.Frag) : TS :=
  (tSeq (tIfS (tTest (tOp aLt (tVar 1) (tC (.int 2)))) (tRet (tC (.int 0))) tNext)
    (tCut (tIfS (tAnd (tTest (tOp aEq (tOp (aIx K) (tVar 0) (tC (.int 2))) (tC (.int 0)))) (tAnd (tTest (tOp aEq (tOp (aIx K) (tVar 0) (tC (.int 3))) (tC (.int 0)))) (tTest (tOp aLt (tOp (aIx K) (tVar 0) (tC (.int 1))) (tCB (aLen K) (tCons (tOp (aIx K) (tVar 0) (tC (.int 0))) tNil)))))) (tSeq (tAsg (tCB aInt (tCons (tOp (aIx K) (tOp (aIx K) (tVar 0) (tC (.int 0))) (tOp (aIx K) (tVar 0) (tC (.int 1)))) tNil)) (gName 2))
    (tSeq (tAugS (tVar 0) (tC (.int 1)) (tC (.int 1)) (gGetL K) iAdd aSet)
    (tSeq (tAsg (tOp aMod (tCB aInt (tCons (tOp aAdd (tOp aMul (tOp (aIx K) (tVar 0) (tC (.int 4))) (tC (.int 31))) (tVar 2)) tNil)) (tC (.int 100000007))) (gSub (tVar 0) (tC (.int 4)) aSet))
    (tIfS (tTest (tOp aGe (tCB aAbs (tCons (tVar 2) tNil)) (tC (.int 1000000000000000000)))) (tAsg (tCB aAbs (tCons (tVar 2) tNil)) (gSub (tVar 0) (tC (.int 2)) aSet)) (tAsg (tC (.int 2)) (gSub (tVar 0) (tC (.int 3)) aSet)))))) tNext)
    (tSeq (tAugS (tVar 0) (tC (.int 5)) (tC (.int 1)) (gGetL K) iAdd aSet)
    (tSeq (tIfS (tTest (tOp aGt (tOp (aIx K) (tVar 0) (tC (.int 2))) (tC (.int 0)))) (tSeq (tAsg (tCB aInt (tCons (tOp (aIx K) (tVar 0) (tC (.int 2))) tNil)) (gName 3))
    (tSeq (tAsg (tOp aDiv (tVar 3) (tVar 1)) (gSub (tVar 0) (tC (.int 2)) aSet))
    (tRet (tOp aMod (tVar 3) (tVar 1))))) tNext)
    (tSeq (tAsg (tCB aMax (tCons (tC (.int 0)) (tCons (tOp aSub (tOp (aIx K) (tVar 0) (tC (.int 3))) (tC (.int 1))) tNil))) (gSub (tVar 0) (tC (.int 3)) aSet))
    (tSeq (tAsg (tC (.int 0)) (gName 4))
    (tSeq (tAsg (tC (.int 1)) (gName 5))
    (tSeq (tFor (iRng1 (tCons (tC (.int 60)) tNil)) (gName 6) (tSeq (tIfS (tTest (tOp aGe (tVar 5) (tVar 1))) tBreak tNext)
    (tSeq (tAsg (tOp aAdd (tOp aMul (tVar 4) (tC (.int 9967))) (tCall sp_mix [] E0 (tCons (tOp (aIx K) (tVar 0) (tC (.int 4))) (tCons (tOp aAdd (tOp (aIx K) (tVar 0) (tC (.int 5))) (tOp aMul (tC (.int 977)) (tVar 6))) tNil)))) (gName 4))
    (tAsg (tOp aMul (tVar 5) (tC (.int 9967))) (gName 5)))))
    (tRet (tOp aMod (tCB aInt (tCons (tVar 4) tNil)) (tVar 1)))))))))))
theorem p_take (K : PySem.W.Frag) (vs : List V) (H : Hp) (Q : VK) (E : XK) (h : sp_take vs H Q E) : t_take K { nx := fun _ H' => Q .non H', rt := Q } (start ["store", "many", "cell", "digits", "number", "room", "k"] vs) H := by
  obtain ⟨st, many, e, ⟨cl, ns, at_, left, small, seed, turn, hs, hc, h0⟩, hm, q⟩ := h
  subst e
  show t_take K _ [some (.ref st), some (.int many), none, none, none, none, none] H
  have hne : cl ≠ st := fun z => by
    rw [z, hs] at hc
    cases ns with
    | nil => cases hc
    | cons a r => cases hc
  have kp := Keep.refl st H
  unfold t_take
  repeat walk_at "nw"
  refine if_d (fun c => ?_) (fun c => ?_)
  · repeat walk_at "nw"
    exact q 0 H ⟨cl, ns, at_, left, small, seed, turn, hs, hc, h0⟩ (Keep.refl _ _) (by omega) (.inr rfl)
  have kc : ∀ {H2 : Hp}, Keep st H H2 → H2 cl = some (.lst (ns.map V.int)) := fun k => k.o cl _ hc hne
  refine s_cut (fun σ' H' => ∃ (o : Option V) (at_ left small seed turn : Int), σ' = [some (.ref st), some (.int many), o, none, none, none, none] ∧
    H' st = some (.lst [.ref cl, .int at_, .int left, .int small, .int seed, .int turn]) ∧ 0 ≤ at_ ∧ Keep st H H') ?_ ?_
  · -- the store's cells: the next one is begun, or nothing is done
    have stay : ∃ (o : Option V) (at_ left small seed turn : Int), [some (V.ref st), some (V.int many), none, none, none, none, none] = [some (.ref st), some (.int many), o, none, none, none, none] ∧
      H st = some (.lst [.ref cl, .int at_, .int left, .int small, .int seed, .int turn]) ∧ 0 ≤ at_ ∧ Keep st H H := ⟨none, at_, left, small, seed, turn, rfl, hs, h0, kp⟩
    repeat walk_at "nw"
    refine if_d (fun _ => ?_) (fun _ => ?_)
    rotate_left
    · repeat walk_at "nw"
      exact stay
    repeat walk_at "nw"
    refine if_d (fun _ => ?_) (fun _ => ?_)
    rotate_left
    · repeat walk_at "nw"
      exact stay
    repeat walk_at "nw"
    refine if_d (fun c3 => ?_) (fun _ => ?_)
    rotate_left
    · repeat walk_at "nw"
      exact stay
    obtain ⟨cell, hcell⟩ := atI_ints h0 c3
    repeat walk_at "nw"
    refine ix_m hc hcell ?_
    repeat walk_at "nw"
    refine mod_r (by omega) fun seed' _ _ _ => ?_
    repeat walk_at "nw"
    refine if_d (fun _ => ?_) (fun _ => ?_)
    · repeat walk_at "nw"
      exact ⟨_, _, _, _, _, _, rfl, by assumption, by omega, by assumption⟩
    · repeat walk_at "nw"
      exact ⟨_, _, _, _, _, _, rfl, by assumption, by omega, by assumption⟩
  · clear hs kp
    rintro σ' H' ⟨o, at_, left, small, seed, turn, rfl, hs, h0, kp⟩
    repeat walk_at "nw"
    refine if_d (fun c2 => ?_) (fun _ => ?_)
    · repeat walk_at "nw"
      refine div_r (by omega) hm fun d _ => ?_
      repeat walk_at "nw"
      refine mod_r (by omega) fun r h4 h5 _ => ?_
      exact q r _ ⟨cl, ns, _, _, _, _, _, by assumption, kc (by assumption), h0⟩ (by assumption) h4 (.inl h5)
    · repeat walk_at "nw"
      rename_i H1 hs1 kp1
      have fin : ∀ number : Int, aMod (.int number) (.int many) H1 Q := fun number => mod_r (by omega) fun r h4 h5 _ => q r _ ⟨cl, ns, _, _, _, _, _, hs1, kc kp1, h0⟩ kp1 h4 (.inl h5)
      refine loop_rng (fun _ σ' H' => ∃ (number room : Int) (kk : Option V), σ' = [some (.ref st), some (.int many), o, none, some (.int number), some (.int room), kk] ∧ H' = H1) ⟨0, 1, none, rfl, rfl⟩ ?_ ?_
      · rintro i σ' H' _ ⟨number, room, kk, rfl, rfl⟩
        repeat walk_at "nw"
        refine if_d (fun _ => ?_) (fun _ => ?_)
        · repeat walk_at "nw"
          exact fin _
        · repeat walk_at "nw"
          refine ⟨_, _, rfl, fun r _ _ => ?_⟩
          repeat walk_at "nw"
          exact ⟨_, _, _, rfl, rfl⟩
      · rintro σ' H' ⟨number, room, kk, rfl, rfl⟩
        repeat walk_at "nw"
        exact fin _
theorem l_mix : ∀ vs H Q E, sp_mix vs H Q E → vs.length = 2 := fun _ _ _ _ ⟨_, _, e, _⟩ => by rw [e]; rfl
theorem l_take : ∀ vs H Q E, sp_take vs H Q E → vs.length = 2 := fun _ _ _ _ ⟨_, _, e, _⟩ => by rw [e]; rfl
end NW
namespace NW
open PySem PySem.Spec PyProof.Rows L2
open C8 (tCut pss_cut)
def aIsi (K : PySem.W.Frag) : List V → Hp → VK → Prop := fun xs H Q => rIsi K xs H Q ∨ rIsiT K xs H Q
theorem cIsi {X : Cx} : CallR X (.builtin "isinstance") (aIsi X.K) := orCall call_isi call_isiT
section
variable {K : PySem.W.Frag} {H : Hp} {Q : VK} {x : V} {T a : String} {b : Bool}
theorem isi_of (ht : TyX K H x (.type a)) (hb : kitB a T = some b) (h : Q (.bl b) H) : aIsi K [x, .ty T] H Q := .inl ⟨x, _, _, _, b, rfl, .ty T, ht, kit_ty hb, h⟩
theorem isi_two {p : Addr} {T U : String} {b c : Bool} (ht : TyX K H x (.type a)) (hp : H p = some (.tup [.ty T, .ty U])) (hb : kitB a T = some b) (hc : kitB a U = some c) (h : Q (.bl (b || c)) H) : aIsi K [x, .ref p] H Q :=
  .inr ⟨x, p, _, _, _, b || c, rfl, hp, .cons (.ty T) (.cons (.ty U) .nil), ht, kitAny_cons (kit_ty hb) (fun e => by rw [e]; exact kitAny_cons (kit_ty hc) (fun e2 => by rw [e2]; rfl) (fun e2 => by rw [e2]; rfl)) (fun e => by rw [e]; rfl), h⟩
end
section
variable {K : PySem.W.Frag} {H H0 : Hp} {Q : VK} {i : Int} {k : Bool} {s : Str} {p t : Addr} {xs : List V} {kvs : List (Key × V)}
theorem isi_non_bool (h : Q (.bl false) H) : aIsi K [.non, .ty "bool"] H Q := isi_of (.base .non) (by decide +kernel) h
theorem isi_non_int (h : Q (.bl false) H) : aIsi K [.non, .ty "int"] H Q := isi_of (.base .non) (by decide +kernel) h
theorem isi_non_str (h : Q (.bl false) H) : aIsi K [.non, .ty "str"] H Q := isi_of (.base .non) (by decide +kernel) h
theorem isi_non_list (h : Q (.bl false) H) : aIsi K [.non, .ty "list"] H Q := isi_of (.base .non) (by decide +kernel) h
theorem isi_non_tuple (h : Q (.bl false) H) : aIsi K [.non, .ty "tuple"] H Q := isi_of (.base .non) (by decide +kernel) h
theorem isi_non_dict (h : Q (.bl false) H) : aIsi K [.non, .ty "dict"] H Q := isi_of (.base .non) (by decide +kernel) h
theorem isi_non_seq (ht : H t = some (.tup [.ty "list", .ty "tuple"])) (h : Q (.bl false) H) : aIsi K [.non, .ref t] H Q := isi_two (b := false) (c := false) (.base .non) ht (by decide +kernel) (by decide +kernel) h
theorem isi_bl_bool (h : Q (.bl true) H) : aIsi K [(.bl k), .ty "bool"] H Q := isi_of (.base (.bl _)) (by decide +kernel) h
theorem isi_bl_int (h : Q (.bl true) H) : aIsi K [(.bl k), .ty "int"] H Q := isi_of (.base (.bl _)) (by decide +kernel) h
theorem isi_bl_str (h : Q (.bl false) H) : aIsi K [(.bl k), .ty "str"] H Q := isi_of (.base (.bl _)) (by decide +kernel) h
theorem isi_bl_list (h : Q (.bl false) H) : aIsi K [(.bl k), .ty "list"] H Q := isi_of (.base (.bl _)) (by decide +kernel) h
theorem isi_bl_tuple (h : Q (.bl false) H) : aIsi K [(.bl k), .ty "tuple"] H Q := isi_of (.base (.bl _)) (by decide +kernel) h
theorem isi_bl_dict (h : Q (.bl false) H) : aIsi K [(.bl k), .ty "dict"] H Q := isi_of (.base (.bl _)) (by decide +kernel) h
theorem isi_bl_seq (ht : H t = some (.tup [.ty "list", .ty "tuple"])) (h : Q (.bl false) H) : aIsi K [(.bl k), .ref t] H Q := isi_two (b := false) (c := false) (.base (.bl _)) ht (by decide +kernel) (by decide +kernel) h
theorem isi_int_bool (h : Q (.bl false) H) : aIsi K [(.int i), .ty "bool"] H Q := isi_of (.base (.int _)) (by decide +kernel) h
theorem isi_int_int (h : Q (.bl true) H) : aIsi K [(.int i), .ty "int"] H Q := isi_of (.base (.int _)) (by decide +kernel) h
theorem isi_int_str (h : Q (.bl false) H) : aIsi K [(.int i), .ty "str"] H Q := isi_of (.base (.int _)) (by decide +kernel) h
theorem isi_int_list (h : Q (.bl false) H) : aIsi K [(.int i), .ty "list"] H Q := isi_of (.base (.int _)) (by decide +kernel) h
theorem isi_int_tuple (h : Q (.bl false) H) : aIsi K [(.int i), .ty "tuple"] H Q := isi_of (.base (.int _)) (by decide +kernel) h
theorem isi_int_dict (h : Q (.bl false) H) : aIsi K [(.int i), .ty "dict"] H Q := isi_of (.base (.int _)) (by decide +kernel) h
theorem isi_int_seq (ht : H t = some (.tup [.ty "list", .ty "tuple"])) (h : Q (.bl false) H) : aIsi K [(.int i), .ref t] H Q := isi_two (b := false) (c := false) (.base (.int _)) ht (by decide +kernel) (by decide +kernel) h
theorem isi_str_bool (h : Q (.bl false) H) : aIsi K [(.str s), .ty "bool"] H Q := isi_of (.base (.str _)) (by decide +kernel) h
theorem isi_str_int (h : Q (.bl false) H) : aIsi K [(.str s), .ty "int"] H Q := isi_of (.base (.str _)) (by decide +kernel) h
theorem isi_str_str (h : Q (.bl true) H) : aIsi K [(.str s), .ty "str"] H Q := isi_of (.base (.str _)) (by decide +kernel) h
theorem isi_str_list (h : Q (.bl false) H) : aIsi K [(.str s), .ty "list"] H Q := isi_of (.base (.str _)) (by decide +kernel) h
theorem isi_str_tuple (h : Q (.bl false) H) : aIsi K [(.str s), .ty "tuple"] H Q := isi_of (.base (.str _)) (by decide +kernel) h
theorem isi_str_dict (h : Q (.bl false) H) : aIsi K [(.str s), .ty "dict"] H Q := isi_of (.base (.str _)) (by decide +kernel) h
theorem isi_str_seq (ht : H t = some (.tup [.ty "list", .ty "tuple"])) (h : Q (.bl false) H) : aIsi K [(.str s), .ref t] H Q := isi_two (b := false) (c := false) (.base (.str _)) ht (by decide +kernel) (by decide +kernel) h
theorem isi_lst_bool (hs : Same H0 H) (hp : H0 p = some (.lst xs)) (h : Q (.bl false) H) : aIsi K [(.ref p), .ty "bool"] H Q := isi_of (.base (.lst (hs _ _ hp))) (by decide +kernel) h
theorem isi_lst_int (hs : Same H0 H) (hp : H0 p = some (.lst xs)) (h : Q (.bl false) H) : aIsi K [(.ref p), .ty "int"] H Q := isi_of (.base (.lst (hs _ _ hp))) (by decide +kernel) h
theorem isi_lst_str (hs : Same H0 H) (hp : H0 p = some (.lst xs)) (h : Q (.bl false) H) : aIsi K [(.ref p), .ty "str"] H Q := isi_of (.base (.lst (hs _ _ hp))) (by decide +kernel) h
theorem isi_lst_list (hs : Same H0 H) (hp : H0 p = some (.lst xs)) (h : Q (.bl true) H) : aIsi K [(.ref p), .ty "list"] H Q := isi_of (.base (.lst (hs _ _ hp))) (by decide +kernel) h
theorem isi_lst_tuple (hs : Same H0 H) (hp : H0 p = some (.lst xs)) (h : Q (.bl false) H) : aIsi K [(.ref p), .ty "tuple"] H Q := isi_of (.base (.lst (hs _ _ hp))) (by decide +kernel) h
theorem isi_lst_dict (hs : Same H0 H) (hp : H0 p = some (.lst xs)) (h : Q (.bl false) H) : aIsi K [(.ref p), .ty "dict"] H Q := isi_of (.base (.lst (hs _ _ hp))) (by decide +kernel) h
theorem isi_lst_seq (hs : Same H0 H) (hp : H0 p = some (.lst xs)) (ht : H t = some (.tup [.ty "list", .ty "tuple"])) (h : Q (.bl true) H) : aIsi K [(.ref p), .ref t] H Q := isi_two (b := true) (c := false) (.base (.lst (hs _ _ hp))) ht (by decide +kernel) (by decide +kernel) h
theorem isi_tup_bool (hs : Same H0 H) (hp : H0 p = some (.tup xs)) (h : Q (.bl false) H) : aIsi K [(.ref p), .ty "bool"] H Q := isi_of (.base (.tup (hs _ _ hp))) (by decide +kernel) h
theorem isi_tup_int (hs : Same H0 H) (hp : H0 p = some (.tup xs)) (h : Q (.bl false) H) : aIsi K [(.ref p), .ty "int"] H Q := isi_of (.base (.tup (hs _ _ hp))) (by decide +kernel) h
theorem isi_tup_str (hs : Same H0 H) (hp : H0 p = some (.tup xs)) (h : Q (.bl false) H) : aIsi K [(.ref p), .ty "str"] H Q := isi_of (.base (.tup (hs _ _ hp))) (by decide +kernel) h
theorem isi_tup_list (hs : Same H0 H) (hp : H0 p = some (.tup xs)) (h : Q (.bl false) H) : aIsi K [(.ref p), .ty "list"] H Q := isi_of (.base (.tup (hs _ _ hp))) (by decide +kernel) h
theorem isi_tup_tuple (hs : Same H0 H) (hp : H0 p = some (.tup xs)) (h : Q (.bl true) H) : aIsi K [(.ref p), .ty "tuple"] H Q := isi_of (.base (.tup (hs _ _ hp))) (by decide +kernel) h
theorem isi_tup_dict (hs : Same H0 H) (hp : H0 p = some (.tup xs)) (h : Q (.bl false) H) : aIsi K [(.ref p), .ty "dict"] H Q := isi_of (.base (.tup (hs _ _ hp))) (by decide +kernel) h
theorem isi_tup_seq (hs : Same H0 H) (hp : H0 p = some (.tup xs)) (ht : H t = some (.tup [.ty "list", .ty "tuple"])) (h : Q (.bl true) H) : aIsi K [(.ref p), .ref t] H Q := isi_two (b := false) (c := true) (.base (.tup (hs _ _ hp))) ht (by decide +kernel) (by decide +kernel) h
theorem isi_dK_bool (hs : Same H0 H) (hp : H0 p = some (.dK kvs)) (h : Q (.bl false) H) : aIsi K [(.ref p), .ty "bool"] H Q := isi_of (.base (.dK (hs _ _ hp))) (by decide +kernel) h
theorem isi_dK_int (hs : Same H0 H) (hp : H0 p = some (.dK kvs)) (h : Q (.bl false) H) : aIsi K [(.ref p), .ty "int"] H Q := isi_of (.base (.dK (hs _ _ hp))) (by decide +kernel) h
theorem isi_dK_str (hs : Same H0 H) (hp : H0 p = some (.dK kvs)) (h : Q (.bl false) H) : aIsi K [(.ref p), .ty "str"] H Q := isi_of (.base (.dK (hs _ _ hp))) (by decide +kernel) h
theorem isi_dK_list (hs : Same H0 H) (hp : H0 p = some (.dK kvs)) (h : Q (.bl false) H) : aIsi K [(.ref p), .ty "list"] H Q := isi_of (.base (.dK (hs _ _ hp))) (by decide +kernel) h
theorem isi_dK_tuple (hs : Same H0 H) (hp : H0 p = some (.dK kvs)) (h : Q (.bl false) H) : aIsi K [(.ref p), .ty "tuple"] H Q := isi_of (.base (.dK (hs _ _ hp))) (by decide +kernel) h
theorem isi_dK_dict (hs : Same H0 H) (hp : H0 p = some (.dK kvs)) (h : Q (.bl true) H) : aIsi K [(.ref p), .ty "dict"] H Q := isi_of (.base (.dK (hs _ _ hp))) (by decide +kernel) h
theorem isi_dK_seq (hs : Same H0 H) (hp : H0 p = some (.dK kvs)) (ht : H t = some (.tup [.ty "list", .ty "tuple"])) (h : Q (.bl false) H) : aIsi K [(.ref p), .ref t] H Q := isi_two (b := false) (c := false) (.base (.dK (hs _ _ hp))) ht (by decide +kernel) (by decide +kernel) h
/-- a new tuple -/
theorem tup_new {σ : L2.St} {ta : TA} (h : ta σ H fun ys H1 => ys.length ≤ sizeLine ∧ NewR (.tup ys) H1 Q) : tTup ta σ H Q := h
theorem lst_new {σ : L2.St} {ta : TA} (h : ta σ H fun ys H1 => ys.length ≤ sizeLine ∧ NewR (.lst ys) H1 Q) : tLst ta σ H Q := h
theorem lit_len {ys : List V} {A : Prop} (hl : ys.length ≤ 1000000) (h : A) : ys.length ≤ sizeLine ∧ A := ⟨Nat.le_trans hl (by decide), h⟩
theorem new_same {o : HO} (hs : Same H0 H) (h : ∀ q H1, H q = none → H1 q = some o → Same H H1 → Same H0 H1 → Q (.ref q) H1) : NewR o H Q :=
  fun q hq => h q _ hq upd_same (fun b o e => by rw [upd_ne (ne_of_none e hq)]; exact e) (fun b o e => by rw [upd_ne (ne_of_none (hs b o e) hq)]; exact hs b o e)
theorem ev_isN {σ : L2.St} {te : TE} (h : te σ H fun x H1 => Q (.bl (decide (x = .non))) H1) : tIsN te σ H Q := h
theorem ev_tB {σ : L2.St} {te : TE} {B : Bool → Hp → Prop} (h : te σ H fun x H1 => ∃ c, x = .bl c ∧ B c H1) : tB te σ H B := h
theorem ev_and {σ : L2.St} {ta tb : TE} (h : ta σ H fun x H1 => ∃ c, x = .bl c ∧ if c = true then tb σ H1 Q else Q (.bl false) H1) : tAndV ta tb σ H Q := h
theorem ev_or {σ : L2.St} {ta tb : TE} (h : ta σ H fun x H1 => ∃ c, x = .bl c ∧ if c = true then Q (.bl true) H1 else tb σ H1 Q) : tOrV ta tb σ H Q := h
theorem ev_not {σ : L2.St} {ta : TE} (h : ta σ H fun x H1 => ∃ c, x = .bl c ∧ Q (.bl (!c)) H1) : tNotV ta σ H Q := h
def tTru (K : PySem.W.Frag) (ta : TE) : TT := fun σ H Q => ta σ H fun x H' => ∃ k, TruV K x H' k ∧ Q k H'
theorem c_tru {σ : L2.St} {te : TE} {B : Bool → Hp → Prop} (h : te σ H fun x H' => ∃ k, TruV K x H' k ∧ B k H') : tTru K te σ H B := h
theorem tru_bl {b : Bool} {B : Bool → Prop} (h : B b) : ∃ k, TruV K (.bl b) H k ∧ B k := ⟨b, rfl, h⟩
theorem if_dT {c : Prop} {dc : Decidable c} {A A' : Prop} (hc : c) (h : A) : if @decide c dc = true then A else A' := by rw [if_pos (decide_eq_true hc)]; exact h
theorem if_dF {c : Prop} {dc : Decidable c} {A A' : Prop} (hc : ¬ c) (h : A') : if @decide c dc = true then A else A' := by rw [if_neg (fun z => hc (of_decide_eq_true z))]; exact h
theorem eq_bb {b c : Bool} (h : Q (.bl (decide (b = c))) H) : aEq (.bl b) (.bl c) H Q := eq_sc rfl (by rw [dec_bl, Bool.beq_eq_decide_eq]; exact h)
theorem eq_ss {b c : Str} (h : Q (.bl (decide (b = c))) H) : aEq (.str b) (.str c) H Q := eq_sc rfl (by
  have e : decide (V.str b = V.str c) = decide (b = c) := decide_eq_decide.mpr ⟨fun z => V.str.inj z, fun z => by rw [z]⟩
  rw [e]; exact h)
theorem if_nt {A A' : Prop} (h : A') : if (!true) = true then A else A' := h
theorem if_nf {A A' : Prop} (h : A) : if (!false) = true then A else A' := h
theorem if_nd {c : Prop} {dc : Decidable c} {A A' : Prop} (h1 : c → A') (h2 : ¬ c → A) : if (!@decide c dc) = true then A else A' := by
  by_cases q : c
  · rw [decide_eq_true q]; exact h1 q
  · rw [decide_eq_false q]; exact h2 q
theorem len_ms (hs : Same H0 H) (hp : H0 p = some (.lst xs)) (h : Q (.int (xs.length : Nat)) H) : aLen K [.ref p] H Q := len_m (hs _ _ hp) h
theorem len_ts (hs : Same H0 H) (hp : H0 p = some (.tup xs)) (h : Q (.int (xs.length : Nat)) H) : aLen K [.ref p] H Q := len_t (SqT.of (hs _ _ hp)) h
end
inductive DT where
  | non
  | bl (b : Bool)
  | int (i : Int)
  | str (s : Str)
  | lst (xs : List DT)
  | tup (xs : List DT)
mutual
inductive Is (H : Hp) : V → DT → Prop where
  | non : Is H .non .non
  | bl (b : Bool) : Is H (.bl b) (.bl b)
  | int (i : Int) : Is H (.int i) (.int i)
  | str (s : Str) : Is H (.str s) (.str s)
  | lst {a : Addr} {vs : List V} {xs : List DT} : H a = some (.lst vs) → Iss H vs xs → vs.length ≤ 1000000 → Is H (.ref a) (.lst xs)
  | tup {a : Addr} {vs : List V} {xs : List DT} : H a = some (.tup vs) → Iss H vs xs → vs.length ≤ 1000000 → Is H (.ref a) (.tup xs)
inductive Iss (H : Hp) : List V → List DT → Prop where
  | nil : Iss H [] []
  | cons {v : V} {vs : List V} {x : DT} {xs : List DT} : Is H v x → Iss H vs xs → Iss H (v :: vs) (x :: xs)
end
mutual
def DT.dep : DT → Nat
  | .lst xs => depL xs + 1
  | .tup xs => depL xs + 1
  | _ => 0
def depL : List DT → Nat
  | [] => 0
  | x :: xs => max x.dep (depL xs)
end
theorem Iss.len {H : Hp} : ∀ {vs : List V} {xs : List DT}, Iss H vs xs → vs.length = xs.length
  | _, _, .nil => rfl
  | _, _, .cons _ t => congrArg (· + 1) (Iss.len t)
theorem Iss.at {H : Hp} : ∀ {vs : List V} {xs : List DT} {i : Nat}, Iss H vs xs → i < vs.length → ∃ v x, vs[i]? = some v ∧ xs[i]? = some x ∧ Is H v x
  | _, _, _, .nil, h => absurd h (Nat.not_lt_zero _)
  | _, _, 0, .cons a _, _ => ⟨_, _, rfl, rfl, a⟩
  | _, _, i + 1, .cons _ t, h => by
    obtain ⟨v, x, h1, h2, h3⟩ := Iss.at (i := i) t (Nat.lt_of_succ_lt_succ h)
    exact ⟨v, x, h1, h2, h3⟩
theorem depL_at : ∀ {xs : List DT} {i : Nat} {x : DT}, xs[i]? = some x → x.dep ≤ depL xs
  | [], _, _, h => by simp at h
  | y :: ys, 0, x, h => by
    have e : y = x := Option.some.inj h
    subst e
    exact Nat.le_max_left _ _
  | y :: ys, i + 1, x, h => Nat.le_trans (depL_at (xs := ys) (i := i) h) (Nat.le_max_right _ _)
mutual
theorem Is.mono {H H' : Hp} (s : Same H H') : ∀ {v : V} {d : DT}, Is H v d → Is H' v d
  | _, _, .non => .non
  | _, _, .bl b => .bl b
  | _, _, .int i => .int i
  | _, _, .str x => .str x
  | _, _, .lst h t l => .lst (s _ _ h) (Iss.mono s t) l
  | _, _, .tup h t l => .tup (s _ _ h) (Iss.mono s t) l
theorem Iss.mono {H H' : Hp} (s : Same H H') : ∀ {vs : List V} {ds : List DT}, Iss H vs ds → Iss H' vs ds
  | _, _, .nil => .nil
  | _, _, .cons a t => .cons (Is.mono s a) (Iss.mono s t)
end
/-- one and other, of depth less than n: True exactly if they are the same through and through -/
def sp_same : Nat → Sp
  | 0 => fun _ _ _ _ => False
  | n + 1 => fun vs H Q _ => ∃ (x y : V) (d e : DT), vs = [x, y] ∧ Is H x d ∧ Is H y e ∧ d.dep ≤ n ∧ ∀ (b : Bool) (H' : Hp), Same H H' → (b = true ↔ d = e) → Q (.bl b) H'
theorem l_same : ∀ n vs H Q E, sp_same n vs H Q E → vs.length = 2
  | 0, _, _, _, _, h => h.elim
  | n + 1, _, _, _, _, ⟨_, _, _, _, e, _⟩ => by rw [e]; rfl
def t_same (K : PySem.W.Frag) (n : Nat) : TS :=
  (tSeq (tIfS (tOr (tB (tIsN (tVar 0))) (tB (tIsN (tVar 1)))) (tRet (tAndV (tIsN (tVar 0)) (tIsN (tVar 1)))) tNext)
    (tSeq (tIfS (tOr (tTru K (tCB (aIsi K) (tCons (tVar 0) (tCons (tC (.ty "bool")) tNil)))) (tTru K (tCB (aIsi K) (tCons (tVar 1) (tCons (tC (.ty "bool")) tNil))))) (tRet (tAndV (tCB (aIsi K) (tCons (tVar 0) (tCons (tC (.ty "bool")) tNil))) (tAndV (tCB (aIsi K) (tCons (tVar 1) (tCons (tC (.ty "bool")) tNil))) (tOp aEq (tVar 0) (tVar 1))))) tNext)
    (tSeq (tIfS (tTru K (tCB (aIsi K) (tCons (tVar 0) (tCons (tC (.ty "int")) tNil)))) (tRet (tAndV (tCB (aIsi K) (tCons (tVar 1) (tCons (tC (.ty "int")) tNil))) (tOp aEq (tVar 0) (tVar 1)))) tNext)
    (tSeq (tIfS (tTru K (tCB (aIsi K) (tCons (tVar 0) (tCons (tC (.ty "str")) tNil)))) (tRet (tAndV (tCB (aIsi K) (tCons (tVar 1) (tCons (tC (.ty "str")) tNil))) (tOp aEq (tVar 0) (tVar 1)))) tNext)
    (tSeq (tIfS (tTru K (tCB (aIsi K) (tCons (tVar 0) (tCons (tC (.ty "dict")) tNil)))) tNever tNext)
    (tSeq (tIfS (tAnd (tTru K (tCB (aIsi K) (tCons (tVar 0) (tCons (tC (.ty "list")) tNil)))) (tNot (tTru K (tCB (aIsi K) (tCons (tVar 1) (tCons (tC (.ty "list")) tNil)))))) (tRet (tC (.bl false))) tNext)
    (tSeq (tIfS (tAnd (tTru K (tCB (aIsi K) (tCons (tVar 0) (tCons (tC (.ty "tuple")) tNil)))) (tNot (tTru K (tCB (aIsi K) (tCons (tVar 1) (tCons (tC (.ty "tuple")) tNil)))))) (tRet (tC (.bl false))) tNext)
    (tSeq (tIfS (tOr (tNot (tTru K (tCB (aIsi K) (tCons (tVar 0) (tCons (tTup (tCons (tC (.ty "list")) (tCons (tC (.ty "tuple")) tNil))) tNil))))) (tTest (tOp aNe (tCB (aLen K) (tCons (tVar 0) tNil)) (tCB (aLen K) (tCons (tVar 1) tNil))))) (tRet (tC (.bl false))) tNext)
    (tSeq (tFor (iRng1 (tCons (tCB (aLen K) (tCons (tVar 0) tNil)) tNil)) (gName 2) (tIfS (tNot (tTru K (tCall (sp_same n) [] E0 (tCons (tOp (aIx K) (tVar 0) (tVar 2)) (tCons (tOp (aIx K) (tVar 1) (tVar 2)) tNil))))) (tRet (tC (.bl false))) tNext))
    (tRet (tC (.bl true))))))))))))
local macro_rules | `(tactic| walk_at "nw") => `(tactic| first
  | with_reducible refine s_seq ?_
  | with_reducible refine s_asg ?_
  | with_reducible refine s_if ?_
  | with_reducible refine s_ret ?_
  | with_reducible refine s_drop ?_
  | with_reducible refine v_var0 ?_
  | with_reducible refine s_name0 ?_
  | with_reducible refine v_aug0 ?_
  | with_reducible refine v_var1 ?_
  | with_reducible refine s_name1 ?_
  | with_reducible refine v_aug1 ?_
  | with_reducible refine v_var2 ?_
  | with_reducible refine s_name2 ?_
  | with_reducible refine v_aug2 ?_
  | with_reducible refine v_var3 ?_
  | with_reducible refine s_name3 ?_
  | with_reducible refine v_aug3 ?_
  | with_reducible refine v_var4 ?_
  | with_reducible refine s_name4 ?_
  | with_reducible refine v_aug4 ?_
  | with_reducible refine v_var5 ?_
  | with_reducible refine s_name5 ?_
  | with_reducible refine v_aug5 ?_
  | with_reducible refine v_var6 ?_
  | with_reducible refine s_name6 ?_
  | with_reducible refine v_aug6 ?_
  | with_reducible refine v_var7 ?_
  | with_reducible refine s_name7 ?_
  | with_reducible refine v_aug7 ?_
  | with_reducible refine v_var8 ?_
  | with_reducible refine s_name8 ?_
  | with_reducible refine v_aug8 ?_
  | with_reducible refine v_var9 ?_
  | with_reducible refine s_name9 ?_
  | with_reducible refine v_aug9 ?_
  | with_reducible refine v_var10 ?_
  | with_reducible refine s_name10 ?_
  | with_reducible refine v_aug10 ?_
  | with_reducible refine v_var11 ?_
  | with_reducible refine s_name11 ?_
  | with_reducible refine v_aug11 ?_
  | with_reducible refine v_var12 ?_
  | with_reducible refine s_name12 ?_
  | with_reducible refine v_aug12 ?_
  | with_reducible refine v_var13 ?_
  | with_reducible refine s_name13 ?_
  | with_reducible refine v_aug13 ?_
  | with_reducible refine v_var14 ?_
  | with_reducible refine s_name14 ?_
  | with_reducible refine v_aug14 ?_
  | with_reducible refine v_var15 ?_
  | with_reducible refine s_name15 ?_
  | with_reducible refine v_aug15 ?_
  | with_reducible refine v_c ?_
  | with_reducible refine v_op ?_
  | with_reducible refine v_cons ?_
  | with_reducible refine v_nil ?_
  | with_reducible refine v_cb ?_
  | with_reducible refine v_call ?_
  | with_reducible refine c_test ?_
  | with_reducible refine c_bl ?_
  | with_reducible refine c_and ?_
  | with_reducible refine c_or ?_
  | with_reducible refine c_not ?_
  | with_reducible refine v_augS ?_
  | with_reducible refine v_sub ?_
  | with_reducible refine add_ii ?_
  | with_reducible refine sub_ii ?_
  | with_reducible refine iadd_ii ?_
  | with_reducible refine lt_ii ?_
  | with_reducible refine le_ii ?_
  | with_reducible refine gt_ii ?_
  | with_reducible refine ge_ii ?_
  | with_reducible refine eq_ii ?_
  | with_reducible refine ne_ii ?_
  | with_reducible refine int_i ?_
  | with_reducible refine abs_i ?_
  | with_reducible refine max_i ?_
  | with_reducible refine min_i ?_
  | with_reducible refine mul_r (by omega) (by omega) ?_
  | with_reducible refine mul_l (by omega) (by omega) ?_
  | with_reducible refine ix_m0 (by assumption) ?_
  | with_reducible refine get_m0 (by assumption) ?_
  | with_reducible refine ix_m1 (by assumption) ?_
  | with_reducible refine get_m1 (by assumption) ?_
  | with_reducible refine ix_m2 (by assumption) ?_
  | with_reducible refine get_m2 (by assumption) ?_
  | with_reducible refine ix_m3 (by assumption) ?_
  | with_reducible refine get_m3 (by assumption) ?_
  | with_reducible refine ix_m4 (by assumption) ?_
  | with_reducible refine get_m4 (by assumption) ?_
  | with_reducible refine ix_m5 (by assumption) ?_
  | with_reducible refine get_m5 (by assumption) ?_
  | (with_reducible refine st_set1 (by assumption) (by assumption) ?_; intro H1 hs1 kp1)
  | (with_reducible refine st_set2 (by assumption) (by assumption) ?_; intro H1 hs1 kp1)
  | (with_reducible refine st_set3 (by assumption) (by assumption) ?_; intro H1 hs1 kp1)
  | (with_reducible refine st_set4 (by assumption) (by assumption) ?_; intro H1 hs1 kp1)
  | (with_reducible refine st_set5 (by assumption) (by assumption) ?_; intro H1 hs1 kp1)
  | with_reducible refine len_m (by assumption) ?_
  | with_reducible refine s_for1 ?_
  | with_reducible refine s_forL ?_
  | with_reducible refine rng1 (by omega) (by omega) ?_
  | with_reducible refine s_next ?_
  | with_reducible refine s_break ?_
  | with_reducible refine s_cont ?_
  | with_reducible refine isi_non_bool ?_
  | with_reducible refine isi_non_int ?_
  | with_reducible refine isi_non_str ?_
  | with_reducible refine isi_non_list ?_
  | with_reducible refine isi_non_tuple ?_
  | with_reducible refine isi_non_dict ?_
  | with_reducible refine isi_non_seq (by assumption) ?_
  | with_reducible refine isi_bl_bool ?_
  | with_reducible refine isi_bl_int ?_
  | with_reducible refine isi_bl_str ?_
  | with_reducible refine isi_bl_list ?_
  | with_reducible refine isi_bl_tuple ?_
  | with_reducible refine isi_bl_dict ?_
  | with_reducible refine isi_bl_seq (by assumption) ?_
  | with_reducible refine isi_int_bool ?_
  | with_reducible refine isi_int_int ?_
  | with_reducible refine isi_int_str ?_
  | with_reducible refine isi_int_list ?_
  | with_reducible refine isi_int_tuple ?_
  | with_reducible refine isi_int_dict ?_
  | with_reducible refine isi_int_seq (by assumption) ?_
  | with_reducible refine isi_str_bool ?_
  | with_reducible refine isi_str_int ?_
  | with_reducible refine isi_str_str ?_
  | with_reducible refine isi_str_list ?_
  | with_reducible refine isi_str_tuple ?_
  | with_reducible refine isi_str_dict ?_
  | with_reducible refine isi_str_seq (by assumption) ?_
  | with_reducible refine isi_lst_bool (by assumption) (by assumption) ?_
  | with_reducible refine isi_lst_int (by assumption) (by assumption) ?_
  | with_reducible refine isi_lst_str (by assumption) (by assumption) ?_
  | with_reducible refine isi_lst_list (by assumption) (by assumption) ?_
  | with_reducible refine isi_lst_tuple (by assumption) (by assumption) ?_
  | with_reducible refine isi_lst_dict (by assumption) (by assumption) ?_
  | with_reducible refine isi_lst_seq (by assumption) (by assumption) (by assumption) ?_
  | with_reducible refine isi_tup_bool (by assumption) (by assumption) ?_
  | with_reducible refine isi_tup_int (by assumption) (by assumption) ?_
  | with_reducible refine isi_tup_str (by assumption) (by assumption) ?_
  | with_reducible refine isi_tup_list (by assumption) (by assumption) ?_
  | with_reducible refine isi_tup_tuple (by assumption) (by assumption) ?_
  | with_reducible refine isi_tup_dict (by assumption) (by assumption) ?_
  | with_reducible refine isi_tup_seq (by assumption) (by assumption) (by assumption) ?_
  | with_reducible refine isi_dK_bool (by assumption) (by assumption) ?_
  | with_reducible refine isi_dK_int (by assumption) (by assumption) ?_
  | with_reducible refine isi_dK_str (by assumption) (by assumption) ?_
  | with_reducible refine isi_dK_list (by assumption) (by assumption) ?_
  | with_reducible refine isi_dK_tuple (by assumption) (by assumption) ?_
  | with_reducible refine isi_dK_dict (by assumption) (by assumption) ?_
  | with_reducible refine isi_dK_seq (by assumption) (by assumption) (by assumption) ?_
  | with_reducible refine eq_bb ?_
  | with_reducible refine eq_ss ?_
  | with_reducible refine ev_isN ?_
  | with_reducible refine ev_tB ?_
  | with_reducible refine ev_and ?_
  | with_reducible refine ev_or ?_
  | with_reducible refine ev_not ?_
  | with_reducible refine c_tru ?_
  | with_reducible refine tru_bl ?_
  | with_reducible refine if_nt ?_
  | with_reducible refine if_nf ?_
  | with_reducible refine tup_new ?_
  | with_reducible refine lst_new ?_
  | with_reducible refine len_ms (by assumption) (by assumption) ?_
  | with_reducible refine len_ts (by assumption) (by assumption) ?_
  | ((with_reducible refine lit_len ?_ ?_); (focus (first | decide | (simp; done) | (simp; omega))))
  | (with_reducible refine new_same (by assumption) ?_; intro q1 H1 hq1 he1 sm1 hs1)
  | with_reducible refine if_dT rfl ?_
  | ((with_reducible refine if_dF ?_ ?_); focus (intro z; cases z; done))
  | with_reducible refine if_t ?_
  | with_reducible refine if_f ?_)
set_option maxHeartbeats 8000000 in
theorem p_same (K : PySem.W.Frag) (n : Nat) (vs : List V) (H : Hp) (Q : VK) (E : XK) (h : sp_same (n + 1) vs H Q E) : t_same K n { nx := fun _ H' => Q .non H', rt := Q } (start ["one", "other", "k"] vs) H := by
  obtain ⟨x, y, d, e, ev, hx, hy, hd, q⟩ := h
  subst ev
  show t_same K n _ [some x, some y, none] H
  have hs := Same.refl H
  unfold t_same
  cases hx with
  | @lst a vs xs h1 h2 hl =>
    cases hy with
    | @lst a' vs' xs' g1 g2 gl =>
      obtain ⟨m, rfl⟩ : ∃ m, n = m + 1 := by
        simp only [DT.dep] at hd
        exact ⟨n - 1, by omega⟩
      simp only [DT.dep] at hd
      have el := Iss.len h2
      have el' := Iss.len g2
      repeat walk_at "nw"
      refine if_nd (fun c => ?_) (fun c => ?_)
      · repeat walk_at "nw"
        refine loop_rng (fun i σ' H' => ∃ kk : Option V, σ' = [some (.ref a), some (.ref a'), kk] ∧ Same H H' ∧ ∀ j, j < i → xs[j]? = xs'[j]?) ⟨none, rfl, by assumption, fun j z => absurd z (Nat.not_lt_zero _)⟩ ?_ ?_
        · rintro i σ' H' hi ⟨kk, rfl, hs', hj⟩
          have hi' : i < vs.length := by omega
          obtain ⟨v, x, hv, hx, isx⟩ := Iss.at h2 hi'
          obtain ⟨v', x', hv', hx', isx'⟩ := Iss.at g2 (show i < vs'.length by omega)
          have dx := depL_at hx
          repeat walk_at "nw"
          refine ix_l (SqL.of (hs' _ _ h1)) (atI_nat hv) ?_
          repeat walk_at "nw"
          refine ix_l (SqL.of (hs' _ _ g1)) (atI_nat hv') ?_
          repeat walk_at "nw"
          refine ⟨v, v', x, x', rfl, isx.mono hs', isx'.mono hs', by omega, fun b H2 hs2 e => ?_⟩
          repeat walk_at "nw"
          cases b with
          | false =>
            repeat walk_at "nw"
            refine q false H2 (hs'.trans hs2) ⟨fun z => absurd z Bool.false_ne_true, fun z => ?_⟩
            injection z with z
            rw [z, hx'] at hx
            exact e.mpr (Option.some.inj hx).symm
          | true =>
            repeat walk_at "nw"
            refine ⟨_, rfl, hs'.trans hs2, fun j hlt => ?_⟩
            by_cases ej : j = i
            · rw [ej, hx, hx', e.mp rfl]
            · exact hj j (by omega)
        · rintro σ' H' ⟨kk, rfl, hs', hj⟩
          repeat walk_at "nw"
          refine q true H' hs' ⟨fun _ => ?_, fun _ => rfl⟩
          have z : xs = xs' := List.ext_getElem? fun j => by
            by_cases hlt : j < vs.length
            · exact hj j (by omega)
            · rw [List.getElem?_eq_none (by omega), List.getElem?_eq_none (by omega)]
          rw [z]
      · repeat walk_at "nw"
        refine q false _ (by assumption) ⟨fun z => absurd z Bool.false_ne_true, fun z => ?_⟩
        injection z with z
        rw [z] at el
        exact absurd (by rw [el, el']) c
    | _ =>
      repeat walk_at "nw"
      refine q _ _ ?_ ?_ <;> first | assumption | simp
  | @tup a vs xs h1 h2 hl =>
    cases hy with
    | @tup a' vs' xs' g1 g2 gl =>
      obtain ⟨m, rfl⟩ : ∃ m, n = m + 1 := by
        simp only [DT.dep] at hd
        exact ⟨n - 1, by omega⟩
      simp only [DT.dep] at hd
      have el := Iss.len h2
      have el' := Iss.len g2
      repeat walk_at "nw"
      refine if_nd (fun c => ?_) (fun c => ?_)
      · repeat walk_at "nw"
        refine loop_rng (fun i σ' H' => ∃ kk : Option V, σ' = [some (.ref a), some (.ref a'), kk] ∧ Same H H' ∧ ∀ j, j < i → xs[j]? = xs'[j]?) ⟨none, rfl, by assumption, fun j z => absurd z (Nat.not_lt_zero _)⟩ ?_ ?_
        · rintro i σ' H' hi ⟨kk, rfl, hs', hj⟩
          have hi' : i < vs.length := by omega
          obtain ⟨v, x, hv, hx, isx⟩ := Iss.at h2 hi'
          obtain ⟨v', x', hv', hx', isx'⟩ := Iss.at g2 (show i < vs'.length by omega)
          have dx := depL_at hx
          repeat walk_at "nw"
          refine ix_t (SqT.of (hs' _ _ h1)) (atI_nat hv) ?_
          repeat walk_at "nw"
          refine ix_t (SqT.of (hs' _ _ g1)) (atI_nat hv') ?_
          repeat walk_at "nw"
          refine ⟨v, v', x, x', rfl, isx.mono hs', isx'.mono hs', by omega, fun b H2 hs2 e => ?_⟩
          repeat walk_at "nw"
          cases b with
          | false =>
            repeat walk_at "nw"
            refine q false H2 (hs'.trans hs2) ⟨fun z => absurd z Bool.false_ne_true, fun z => ?_⟩
            injection z with z
            rw [z, hx'] at hx
            exact e.mpr (Option.some.inj hx).symm
          | true =>
            repeat walk_at "nw"
            refine ⟨_, rfl, hs'.trans hs2, fun j hlt => ?_⟩
            by_cases ej : j = i
            · rw [ej, hx, hx', e.mp rfl]
            · exact hj j (by omega)
        · rintro σ' H' ⟨kk, rfl, hs', hj⟩
          repeat walk_at "nw"
          refine q true H' hs' ⟨fun _ => ?_, fun _ => rfl⟩
          have z : xs = xs' := List.ext_getElem? fun j => by
            by_cases hlt : j < vs.length
            · exact hj j (by omega)
            · rw [List.getElem?_eq_none (by omega), List.getElem?_eq_none (by omega)]
          rw [z]
      · repeat walk_at "nw"
        refine q false _ (by assumption) ⟨fun z => absurd z Bool.false_ne_true, fun z => ?_⟩
        injection z with z
        rw [z] at el
        exact absurd (by rw [el, el']) c
    | _ =>
      repeat walk_at "nw"
      refine q _ _ ?_ ?_ <;> first | assumption | simp
  | _ =>
    cases hy with
    | _ =>
      repeat walk_at "nw"
      refine q _ _ ?_ ?_ <;> first | assumption | simp
end NW
namespace NW
open PySem PySem.Spec PyProof.Rows L2
open C8 (tCut pss_cut)
theorem c_take {H H0 : Hp} {Q : VK} {E : XK} {st : Addr} {many : Int} (hs : Sto H st) (kp : Keep st H0 H) (hm : many < 2 ^ 300) (h : ∀ (r : Int) (H' : Hp), Sto H' st → Keep st H0 H' → 0 ≤ r → (r < many ∨ r = 0) → Q (.int r) H') : sp_take [.ref st, .int many] H Q E :=
  ⟨st, many, rfl, hs, hm, fun r H' s k h0 h1 => h r H' s (kp.trans k) h0 h1⟩
theorem Sto.mono {H H' : Hp} {st : Addr} (s : Same H H') (h : Sto H st) : Sto H' st := by
  obtain ⟨cl, ns, a, b, c, d, e, h1, h2, h3⟩ := h
  exact ⟨cl, ns, a, b, c, d, e, s _ _ h1, s _ _ h2, h3⟩
theorem Sto.ne {H : Hp} {st q : Addr} (h : Sto H st) (hq : H q = none) : q ≠ st := by
  obtain ⟨cl, ns, a, b, c, d, e, h1, h2, h3⟩ := h
  exact Ne.symm (ne_of_none h1 hq)
theorem same_new {H : Hp} {q : Addr} {o : HO} (hq : H q = none) : Same H (upd H q o) := fun b o e => by
  rw [upd_ne (ne_of_none e hq)]
  exact e
theorem new_st {H H0 : Hp} {Q : VK} {o : HO} {st : Addr} (hS : Sto H st) (hs : Keep st H0 H) (h : ∀ q H1, H q = none → H1 q = some o → q ≠ st → Keep st H0 H1 → Sto H1 st → Same H H1 → Q (.ref q) H1) : NewR o H Q :=
  fun q hq => h q _ hq upd_same (hS.ne hq) (hs.new hq) (hS.mono (same_new hq)) (same_new hq)
theorem ev_chain {σ : L2.St} {H : Hp} {Q : VK} {r r' : R2} {ta tb tc : TE} (h : ta σ H fun x H1 => tb σ H1 fun y H2 => r x y H2 fun z H3 => ∃ k, z = .bl k ∧ if k = true then tc σ H3 fun z' H4 => r' y z' H4 Q else Q (.bl false) H3) : tChain r r' ta tb tc σ H Q := h
/-- a number from low to high; low if high is less -/
def sp_number : Sp := fun vs H Q _ => ∃ (st : Addr) (lo hi : Int), vs = [.ref st, .int lo, .int hi] ∧ Sto H st ∧ hi - lo + 1 < 2 ^ 300 ∧ ∀ (r : Int) (H' : Hp), Sto H' st → Keep st H H' → lo ≤ r → (r ≤ hi ∨ r = lo) → Q (.int r) H'
theorem l_number : ∀ vs H Q E, sp_number vs H Q E → vs.length = 3 := fun _ _ _ _ h => by
  obtain ⟨_, _, _, e, _⟩ := h
  rw [e]; rfl
local macro_rules | `(tactic| walk_at "nw") => `(tactic| first
  | with_reducible refine s_seq ?_
  | with_reducible refine s_asg ?_
  | with_reducible refine s_if ?_
  | with_reducible refine s_ret ?_
  | with_reducible refine s_drop ?_
  | with_reducible refine v_var0 ?_
  | with_reducible refine s_name0 ?_
  | with_reducible refine v_aug0 ?_
  | with_reducible refine v_var1 ?_
  | with_reducible refine s_name1 ?_
  | with_reducible refine v_aug1 ?_
  | with_reducible refine v_var2 ?_
  | with_reducible refine s_name2 ?_
  | with_reducible refine v_aug2 ?_
  | with_reducible refine v_var3 ?_
  | with_reducible refine s_name3 ?_
  | with_reducible refine v_aug3 ?_
  | with_reducible refine v_var4 ?_
  | with_reducible refine s_name4 ?_
  | with_reducible refine v_aug4 ?_
  | with_reducible refine v_var5 ?_
  | with_reducible refine s_name5 ?_
  | with_reducible refine v_aug5 ?_
  | with_reducible refine v_var6 ?_
  | with_reducible refine s_name6 ?_
  | with_reducible refine v_aug6 ?_
  | with_reducible refine v_var7 ?_
  | with_reducible refine s_name7 ?_
  | with_reducible refine v_aug7 ?_
  | with_reducible refine v_var8 ?_
  | with_reducible refine s_name8 ?_
  | with_reducible refine v_aug8 ?_
  | with_reducible refine v_var9 ?_
  | with_reducible refine s_name9 ?_
  | with_reducible refine v_aug9 ?_
  | with_reducible refine v_var10 ?_
  | with_reducible refine s_name10 ?_
  | with_reducible refine v_aug10 ?_
  | with_reducible refine v_var11 ?_
  | with_reducible refine s_name11 ?_
  | with_reducible refine v_aug11 ?_
  | with_reducible refine v_var12 ?_
  | with_reducible refine s_name12 ?_
  | with_reducible refine v_aug12 ?_
  | with_reducible refine v_var13 ?_
  | with_reducible refine s_name13 ?_
  | with_reducible refine v_aug13 ?_
  | with_reducible refine v_var14 ?_
  | with_reducible refine s_name14 ?_
  | with_reducible refine v_aug14 ?_
  | with_reducible refine v_var15 ?_
  | with_reducible refine s_name15 ?_
  | with_reducible refine v_aug15 ?_
  | with_reducible refine v_c ?_
  | with_reducible refine v_op ?_
  | with_reducible refine v_cons ?_
  | with_reducible refine v_nil ?_
  | with_reducible refine v_cb ?_
  | with_reducible refine v_call ?_
  | with_reducible refine c_test ?_
  | with_reducible refine c_bl ?_
  | with_reducible refine c_and ?_
  | with_reducible refine c_or ?_
  | with_reducible refine c_not ?_
  | with_reducible refine v_augS ?_
  | with_reducible refine v_sub ?_
  | with_reducible refine add_ii ?_
  | with_reducible refine sub_ii ?_
  | with_reducible refine iadd_ii ?_
  | with_reducible refine lt_ii ?_
  | with_reducible refine le_ii ?_
  | with_reducible refine gt_ii ?_
  | with_reducible refine ge_ii ?_
  | with_reducible refine eq_ii ?_
  | with_reducible refine ne_ii ?_
  | with_reducible refine int_i ?_
  | with_reducible refine abs_i ?_
  | with_reducible refine max_i ?_
  | with_reducible refine min_i ?_
  | with_reducible refine mul_r (by omega) (by omega) ?_
  | with_reducible refine mul_l (by omega) (by omega) ?_
  | with_reducible refine ix_m0 (by assumption) ?_
  | with_reducible refine get_m0 (by assumption) ?_
  | with_reducible refine ix_m1 (by assumption) ?_
  | with_reducible refine get_m1 (by assumption) ?_
  | with_reducible refine ix_m2 (by assumption) ?_
  | with_reducible refine get_m2 (by assumption) ?_
  | with_reducible refine ix_m3 (by assumption) ?_
  | with_reducible refine get_m3 (by assumption) ?_
  | with_reducible refine ix_m4 (by assumption) ?_
  | with_reducible refine get_m4 (by assumption) ?_
  | with_reducible refine ix_m5 (by assumption) ?_
  | with_reducible refine get_m5 (by assumption) ?_
  | (with_reducible refine st_set1 (by assumption) (by assumption) ?_; intro H1 hs1 kp1)
  | (with_reducible refine st_set2 (by assumption) (by assumption) ?_; intro H1 hs1 kp1)
  | (with_reducible refine st_set3 (by assumption) (by assumption) ?_; intro H1 hs1 kp1)
  | (with_reducible refine st_set4 (by assumption) (by assumption) ?_; intro H1 hs1 kp1)
  | (with_reducible refine st_set5 (by assumption) (by assumption) ?_; intro H1 hs1 kp1)
  | with_reducible refine len_m (by assumption) ?_
  | with_reducible refine s_for1 ?_
  | with_reducible refine s_forL ?_
  | with_reducible refine rng1 (by omega) (by omega) ?_
  | with_reducible refine s_next ?_
  | with_reducible refine s_break ?_
  | with_reducible refine s_cont ?_
  | with_reducible refine isi_non_bool ?_
  | with_reducible refine isi_non_int ?_
  | with_reducible refine isi_non_str ?_
  | with_reducible refine isi_non_list ?_
  | with_reducible refine isi_non_tuple ?_
  | with_reducible refine isi_non_dict ?_
  | with_reducible refine isi_non_seq (by assumption) ?_
  | with_reducible refine isi_bl_bool ?_
  | with_reducible refine isi_bl_int ?_
  | with_reducible refine isi_bl_str ?_
  | with_reducible refine isi_bl_list ?_
  | with_reducible refine isi_bl_tuple ?_
  | with_reducible refine isi_bl_dict ?_
  | with_reducible refine isi_bl_seq (by assumption) ?_
  | with_reducible refine isi_int_bool ?_
  | with_reducible refine isi_int_int ?_
  | with_reducible refine isi_int_str ?_
  | with_reducible refine isi_int_list ?_
  | with_reducible refine isi_int_tuple ?_
  | with_reducible refine isi_int_dict ?_
  | with_reducible refine isi_int_seq (by assumption) ?_
  | with_reducible refine isi_str_bool ?_
  | with_reducible refine isi_str_int ?_
  | with_reducible refine isi_str_str ?_
  | with_reducible refine isi_str_list ?_
  | with_reducible refine isi_str_tuple ?_
  | with_reducible refine isi_str_dict ?_
  | with_reducible refine isi_str_seq (by assumption) ?_
  | with_reducible refine isi_lst_bool (by assumption) (by assumption) ?_
  | with_reducible refine isi_lst_int (by assumption) (by assumption) ?_
  | with_reducible refine isi_lst_str (by assumption) (by assumption) ?_
  | with_reducible refine isi_lst_list (by assumption) (by assumption) ?_
  | with_reducible refine isi_lst_tuple (by assumption) (by assumption) ?_
  | with_reducible refine isi_lst_dict (by assumption) (by assumption) ?_
  | with_reducible refine isi_lst_seq (by assumption) (by assumption) (by assumption) ?_
  | with_reducible refine isi_tup_bool (by assumption) (by assumption) ?_
  | with_reducible refine isi_tup_int (by assumption) (by assumption) ?_
  | with_reducible refine isi_tup_str (by assumption) (by assumption) ?_
  | with_reducible refine isi_tup_list (by assumption) (by assumption) ?_
  | with_reducible refine isi_tup_tuple (by assumption) (by assumption) ?_
  | with_reducible refine isi_tup_dict (by assumption) (by assumption) ?_
  | with_reducible refine isi_tup_seq (by assumption) (by assumption) (by assumption) ?_
  | with_reducible refine isi_dK_bool (by assumption) (by assumption) ?_
  | with_reducible refine isi_dK_int (by assumption) (by assumption) ?_
  | with_reducible refine isi_dK_str (by assumption) (by assumption) ?_
  | with_reducible refine isi_dK_list (by assumption) (by assumption) ?_
  | with_reducible refine isi_dK_tuple (by assumption) (by assumption) ?_
  | with_reducible refine isi_dK_dict (by assumption) (by assumption) ?_
  | with_reducible refine isi_dK_seq (by assumption) (by assumption) (by assumption) ?_
  | with_reducible refine eq_bb ?_
  | with_reducible refine eq_ss ?_
  | with_reducible refine ev_isN ?_
  | with_reducible refine ev_tB ?_
  | with_reducible refine ev_and ?_
  | with_reducible refine ev_or ?_
  | with_reducible refine ev_not ?_
  | with_reducible refine c_tru ?_
  | with_reducible refine tru_bl ?_
  | with_reducible refine if_nt ?_
  | with_reducible refine if_nf ?_
  | with_reducible refine tup_new ?_
  | with_reducible refine lst_new ?_
  | with_reducible refine len_ms (by assumption) (by assumption) ?_
  | with_reducible refine len_ts (by assumption) (by assumption) ?_
  | ((with_reducible refine lit_len ?_ ?_); (focus (first | decide | (simp; done) | (simp; omega))))
  | (with_reducible refine new_same (by assumption) ?_; intro q1 H1 hq1 he1 sm1 hs1)
  | with_reducible refine if_dT rfl ?_
  | ((with_reducible refine if_dF ?_ ?_); focus (intro z; cases z; done))
  | with_reducible refine if_t ?_
  | with_reducible refine if_f ?_
  | ((with_reducible refine c_take (by assumption) (by assumption) ?_ ?_); (focus omega); intro r1 H1 hS1 kp1 h01 h11))
local macro_rules | `(tactic| walk_at "go") => `(tactic| repeat' (first | walk_at "nw" | ((with_reducible refine if_d ?_ ?_) <;> intro c1) | ((with_reducible refine if_nd ?_ ?_) <;> intro c1)))
theorem c_number {H H0 : Hp} {Q : VK} {E : XK} {st : Addr} {lo hi : Int} (hs : Sto H st) (kp : Keep st H0 H) (hm : hi - lo + 1 < 2 ^ 300) (h : ∀ (r : Int) (H' : Hp), Sto H' st → Keep st H0 H' → lo ≤ r → (r ≤ hi ∨ r = lo) → Q (.int r) H') : sp_number [.ref st, .int lo, .int hi] H Q E :=
  ⟨st, lo, hi, rfl, hs, hm, fun r H' s k h0 h1 => h r H' s (kp.trans k) h0 h1⟩
/-- an item of a row -/
def sp_pick : Sp := fun vs H Q _ => ∃ (st row : Addr), vs = [.ref st, .ref row] ∧ Sto H st ∧ ∃ (xs : List V), H row = some (.lst xs) ∧ row ≠ st ∧ 0 < xs.length ∧ xs.length ≤ 1000000 ∧ ∀ (v : V) (H' : Hp), Sto H' st → Keep st H H' → v ∈ xs → Q v H'
theorem l_pick : ∀ vs H Q E, sp_pick vs H Q E → vs.length = 2 := fun _ _ _ _ h => by
  obtain ⟨_, _, e, _⟩ := h
  rw [e]; rfl
theorem c_pick {H H0 : Hp} {Q : VK} {E : XK} {st row : Addr} {xs : List V} (hs : Sto H st) (kp : Keep st H0 H) (hr : H row = some (.lst xs)) (hne : row ≠ st) (hn : 0 < xs.length ∧ xs.length ≤ 1000000) (h : ∀ (v : V) (H' : Hp), Sto H' st → Keep st H0 H' → Keep st H H' → v ∈ xs → Q v H') : sp_pick [.ref st, .ref row] H Q E :=
  ⟨st, row, rfl, hs, xs, hr, hne, hn.1, hn.2, fun v H' s k hv => h v H' s (kp.trans k) k hv⟩
local macro_rules | `(tactic| walk_at "nw") => `(tactic| first
  | with_reducible refine s_seq ?_
  | with_reducible refine s_asg ?_
  | with_reducible refine s_if ?_
  | with_reducible refine s_ret ?_
  | with_reducible refine s_drop ?_
  | with_reducible refine v_var0 ?_
  | with_reducible refine s_name0 ?_
  | with_reducible refine v_aug0 ?_
  | with_reducible refine v_var1 ?_
  | with_reducible refine s_name1 ?_
  | with_reducible refine v_aug1 ?_
  | with_reducible refine v_var2 ?_
  | with_reducible refine s_name2 ?_
  | with_reducible refine v_aug2 ?_
  | with_reducible refine v_var3 ?_
  | with_reducible refine s_name3 ?_
  | with_reducible refine v_aug3 ?_
  | with_reducible refine v_var4 ?_
  | with_reducible refine s_name4 ?_
  | with_reducible refine v_aug4 ?_
  | with_reducible refine v_var5 ?_
  | with_reducible refine s_name5 ?_
  | with_reducible refine v_aug5 ?_
  | with_reducible refine v_var6 ?_
  | with_reducible refine s_name6 ?_
  | with_reducible refine v_aug6 ?_
  | with_reducible refine v_var7 ?_
  | with_reducible refine s_name7 ?_
  | with_reducible refine v_aug7 ?_
  | with_reducible refine v_var8 ?_
  | with_reducible refine s_name8 ?_
  | with_reducible refine v_aug8 ?_
  | with_reducible refine v_var9 ?_
  | with_reducible refine s_name9 ?_
  | with_reducible refine v_aug9 ?_
  | with_reducible refine v_var10 ?_
  | with_reducible refine s_name10 ?_
  | with_reducible refine v_aug10 ?_
  | with_reducible refine v_var11 ?_
  | with_reducible refine s_name11 ?_
  | with_reducible refine v_aug11 ?_
  | with_reducible refine v_var12 ?_
  | with_reducible refine s_name12 ?_
  | with_reducible refine v_aug12 ?_
  | with_reducible refine v_var13 ?_
  | with_reducible refine s_name13 ?_
  | with_reducible refine v_aug13 ?_
  | with_reducible refine v_var14 ?_
  | with_reducible refine s_name14 ?_
  | with_reducible refine v_aug14 ?_
  | with_reducible refine v_var15 ?_
  | with_reducible refine s_name15 ?_
  | with_reducible refine v_aug15 ?_
  | with_reducible refine v_c ?_
  | with_reducible refine v_op ?_
  | with_reducible refine v_cons ?_
  | with_reducible refine v_nil ?_
  | with_reducible refine v_cb ?_
  | with_reducible refine v_call ?_
  | with_reducible refine c_test ?_
  | with_reducible refine c_bl ?_
  | with_reducible refine c_and ?_
  | with_reducible refine c_or ?_
  | with_reducible refine c_not ?_
  | with_reducible refine v_augS ?_
  | with_reducible refine v_sub ?_
  | with_reducible refine add_ii ?_
  | with_reducible refine sub_ii ?_
  | with_reducible refine iadd_ii ?_
  | with_reducible refine lt_ii ?_
  | with_reducible refine le_ii ?_
  | with_reducible refine gt_ii ?_
  | with_reducible refine ge_ii ?_
  | with_reducible refine eq_ii ?_
  | with_reducible refine ne_ii ?_
  | with_reducible refine int_i ?_
  | with_reducible refine abs_i ?_
  | with_reducible refine max_i ?_
  | with_reducible refine min_i ?_
  | with_reducible refine mul_r (by omega) (by omega) ?_
  | with_reducible refine mul_l (by omega) (by omega) ?_
  | with_reducible refine ix_m0 (by assumption) ?_
  | with_reducible refine get_m0 (by assumption) ?_
  | with_reducible refine ix_m1 (by assumption) ?_
  | with_reducible refine get_m1 (by assumption) ?_
  | with_reducible refine ix_m2 (by assumption) ?_
  | with_reducible refine get_m2 (by assumption) ?_
  | with_reducible refine ix_m3 (by assumption) ?_
  | with_reducible refine get_m3 (by assumption) ?_
  | with_reducible refine ix_m4 (by assumption) ?_
  | with_reducible refine get_m4 (by assumption) ?_
  | with_reducible refine ix_m5 (by assumption) ?_
  | with_reducible refine get_m5 (by assumption) ?_
  | (with_reducible refine st_set1 (by assumption) (by assumption) ?_; intro H1 hs1 kp1)
  | (with_reducible refine st_set2 (by assumption) (by assumption) ?_; intro H1 hs1 kp1)
  | (with_reducible refine st_set3 (by assumption) (by assumption) ?_; intro H1 hs1 kp1)
  | (with_reducible refine st_set4 (by assumption) (by assumption) ?_; intro H1 hs1 kp1)
  | (with_reducible refine st_set5 (by assumption) (by assumption) ?_; intro H1 hs1 kp1)
  | with_reducible refine len_m (by assumption) ?_
  | with_reducible refine s_for1 ?_
  | with_reducible refine s_forL ?_
  | with_reducible refine rng1 (by omega) (by omega) ?_
  | with_reducible refine s_next ?_
  | with_reducible refine s_break ?_
  | with_reducible refine s_cont ?_
  | with_reducible refine isi_non_bool ?_
  | with_reducible refine isi_non_int ?_
  | with_reducible refine isi_non_str ?_
  | with_reducible refine isi_non_list ?_
  | with_reducible refine isi_non_tuple ?_
  | with_reducible refine isi_non_dict ?_
  | with_reducible refine isi_non_seq (by assumption) ?_
  | with_reducible refine isi_bl_bool ?_
  | with_reducible refine isi_bl_int ?_
  | with_reducible refine isi_bl_str ?_
  | with_reducible refine isi_bl_list ?_
  | with_reducible refine isi_bl_tuple ?_
  | with_reducible refine isi_bl_dict ?_
  | with_reducible refine isi_bl_seq (by assumption) ?_
  | with_reducible refine isi_int_bool ?_
  | with_reducible refine isi_int_int ?_
  | with_reducible refine isi_int_str ?_
  | with_reducible refine isi_int_list ?_
  | with_reducible refine isi_int_tuple ?_
  | with_reducible refine isi_int_dict ?_
  | with_reducible refine isi_int_seq (by assumption) ?_
  | with_reducible refine isi_str_bool ?_
  | with_reducible refine isi_str_int ?_
  | with_reducible refine isi_str_str ?_
  | with_reducible refine isi_str_list ?_
  | with_reducible refine isi_str_tuple ?_
  | with_reducible refine isi_str_dict ?_
  | with_reducible refine isi_str_seq (by assumption) ?_
  | with_reducible refine isi_lst_bool (by assumption) (by assumption) ?_
  | with_reducible refine isi_lst_int (by assumption) (by assumption) ?_
  | with_reducible refine isi_lst_str (by assumption) (by assumption) ?_
  | with_reducible refine isi_lst_list (by assumption) (by assumption) ?_
  | with_reducible refine isi_lst_tuple (by assumption) (by assumption) ?_
  | with_reducible refine isi_lst_dict (by assumption) (by assumption) ?_
  | with_reducible refine isi_lst_seq (by assumption) (by assumption) (by assumption) ?_
  | with_reducible refine isi_tup_bool (by assumption) (by assumption) ?_
  | with_reducible refine isi_tup_int (by assumption) (by assumption) ?_
  | with_reducible refine isi_tup_str (by assumption) (by assumption) ?_
  | with_reducible refine isi_tup_list (by assumption) (by assumption) ?_
  | with_reducible refine isi_tup_tuple (by assumption) (by assumption) ?_
  | with_reducible refine isi_tup_dict (by assumption) (by assumption) ?_
  | with_reducible refine isi_tup_seq (by assumption) (by assumption) (by assumption) ?_
  | with_reducible refine isi_dK_bool (by assumption) (by assumption) ?_
  | with_reducible refine isi_dK_int (by assumption) (by assumption) ?_
  | with_reducible refine isi_dK_str (by assumption) (by assumption) ?_
  | with_reducible refine isi_dK_list (by assumption) (by assumption) ?_
  | with_reducible refine isi_dK_tuple (by assumption) (by assumption) ?_
  | with_reducible refine isi_dK_dict (by assumption) (by assumption) ?_
  | with_reducible refine isi_dK_seq (by assumption) (by assumption) (by assumption) ?_
  | with_reducible refine eq_bb ?_
  | with_reducible refine eq_ss ?_
  | with_reducible refine ev_isN ?_
  | with_reducible refine ev_tB ?_
  | with_reducible refine ev_and ?_
  | with_reducible refine ev_or ?_
  | with_reducible refine ev_not ?_
  | with_reducible refine c_tru ?_
  | with_reducible refine tru_bl ?_
  | with_reducible refine if_nt ?_
  | with_reducible refine if_nf ?_
  | with_reducible refine tup_new ?_
  | with_reducible refine lst_new ?_
  | with_reducible refine len_ms (by assumption) (by assumption) ?_
  | with_reducible refine len_ts (by assumption) (by assumption) ?_
  | ((with_reducible refine lit_len ?_ ?_); (focus (first | decide | (simp; done) | (simp; omega))))
  | (with_reducible refine new_st (by assumption) (by assumption) ?_; intro q1 H1 hq1 he1 hn1 kp1 hS1 sm1)
  | (with_reducible refine new_same (by assumption) ?_; intro q1 H1 hq1 he1 sm1 hs1)
  | with_reducible refine if_dT rfl ?_
  | ((with_reducible refine if_dF ?_ ?_); focus (intro z; cases z; done))
  | with_reducible refine if_t ?_
  | with_reducible refine if_f ?_
  | ((with_reducible refine c_take (by assumption) (by assumption) ?_ ?_); (focus omega); intro r1 H1 hS1 kp1 h01 h11)
  | with_reducible refine ev_chain ?_
  | ((with_reducible refine c_number (by assumption) (by assumption) ?_ ?_); (focus omega); intro r1 H1 hS1 kp1 h01 h11)
  | ((with_reducible refine c_pick (by assumption) (by assumption) (by assumption) (by assumption) ?_ ?_); (focus (simp; done)); intro r1 H1 hS1 kp1 kk1 h01))
local macro_rules | `(tactic| walk_at "go") => `(tactic| repeat' (first | walk_at "nw" | ((with_reducible refine if_d ?_ ?_) <;> intro c1) | ((with_reducible refine if_nd ?_ ?_) <;> intro c1)))
end NW
namespace NW
open PySem PySem.Spec PyProof.Rows L2
open C8 (tCut pss_cut)
section
variable {X : Cx} {CX : CXT} {x : Str} {C fI : Addr} {k : Nat} {fd : FuncData} {ps : List Str} {sp : Sp} {e : Expr} {es : List Expr} {ta : TA} {p pos : Pos}
theorem pmkN (T : OexC X.K C) (iC : PySem.W.findIn X.K (.ref C) "__init__" = some (some (.ref fI))) (tI : PySem.W.typeIn X.K (.ref fI) = some (.type "function")) (F1 : FnOk X.prog X.w X.K X.mg X.base CX k fI fd ps sp)
    (hr : Room (k + 1) X.A) (hb : Binds X.K fd ps []) (hx : Passes CX X (fun _ _ _ => False)) (hg : Gl X x) (hm : X.mg x = some (.ref C)) (ha : PA X (e :: es) ta) (hdb : (x == ("__debug__" : Str)) = false := by decide)
    (he : starEach (e :: es) X.env = (false, eval e X.env) :: starEach es X.env := by rfl) (hpl : (backTo pos (starEach es X.env)).any (·.1) = false := by rfl) : L2N.PMk X (.Call (.Name x p) (e :: es) [] pos) (tMkO C sp [] ta) := by
  intro pn s0 ρ H0 W I0 h0
  obtain ⟨nm, q, N, bs, bm, sn, sub, ab, col, dd, k0, k1, k2, k3, k5, lC, rb⟩ := T.cls
  refine wpAny_Call_Name_kw (ld_glob I0 hg hm ?_ hdb)
  refine PySem.W.callWith_K (h₀ := X.base) I0.ok.mod.kin T.kC (thn (ha.run pos pn s0 ρ H0 _ I0 h0) fun us s1 hh => ?_) he hpl
  obtain ⟨vs, H1, I1, r1, hz, q1⟩ := hh
  refine ⟨I1.kIn, ?_⟩
  show wpAny _ _ (call (.ref C) us) _ _ _
  obtain ⟨hp, gs, dr, tk, os⟩ := s1
  let a : Addr := hp.objs.size + 1
  have le : hp.objs.size ≤ a := Nat.le_succ _
  have na : H1 a = none := I1.hok.fresh le
  have q2 := q1 a na
  rw [List.append_nil] at q2
  let h2 : Heap := (hp.push (PySem.W.kdv_tup us)).push (PySem.HandSPX.excO C hp.objs.size)
  have up : ∀ b o, hp.get? b = some o → h2.get? b = some o := fun b o z =>
    Heap.get?_push_of_some _ (Heap.get?_push_of_some _ z)
  have ga : h2.get? a = some (PySem.HandSPX.excO C hp.objs.size) := by
    show ((hp.push (PySem.W.kdv_tup us)).push (PySem.HandSPX.excO C hp.objs.size)).get? (hp.objs.size + 1) = _
    heap_get
  have I2 : Inv X pn ρ (upd H1 a (exo a C none)) ⟨h2, gs, dr, tk, os⟩ := I1.laid (t' := tk) up le (exo_ok ga)
  have r2 : Vals (V.ref a :: vs) (Value.ref a :: us) := .cons rfl r1
  have l2 : (Value.ref a :: us).length = ps.length := by
    have z := r2.length
    rw [F1.len _ _ _ _ q2] at z
    exact z.symm
  have lu : us.length ≤ sizeLine := by
    rw [← Paired.length r1, sizeLine_eq]; omega
  have b2 := hb ⟨h2, gs, dr, tk, os⟩ (Value.ref a :: us) I2.kIn (by rw [List.append_nil]; exact l2)
  rw [List.append_nil] at b2
  have run := F1.run _ X.stack _ _ ⟨Value.ref a :: us, []⟩ (Value.ref a :: us) _ _ (fun _ _ _ => False) (hr.make C us []) (I2.env0.make C us []) b2 r2 q2
  refine wpAny_call (PySem.HandSPX.call_own F.excBase_ValueError (fun Y => PySem.HandSPX.refsVE_contains Y bm rb) (I1.kIn _ _ lC) (PySem.W.looks_findIn I1.kIn iC)
    (fun self => PySem.W.bind_fn I1.kIn self tI) lu (codeAny_mono run fun r s3 q3 => ?_))
  cases r with
  | error er => exact hx pn ρ _ _ er s3 I2 q3
  | ok fl =>
    cases fl with
    | ret u =>
      obtain ⟨v, H2, o3, b3, u3, k3', rv, ev, d, fs, ea, ed, nd, q4⟩ := q3
      subst ev
      obtain ⟨h3, g3, d3, t3, os'⟩ := s3
      obtain ⟨t0, G, J, kG, ge, hoe, na2⟩ := mk_end0 (d2 := d3) (t2 := t3) I1 le up u3 k3' o3 b3 ea ed nd
      refine ⟨rv, a, _, _, ⟨G, g3, d3, t3, os'⟩, _, .ref C, some d, rfl, J, kG, ge, hoe, ⟨rfl, rfl, fun vs hv => ?_⟩, rfl, rfl, na2, rfl, b3, raises_own T.exC T.tyC, q4⟩
      cases hv
      rfl
    | next => exact False.elim q3
    | brk => exact False.elim q3
    | cont => exact False.elim q3
end
structure HotP (X : Cx) (p : Addr × Obj) : Prop where
  hot : L2H.Hot1 X.A p
  mem : p ∈ X.pn
theorem HotP.c {X : Cx} {p : Addr × Obj} (h : HotP X p) : L2H.HotC X := ⟨p, h.hot, h.mem⟩
end NW
namespace NW
open PySem PySem.Spec PyProof.Rows L2
open C8 (tCut pss_cut)
end NW
namespace NW
open PySem PySem.Spec PyProof.Rows L2
open C8 (tCut pss_cut)
/-- rows: pairs of a text and a bool -/
inductive RowsAt (H : Hp) : List V → List (Str × Bool) → Prop where
  | nil : RowsAt H [] []
  | cons {t : Addr} {n : Str} {b : Bool} {vs : List V} {rs : List (Str × Bool)} : H t = some (.tup [.str n, .bl b]) → RowsAt H vs rs → RowsAt H (.ref t :: vs) ((n, b) :: rs)
theorem RowsAt.mono {H H' : Hp} (s : Same H H') : ∀ {vs : List V} {rs : List (Str × Bool)}, RowsAt H vs rs → RowsAt H' vs rs
  | _, _, .nil => .nil
  | _, _, .cons h t => .cons (s _ _ h) (RowsAt.mono s t)
theorem RowsAt.append {H : Hp} : ∀ {vs vs' : List V} {rs rs' : List (Str × Bool)}, RowsAt H vs rs → RowsAt H vs' rs' → RowsAt H (vs ++ vs') (rs ++ rs')
  | _, _, _, _, .nil, b => b
  | _, _, _, _, .cons h t, b => .cons h (RowsAt.append t b)
theorem RowsAt.at {H : Hp} : ∀ {vs : List V} {rs : List (Str × Bool)} {i : Nat} {v : V}, RowsAt H vs rs → vs[i]? = some v → ∃ t n b, v = .ref t ∧ rs[i]? = some (n, b) ∧ H t = some (.tup [.str n, .bl b])
  | _, _, _, _, .nil, h => by simp at h
  | _, _, 0, _, .cons h _, e => by
    have z := Option.some.inj e
    exact ⟨_, _, _, z.symm, rfl, h⟩
  | _, _, i + 1, _, .cons _ t, e => RowsAt.at (i := i) t e
theorem RowsAt.len {H : Hp} : ∀ {vs : List V} {rs : List (Str × Bool)}, RowsAt H vs rs → vs.length = rs.length
  | _, _, .nil => rfl
  | _, _, .cons _ t => congrArg (· + 1) (RowsAt.len t)
def rIsP (K : PySem.W.Frag) (D a : Addr) (d : Option Addr) : List V → Hp → VK → Prop := fun xs H Q => ∃ (c : V) (cv : Value) (b : Bool), xs = [.ref a, c] ∧ ClsV c cv ∧ (∀ dd, d = some dd → ∃ fs, H dd = some (.xd fs)) ∧ PySem.W.kitOne K (.ref D) cv = some b ∧ Q (.bl b) H
theorem call_isP {X : Cx} {D : Addr} {d : Option Addr} {p : Addr × Obj} (C : ExcC X.K D) (hp : p ∈ X.pn) (hz : Zc (.ref D) d p.2) (hf : ∃ vs, p.2.data = .fields vs) : CallR X (.builtin "isinstance") (rIsP X.K D p.1 d) := by
  intro pn s ρ H xs us Q I r h
  obtain ⟨c, cv, b, ex, hc, hd, e, q⟩ := h
  subst ex
  cases r with
  | cons rx rr =>
    cases rr with
    | cons rt rr =>
      cases rr
      cases rx
      have ec := hc.eq rt
      subst ec
      obtain ⟨g, _⟩ := I.pin p (List.mem_append_left _ hp)
      obtain ⟨vs, hv⟩ := hf
      have od : ∃ od : Option Obj, PySem.W.InstAt s.heap p.1 p.2 D od := by
        cases d with
        | none => exact ⟨none, g, hz.1, by unfold PySem.W.notCls; rw [hv] <;> rfl, by rw [hz.2]; trivial⟩
        | some dd =>
          obtain ⟨fs, hfs⟩ := hd dd rfl
          obtain ⟨mA, hns, _⟩ : ∃ mA, s.heap.Ns1 dd mA ∧ ∀ f, RelO (fs.lookup f) (mA f) := I.hok dd _ hfs
          obtain ⟨o, ho, _⟩ := lookIn_ns hns
          exact ⟨some o, g, hz.1, by unfold PySem.W.notCls; rw [hv] <;> rfl, by rw [hz.2]; exact ho⟩
      obtain ⟨od, J⟩ := od
      obtain ⟨cdD, hcD, _⟩ := PySem.W.any_some C.hd
      exact PySem.W.kia_one (PySem.W.kitx_exc (by rw [hcD]; rfl) C.hg C.hk C.hs C.ha C.hn C.ht C.hm) I.kIn J e (fun z => nomatch z) fun tk => ⟨.bl b, H, I.kept (t' := tk) fun _ _ z => z, rfl, q⟩
end NW
namespace NW
open PySem PySem.Spec PyProof.Rows L2
open C8 (tCut pss_cut)
section
variable {K : PySem.W.Frag} {E a r : Addr} {d : Option Addr} {H0 H : Hp} {D : Ends} {o : Option V} {vs : List V} {rs : List (Str × Bool)} {n1 n2 : Str} {c1 c2 : V} {v1 v2 : Value} {b1 b2 : Bool} {Q : VK}
local macro_rules | `(tactic| walk_at "nw") => `(tactic| first
  | with_reducible refine s_seq ?_
  | with_reducible refine s_asg ?_
  | with_reducible refine s_if ?_
  | with_reducible refine s_ret ?_
  | with_reducible refine s_drop ?_
  | with_reducible refine v_var0 ?_
  | with_reducible refine s_name0 ?_
  | with_reducible refine v_aug0 ?_
  | with_reducible refine v_var1 ?_
  | with_reducible refine s_name1 ?_
  | with_reducible refine v_aug1 ?_
  | with_reducible refine v_var2 ?_
  | with_reducible refine s_name2 ?_
  | with_reducible refine v_aug2 ?_
  | with_reducible refine v_var3 ?_
  | with_reducible refine s_name3 ?_
  | with_reducible refine v_aug3 ?_
  | with_reducible refine v_var4 ?_
  | with_reducible refine s_name4 ?_
  | with_reducible refine v_aug4 ?_
  | with_reducible refine v_var5 ?_
  | with_reducible refine s_name5 ?_
  | with_reducible refine v_aug5 ?_
  | with_reducible refine v_var6 ?_
  | with_reducible refine s_name6 ?_
  | with_reducible refine v_aug6 ?_
  | with_reducible refine v_var7 ?_
  | with_reducible refine s_name7 ?_
  | with_reducible refine v_aug7 ?_
  | with_reducible refine v_var8 ?_
  | with_reducible refine s_name8 ?_
  | with_reducible refine v_aug8 ?_
  | with_reducible refine v_var9 ?_
  | with_reducible refine s_name9 ?_
  | with_reducible refine v_aug9 ?_
  | with_reducible refine v_var10 ?_
  | with_reducible refine s_name10 ?_
  | with_reducible refine v_aug10 ?_
  | with_reducible refine v_var11 ?_
  | with_reducible refine s_name11 ?_
  | with_reducible refine v_aug11 ?_
  | with_reducible refine v_var12 ?_
  | with_reducible refine s_name12 ?_
  | with_reducible refine v_aug12 ?_
  | with_reducible refine v_var13 ?_
  | with_reducible refine s_name13 ?_
  | with_reducible refine v_aug13 ?_
  | with_reducible refine v_var14 ?_
  | with_reducible refine s_name14 ?_
  | with_reducible refine v_aug14 ?_
  | with_reducible refine v_var15 ?_
  | with_reducible refine s_name15 ?_
  | with_reducible refine v_aug15 ?_
  | with_reducible refine v_c ?_
  | with_reducible refine v_op ?_
  | with_reducible refine v_cons ?_
  | with_reducible refine v_nil ?_
  | with_reducible refine v_cb ?_
  | with_reducible refine v_call ?_
  | with_reducible refine c_test ?_
  | with_reducible refine c_bl ?_
  | with_reducible refine c_and ?_
  | with_reducible refine c_or ?_
  | with_reducible refine c_not ?_
  | with_reducible refine v_augS ?_
  | with_reducible refine v_sub ?_
  | with_reducible refine add_ii ?_
  | with_reducible refine sub_ii ?_
  | with_reducible refine iadd_ii ?_
  | with_reducible refine lt_ii ?_
  | with_reducible refine le_ii ?_
  | with_reducible refine gt_ii ?_
  | with_reducible refine ge_ii ?_
  | with_reducible refine eq_ii ?_
  | with_reducible refine ne_ii ?_
  | with_reducible refine int_i ?_
  | with_reducible refine abs_i ?_
  | with_reducible refine max_i ?_
  | with_reducible refine min_i ?_
  | with_reducible refine mul_r (by omega) (by omega) ?_
  | with_reducible refine mul_l (by omega) (by omega) ?_
  | with_reducible refine ix_m0 (by assumption) ?_
  | with_reducible refine get_m0 (by assumption) ?_
  | with_reducible refine ix_m1 (by assumption) ?_
  | with_reducible refine get_m1 (by assumption) ?_
  | with_reducible refine ix_m2 (by assumption) ?_
  | with_reducible refine get_m2 (by assumption) ?_
  | with_reducible refine ix_m3 (by assumption) ?_
  | with_reducible refine get_m3 (by assumption) ?_
  | with_reducible refine ix_m4 (by assumption) ?_
  | with_reducible refine get_m4 (by assumption) ?_
  | with_reducible refine ix_m5 (by assumption) ?_
  | with_reducible refine get_m5 (by assumption) ?_
  | (with_reducible refine st_set1 (by assumption) (by assumption) ?_; intro H1 hs1 kp1)
  | (with_reducible refine st_set2 (by assumption) (by assumption) ?_; intro H1 hs1 kp1)
  | (with_reducible refine st_set3 (by assumption) (by assumption) ?_; intro H1 hs1 kp1)
  | (with_reducible refine st_set4 (by assumption) (by assumption) ?_; intro H1 hs1 kp1)
  | (with_reducible refine st_set5 (by assumption) (by assumption) ?_; intro H1 hs1 kp1)
  | with_reducible refine len_m (by assumption) ?_
  | with_reducible refine s_for1 ?_
  | with_reducible refine s_forL ?_
  | with_reducible refine rng1 (by omega) (by omega) ?_
  | with_reducible refine s_next ?_
  | with_reducible refine s_break ?_
  | with_reducible refine s_cont ?_
  | with_reducible refine isi_non_bool ?_
  | with_reducible refine isi_non_int ?_
  | with_reducible refine isi_non_str ?_
  | with_reducible refine isi_non_list ?_
  | with_reducible refine isi_non_tuple ?_
  | with_reducible refine isi_non_dict ?_
  | with_reducible refine isi_non_seq (by assumption) ?_
  | with_reducible refine isi_bl_bool ?_
  | with_reducible refine isi_bl_int ?_
  | with_reducible refine isi_bl_str ?_
  | with_reducible refine isi_bl_list ?_
  | with_reducible refine isi_bl_tuple ?_
  | with_reducible refine isi_bl_dict ?_
  | with_reducible refine isi_bl_seq (by assumption) ?_
  | with_reducible refine isi_int_bool ?_
  | with_reducible refine isi_int_int ?_
  | with_reducible refine isi_int_str ?_
  | with_reducible refine isi_int_list ?_
  | with_reducible refine isi_int_tuple ?_
  | with_reducible refine isi_int_dict ?_
  | with_reducible refine isi_int_seq (by assumption) ?_
  | with_reducible refine isi_str_bool ?_
  | with_reducible refine isi_str_int ?_
  | with_reducible refine isi_str_str ?_
  | with_reducible refine isi_str_list ?_
  | with_reducible refine isi_str_tuple ?_
  | with_reducible refine isi_str_dict ?_
  | with_reducible refine isi_str_seq (by assumption) ?_
  | with_reducible refine isi_lst_bool (by assumption) (by assumption) ?_
  | with_reducible refine isi_lst_int (by assumption) (by assumption) ?_
  | with_reducible refine isi_lst_str (by assumption) (by assumption) ?_
  | with_reducible refine isi_lst_list (by assumption) (by assumption) ?_
  | with_reducible refine isi_lst_tuple (by assumption) (by assumption) ?_
  | with_reducible refine isi_lst_dict (by assumption) (by assumption) ?_
  | with_reducible refine isi_lst_seq (by assumption) (by assumption) (by assumption) ?_
  | with_reducible refine isi_tup_bool (by assumption) (by assumption) ?_
  | with_reducible refine isi_tup_int (by assumption) (by assumption) ?_
  | with_reducible refine isi_tup_str (by assumption) (by assumption) ?_
  | with_reducible refine isi_tup_list (by assumption) (by assumption) ?_
  | with_reducible refine isi_tup_tuple (by assumption) (by assumption) ?_
  | with_reducible refine isi_tup_dict (by assumption) (by assumption) ?_
  | with_reducible refine isi_tup_seq (by assumption) (by assumption) (by assumption) ?_
  | with_reducible refine isi_dK_bool (by assumption) (by assumption) ?_
  | with_reducible refine isi_dK_int (by assumption) (by assumption) ?_
  | with_reducible refine isi_dK_str (by assumption) (by assumption) ?_
  | with_reducible refine isi_dK_list (by assumption) (by assumption) ?_
  | with_reducible refine isi_dK_tuple (by assumption) (by assumption) ?_
  | with_reducible refine isi_dK_dict (by assumption) (by assumption) ?_
  | with_reducible refine isi_dK_seq (by assumption) (by assumption) (by assumption) ?_
  | with_reducible refine eq_bb ?_
  | with_reducible refine eq_ss ?_
  | with_reducible refine ev_isN ?_
  | with_reducible refine ev_tB ?_
  | with_reducible refine ev_and ?_
  | with_reducible refine ev_or ?_
  | with_reducible refine ev_not ?_
  | with_reducible refine c_tru ?_
  | with_reducible refine tru_bl ?_
  | with_reducible refine if_nt ?_
  | with_reducible refine if_nf ?_
  | with_reducible refine tup_new ?_
  | with_reducible refine lst_new ?_
  | with_reducible refine len_ms (by assumption) (by assumption) ?_
  | with_reducible refine len_ts (by assumption) (by assumption) ?_
  | ((with_reducible refine lit_len ?_ ?_); (focus (first | decide | (simp; done) | (simp; omega))))
  | (with_reducible refine new_st (by assumption) (by assumption) ?_; intro q1 H1 hq1 he1 hn1 kp1 hS1 sm1)
  | (with_reducible refine new_same (by assumption) ?_; intro q1 H1 hq1 he1 sm1 hs1)
  | with_reducible refine if_dT rfl ?_
  | ((with_reducible refine if_dF ?_ ?_); focus (intro z; cases z; done))
  | with_reducible refine if_t ?_
  | with_reducible refine if_f ?_
  | ((with_reducible refine c_take (by assumption) (by assumption) ?_ ?_); (focus omega); intro r1 H1 hS1 kp1 h01 h11)
  | with_reducible refine ev_chain ?_
  | ((with_reducible refine c_number (by assumption) (by assumption) ?_ ?_); (focus omega); intro r1 H1 hS1 kp1 h01 h11)
  | ((with_reducible refine c_pick (by assumption) (by assumption) (by assumption) (by assumption) ?_ ?_); (focus (simp; done)); intro r1 H1 hS1 kp1 kk1 h01))
local macro_rules | `(tactic| walk_at "go") => `(tactic| repeat' (first | walk_at "nw" | ((with_reducible refine if_d ?_ ?_) <;> intro c1) | ((with_reducible refine if_nd ?_ ?_) <;> intro c1)))
end
end NW
namespace NW
open PySem PySem.Spec PyProof.Rows L2
open C8 (tCut pss_cut)
end NW
namespace NW
open PySem PySem.Spec PyProof.Rows L2
open C8 (tCut pss_cut)
section
variable {P : Program} {w : World} {K : PySem.W.Frag} {mg : Str → Option Value} {base : Heap} {x : Str} {params : Arguments} {body : List Stmt} {scope : Scope} {f : Addr} {ps : List Str} {sp : Sp} {p : Addr × Obj}
theorem has0 (g : mg x = some (.ref f)) (F : ∃ fd, FunD K x x params body scope [] [] f fd)
    (bn : ∀ (kV doc pm : Value) (an : Option Addr) (cdv ct : Value) (us : List Value), us.length = ps.length → bindArgs (PySem.W.fnOf x x params body scope .none kV doc pm an cdv ct) ⟨us, []⟩ = pure (ps.zip us))
    (h : ∀ vs H Q E, sp vs H Q E → False) : Has P w K mg base x 0 ps sp := by
  obtain ⟨fd, F⟩ := F
  exact ⟨f, fd, g, F.kp, F.bindsN bn, ⟨fun vs H Q E z => (h vs H Q E z).elim, fun _ _ _ _ _ _ _ _ _ _ _ _ _ z => (h _ _ _ _ z).elim⟩⟩
end
end NW
namespace NW
end NW
namespace NW
open PySem PySem.Spec PyProof.Rows L2
open C8 (tCut pss_cut)
def aTup (K : PySem.W.Frag) : List V → Hp → VK → Prop := fun xs H Q => ∃ p ys, xs = [.ref p] ∧ ((SqL K H p ys ∧ ∀ l, H l = none → Q (.ref l) (upd H l (.tup ys))) ∨ (SqT K H p ys ∧ Q (.ref p) H))
theorem cTup {X : Cx} : CallR X (.type "tuple") (aTup X.K) := call_tuple_of
section
variable {K : PySem.W.Frag} {H H0 : Hp} {Q : VK} {σ : L2.St} {p l : Addr} {xs : List V} {y : V} {te : TE} {ta : TA} {r : V → List V → Hp → VK → Prop} {i : Int} {j : Nat} {lo hi : Option Int}
theorem tup_l (hp : H p = some (.lst xs)) (h : NewR (.tup xs) H Q) : aTup K [.ref p] H Q := ⟨p, xs, rfl, .inl ⟨SqL.of hp, h⟩⟩
theorem tup_t (hp : H p = some (.tup xs)) (h : Q (.ref p) H) : aTup K [.ref p] H Q := ⟨p, xs, rfl, .inr ⟨SqT.of hp, h⟩⟩
theorem v_bm {T : String} (h : te σ H fun x H1 => tyV K T x H1 ∧ ta σ H1 fun ys H2 => r x ys H2 Q) : tBM K T r te ta σ H Q := h
theorem ty_l {A : Prop} (hp : H p = some (.lst xs)) (h : A) : tyV K "list" (.ref p) H ∧ A := ⟨.inl ⟨rfl, xs, SqL.of hp⟩, h⟩
theorem pop_l (hp : H p = some (.lst xs)) (hi : i = (j : Int)) (hj : j < xs.length) (hl : xs.length ≤ 1000000) (h : ∀ y, xs[j]? = some y → Q y (upd H p (.lst (xs.eraseIdx j)))) : rPopAt (.ref p) [.int i] H Q := by
  subst hi
  refine ⟨p, xs, (j : Int), j, xs[j], rfl, rfl, hp, by omega, by omega, ?_, List.getElem?_eq_getElem hj, h _ (List.getElem?_eq_getElem hj)⟩
  unfold seqIndex?
  rw [if_neg (by omega : ¬ ((j : Int) < 0))]
  have h1 : decide ((0 : Int) ≤ (j : Int)) = true := decide_eq_true (by omega)
  have h2 : decide ((j : Int) < (xs.length : Int)) = true := decide_eq_true (by omega)
  simp only [h1, h2, Bool.and_self, if_true, Int.toNat_natCast]
theorem v_sl {r : V → Option Int → Option Int → Hp → VK → Prop} {tl th : TO} (h : te σ H fun x H1 => tl σ H1 fun l H2 => th σ H2 fun u H3 => r x l u H3 Q) : tSl r te tl th σ H Q := h
def LcI (J : It) (g : TG) (tt : TT) (te : TE) (vs : List Nat) (σ : L2.St) (D : Addr) (Q : VK) (H : Hp) : Prop := ∃ W : Nat → Nat → Hp → Prop, (∃ m, W 0 m (upd H D (.lst []))) ∧ ∀ i m H, W i m H →
  (J.stop i H ∧ Q (.ref D) H) ∨ (J.go i H ∧ ∃ Nx : Hp → Prop, (∀ H', Nx H' → ∃ m', m' < m ∧ W (i + 1) m' H') ∧ ∀ x H', J.yld i H x H' → g x (wipe σ vs) H' fun σ2 H2 => wipe σ2 vs = wipe σ vs ∧ tt σ2 H2 fun b H3 =>
    if b = true then te σ2 H3 fun y H4 => ∃ acc, H4 D = some (.lst acc) ∧ acc.length < sizeLine ∧ Nx (upd H4 D (.lst (acc ++ [y]))) else Nx H3)
variable {g : TG} {tt : TT} {vs : List Nat}
theorem s_lc1 (h : ta σ H fun xs H1 => ∃ j : Int, xs = [.int j] ∧ -(2 ^ 62) ≤ j ∧ j < 2 ^ 62 ∧ ∀ D, H1 D = none → LcI (Itr 0 j.toNat) g tt te vs σ D Q H1) : tLc (iRng1 ta) g tt te vs σ H Q := h
theorem s_lcL {tl : TE} (h : tl σ H fun x H1 => ∃ a, x = .ref a ∧ (∃ xs, SqL K H1 a xs) ∧ ∀ D, H1 D = none → LcI (Itl K a) g tt te vs σ D Q H1) : tLc (iList K tl) g tt te vs σ H Q := h
theorem lc_kept {σ' : L2.St} {A : Prop} (h : A) (e : wipe σ' vs = wipe σ vs := by rfl) : wipe σ' vs = wipe σ vs ∧ A := ⟨e, h⟩
theorem c_yes {B : Bool → Hp → Prop} (h : B true H) : tYes σ H B := h
theorem v_nopart {R : Option Int → Hp → Prop} (h : R none H) : tNoPart σ H R := h
theorem v_part {R : Option Int → Hp → Prop} (h : te σ H fun x H1 => ∃ i, x = .int i ∧ R (some i) H1) : tPart te σ H R := h
theorem part_i {R : Int → Prop} (h : R i) : ∃ j, V.int i = .int j ∧ R j := ⟨i, rfl, h⟩
end
end NW
namespace NW
open PySem PySem.Spec PyProof.Rows L2
open C8 (tCut pss_cut)
local macro_rules | `(tactic| walk_at "nw") => `(tactic| first
  | with_reducible refine s_seq ?_
  | with_reducible refine s_asg ?_
  | with_reducible refine s_if ?_
  | with_reducible refine s_ret ?_
  | with_reducible refine s_drop ?_
  | with_reducible refine v_var0 ?_
  | with_reducible refine s_name0 ?_
  | with_reducible refine v_aug0 ?_
  | with_reducible refine v_var1 ?_
  | with_reducible refine s_name1 ?_
  | with_reducible refine v_aug1 ?_
  | with_reducible refine v_var2 ?_
  | with_reducible refine s_name2 ?_
  | with_reducible refine v_aug2 ?_
  | with_reducible refine v_var3 ?_
  | with_reducible refine s_name3 ?_
  | with_reducible refine v_aug3 ?_
  | with_reducible refine v_var4 ?_
  | with_reducible refine s_name4 ?_
  | with_reducible refine v_aug4 ?_
  | with_reducible refine v_var5 ?_
  | with_reducible refine s_name5 ?_
  | with_reducible refine v_aug5 ?_
  | with_reducible refine v_var6 ?_
  | with_reducible refine s_name6 ?_
  | with_reducible refine v_aug6 ?_
  | with_reducible refine v_var7 ?_
  | with_reducible refine s_name7 ?_
  | with_reducible refine v_aug7 ?_
  | with_reducible refine v_var8 ?_
  | with_reducible refine s_name8 ?_
  | with_reducible refine v_aug8 ?_
  | with_reducible refine v_var9 ?_
  | with_reducible refine s_name9 ?_
  | with_reducible refine v_aug9 ?_
  | with_reducible refine v_var10 ?_
  | with_reducible refine s_name10 ?_
  | with_reducible refine v_aug10 ?_
  | with_reducible refine v_var11 ?_
  | with_reducible refine s_name11 ?_
  | with_reducible refine v_aug11 ?_
  | with_reducible refine v_var12 ?_
  | with_reducible refine s_name12 ?_
  | with_reducible refine v_aug12 ?_
  | with_reducible refine v_var13 ?_
  | with_reducible refine s_name13 ?_
  | with_reducible refine v_aug13 ?_
  | with_reducible refine v_var14 ?_
  | with_reducible refine s_name14 ?_
  | with_reducible refine v_aug14 ?_
  | with_reducible refine v_var15 ?_
  | with_reducible refine s_name15 ?_
  | with_reducible refine v_aug15 ?_
  | with_reducible refine v_c ?_
  | with_reducible refine v_op ?_
  | with_reducible refine v_cons ?_
  | with_reducible refine v_nil ?_
  | with_reducible refine v_cb ?_
  | with_reducible refine v_call ?_
  | with_reducible refine c_test ?_
  | with_reducible refine c_bl ?_
  | with_reducible refine c_and ?_
  | with_reducible refine c_or ?_
  | with_reducible refine c_not ?_
  | with_reducible refine v_augS ?_
  | with_reducible refine v_sub ?_
  | with_reducible refine add_ii ?_
  | with_reducible refine sub_ii ?_
  | with_reducible refine iadd_ii ?_
  | with_reducible refine lt_ii ?_
  | with_reducible refine le_ii ?_
  | with_reducible refine gt_ii ?_
  | with_reducible refine ge_ii ?_
  | with_reducible refine eq_ii ?_
  | with_reducible refine ne_ii ?_
  | with_reducible refine int_i ?_
  | with_reducible refine abs_i ?_
  | with_reducible refine max_i ?_
  | with_reducible refine min_i ?_
  | with_reducible refine mul_r (by omega) (by omega) ?_
  | with_reducible refine mul_l (by omega) (by omega) ?_
  | with_reducible refine ix_m0 (by assumption) ?_
  | with_reducible refine get_m0 (by assumption) ?_
  | with_reducible refine ix_m1 (by assumption) ?_
  | with_reducible refine get_m1 (by assumption) ?_
  | with_reducible refine ix_m2 (by assumption) ?_
  | with_reducible refine get_m2 (by assumption) ?_
  | with_reducible refine ix_m3 (by assumption) ?_
  | with_reducible refine get_m3 (by assumption) ?_
  | with_reducible refine ix_m4 (by assumption) ?_
  | with_reducible refine get_m4 (by assumption) ?_
  | with_reducible refine ix_m5 (by assumption) ?_
  | with_reducible refine get_m5 (by assumption) ?_
  | (with_reducible refine st_set1 (by assumption) (by assumption) ?_; intro H1 hs1 kp1)
  | (with_reducible refine st_set2 (by assumption) (by assumption) ?_; intro H1 hs1 kp1)
  | (with_reducible refine st_set3 (by assumption) (by assumption) ?_; intro H1 hs1 kp1)
  | (with_reducible refine st_set4 (by assumption) (by assumption) ?_; intro H1 hs1 kp1)
  | (with_reducible refine st_set5 (by assumption) (by assumption) ?_; intro H1 hs1 kp1)
  | with_reducible refine len_m (by assumption) ?_
  | with_reducible refine s_for1 ?_
  | with_reducible refine s_forL ?_
  | with_reducible refine rng1 (by omega) (by omega) ?_
  | with_reducible refine s_next ?_
  | with_reducible refine s_break ?_
  | with_reducible refine s_cont ?_
  | with_reducible refine isi_non_bool ?_
  | with_reducible refine isi_non_int ?_
  | with_reducible refine isi_non_str ?_
  | with_reducible refine isi_non_list ?_
  | with_reducible refine isi_non_tuple ?_
  | with_reducible refine isi_non_dict ?_
  | with_reducible refine isi_non_seq (by assumption) ?_
  | with_reducible refine isi_bl_bool ?_
  | with_reducible refine isi_bl_int ?_
  | with_reducible refine isi_bl_str ?_
  | with_reducible refine isi_bl_list ?_
  | with_reducible refine isi_bl_tuple ?_
  | with_reducible refine isi_bl_dict ?_
  | with_reducible refine isi_bl_seq (by assumption) ?_
  | with_reducible refine isi_int_bool ?_
  | with_reducible refine isi_int_int ?_
  | with_reducible refine isi_int_str ?_
  | with_reducible refine isi_int_list ?_
  | with_reducible refine isi_int_tuple ?_
  | with_reducible refine isi_int_dict ?_
  | with_reducible refine isi_int_seq (by assumption) ?_
  | with_reducible refine isi_str_bool ?_
  | with_reducible refine isi_str_int ?_
  | with_reducible refine isi_str_str ?_
  | with_reducible refine isi_str_list ?_
  | with_reducible refine isi_str_tuple ?_
  | with_reducible refine isi_str_dict ?_
  | with_reducible refine isi_str_seq (by assumption) ?_
  | with_reducible refine isi_lst_bool (by assumption) (by assumption) ?_
  | with_reducible refine isi_lst_int (by assumption) (by assumption) ?_
  | with_reducible refine isi_lst_str (by assumption) (by assumption) ?_
  | with_reducible refine isi_lst_list (by assumption) (by assumption) ?_
  | with_reducible refine isi_lst_tuple (by assumption) (by assumption) ?_
  | with_reducible refine isi_lst_dict (by assumption) (by assumption) ?_
  | with_reducible refine isi_lst_seq (by assumption) (by assumption) (by assumption) ?_
  | with_reducible refine isi_tup_bool (by assumption) (by assumption) ?_
  | with_reducible refine isi_tup_int (by assumption) (by assumption) ?_
  | with_reducible refine isi_tup_str (by assumption) (by assumption) ?_
  | with_reducible refine isi_tup_list (by assumption) (by assumption) ?_
  | with_reducible refine isi_tup_tuple (by assumption) (by assumption) ?_
  | with_reducible refine isi_tup_dict (by assumption) (by assumption) ?_
  | with_reducible refine isi_tup_seq (by assumption) (by assumption) (by assumption) ?_
  | with_reducible refine isi_dK_bool (by assumption) (by assumption) ?_
  | with_reducible refine isi_dK_int (by assumption) (by assumption) ?_
  | with_reducible refine isi_dK_str (by assumption) (by assumption) ?_
  | with_reducible refine isi_dK_list (by assumption) (by assumption) ?_
  | with_reducible refine isi_dK_tuple (by assumption) (by assumption) ?_
  | with_reducible refine isi_dK_dict (by assumption) (by assumption) ?_
  | with_reducible refine isi_dK_seq (by assumption) (by assumption) (by assumption) ?_
  | with_reducible refine eq_bb ?_
  | with_reducible refine eq_ss ?_
  | with_reducible refine ev_isN ?_
  | with_reducible refine ev_tB ?_
  | with_reducible refine ev_and ?_
  | with_reducible refine ev_or ?_
  | with_reducible refine ev_not ?_
  | with_reducible refine c_tru ?_
  | with_reducible refine tru_bl ?_
  | with_reducible refine if_nt ?_
  | with_reducible refine if_nf ?_
  | with_reducible refine tup_new ?_
  | with_reducible refine lst_new ?_
  | with_reducible refine len_ms (by assumption) (by assumption) ?_
  | with_reducible refine len_ts (by assumption) (by assumption) ?_
  | ((with_reducible refine lit_len ?_ ?_); (focus (first | decide | (simp; done) | (simp; omega))))
  | (with_reducible refine new_st (by assumption) (by assumption) ?_; intro q1 H1 hq1 he1 hn1 kp1 hS1 sm1)
  | (with_reducible refine new_same (by assumption) ?_; intro q1 H1 hq1 he1 sm1 hs1)
  | with_reducible refine if_dT rfl ?_
  | ((with_reducible refine if_dF ?_ ?_); focus (intro z; cases z; done))
  | with_reducible refine if_t ?_
  | with_reducible refine if_f ?_
  | ((with_reducible refine c_take (by assumption) (by assumption) ?_ ?_); (focus omega); intro r1 H1 hS1 kp1 h01 h11)
  | with_reducible refine ev_chain ?_
  | ((with_reducible refine c_number (by assumption) (by assumption) ?_ ?_); (focus omega); intro r1 H1 hS1 kp1 h01 h11)
  | ((with_reducible refine c_pick (by assumption) (by assumption) (by assumption) (by assumption) ?_ ?_); (focus (simp; done)); intro r1 H1 hS1 kp1 kk1 h01))
local macro_rules | `(tactic| walk_at "go") => `(tactic| repeat' (first | walk_at "nw" | ((with_reducible refine if_d ?_ ?_) <;> intro c1) | ((with_reducible refine if_nd ?_ ?_) <;> intro c1)))
end NW
namespace NW
open PySem PySem.Spec PyProof.Rows L2
open C8 (tCut pss_cut)
local macro_rules | `(tactic| walk_at "nw") => `(tactic| first
  | with_reducible refine s_seq ?_
  | with_reducible refine s_asg ?_
  | with_reducible refine s_if ?_
  | with_reducible refine s_ret ?_
  | with_reducible refine s_drop ?_
  | with_reducible refine v_var0 ?_
  | with_reducible refine s_name0 ?_
  | with_reducible refine v_aug0 ?_
  | with_reducible refine v_var1 ?_
  | with_reducible refine s_name1 ?_
  | with_reducible refine v_aug1 ?_
  | with_reducible refine v_var2 ?_
  | with_reducible refine s_name2 ?_
  | with_reducible refine v_aug2 ?_
  | with_reducible refine v_var3 ?_
  | with_reducible refine s_name3 ?_
  | with_reducible refine v_aug3 ?_
  | with_reducible refine v_var4 ?_
  | with_reducible refine s_name4 ?_
  | with_reducible refine v_aug4 ?_
  | with_reducible refine v_var5 ?_
  | with_reducible refine s_name5 ?_
  | with_reducible refine v_aug5 ?_
  | with_reducible refine v_var6 ?_
  | with_reducible refine s_name6 ?_
  | with_reducible refine v_aug6 ?_
  | with_reducible refine v_var7 ?_
  | with_reducible refine s_name7 ?_
  | with_reducible refine v_aug7 ?_
  | with_reducible refine v_var8 ?_
  | with_reducible refine s_name8 ?_
  | with_reducible refine v_aug8 ?_
  | with_reducible refine v_var9 ?_
  | with_reducible refine s_name9 ?_
  | with_reducible refine v_aug9 ?_
  | with_reducible refine v_var10 ?_
  | with_reducible refine s_name10 ?_
  | with_reducible refine v_aug10 ?_
  | with_reducible refine v_var11 ?_
  | with_reducible refine s_name11 ?_
  | with_reducible refine v_aug11 ?_
  | with_reducible refine v_var12 ?_
  | with_reducible refine s_name12 ?_
  | with_reducible refine v_aug12 ?_
  | with_reducible refine v_var13 ?_
  | with_reducible refine s_name13 ?_
  | with_reducible refine v_aug13 ?_
  | with_reducible refine v_var14 ?_
  | with_reducible refine s_name14 ?_
  | with_reducible refine v_aug14 ?_
  | with_reducible refine v_var15 ?_
  | with_reducible refine s_name15 ?_
  | with_reducible refine v_aug15 ?_
  | with_reducible refine v_c ?_
  | with_reducible refine v_op ?_
  | with_reducible refine v_cons ?_
  | with_reducible refine v_nil ?_
  | with_reducible refine v_cb ?_
  | with_reducible refine v_call ?_
  | with_reducible refine c_test ?_
  | with_reducible refine c_bl ?_
  | with_reducible refine c_and ?_
  | with_reducible refine c_or ?_
  | with_reducible refine c_not ?_
  | with_reducible refine v_augS ?_
  | with_reducible refine v_sub ?_
  | with_reducible refine add_ii ?_
  | with_reducible refine sub_ii ?_
  | with_reducible refine iadd_ii ?_
  | with_reducible refine lt_ii ?_
  | with_reducible refine le_ii ?_
  | with_reducible refine gt_ii ?_
  | with_reducible refine ge_ii ?_
  | with_reducible refine eq_ii ?_
  | with_reducible refine ne_ii ?_
  | with_reducible refine int_i ?_
  | with_reducible refine abs_i ?_
  | with_reducible refine max_i ?_
  | with_reducible refine min_i ?_
  | with_reducible refine mul_r (by omega) (by omega) ?_
  | with_reducible refine mul_l (by omega) (by omega) ?_
  | with_reducible refine ix_m0 (by assumption) ?_
  | with_reducible refine get_m0 (by assumption) ?_
  | with_reducible refine ix_m1 (by assumption) ?_
  | with_reducible refine get_m1 (by assumption) ?_
  | with_reducible refine ix_m2 (by assumption) ?_
  | with_reducible refine get_m2 (by assumption) ?_
  | with_reducible refine ix_m3 (by assumption) ?_
  | with_reducible refine get_m3 (by assumption) ?_
  | with_reducible refine ix_m4 (by assumption) ?_
  | with_reducible refine get_m4 (by assumption) ?_
  | with_reducible refine ix_m5 (by assumption) ?_
  | with_reducible refine get_m5 (by assumption) ?_
  | (with_reducible refine st_set1 (by assumption) (by assumption) ?_; intro H1 hs1 kp1)
  | (with_reducible refine st_set2 (by assumption) (by assumption) ?_; intro H1 hs1 kp1)
  | (with_reducible refine st_set3 (by assumption) (by assumption) ?_; intro H1 hs1 kp1)
  | (with_reducible refine st_set4 (by assumption) (by assumption) ?_; intro H1 hs1 kp1)
  | (with_reducible refine st_set5 (by assumption) (by assumption) ?_; intro H1 hs1 kp1)
  | with_reducible refine len_m (by assumption) ?_
  | with_reducible refine s_for1 ?_
  | with_reducible refine s_forL ?_
  | with_reducible refine rng1 (by omega) (by omega) ?_
  | with_reducible refine s_next ?_
  | with_reducible refine s_break ?_
  | with_reducible refine s_cont ?_
  | with_reducible refine isi_non_bool ?_
  | with_reducible refine isi_non_int ?_
  | with_reducible refine isi_non_str ?_
  | with_reducible refine isi_non_list ?_
  | with_reducible refine isi_non_tuple ?_
  | with_reducible refine isi_non_dict ?_
  | with_reducible refine isi_non_seq (by assumption) ?_
  | with_reducible refine isi_bl_bool ?_
  | with_reducible refine isi_bl_int ?_
  | with_reducible refine isi_bl_str ?_
  | with_reducible refine isi_bl_list ?_
  | with_reducible refine isi_bl_tuple ?_
  | with_reducible refine isi_bl_dict ?_
  | with_reducible refine isi_bl_seq (by assumption) ?_
  | with_reducible refine isi_int_bool ?_
  | with_reducible refine isi_int_int ?_
  | with_reducible refine isi_int_str ?_
  | with_reducible refine isi_int_list ?_
  | with_reducible refine isi_int_tuple ?_
  | with_reducible refine isi_int_dict ?_
  | with_reducible refine isi_int_seq (by assumption) ?_
  | with_reducible refine isi_str_bool ?_
  | with_reducible refine isi_str_int ?_
  | with_reducible refine isi_str_str ?_
  | with_reducible refine isi_str_list ?_
  | with_reducible refine isi_str_tuple ?_
  | with_reducible refine isi_str_dict ?_
  | with_reducible refine isi_str_seq (by assumption) ?_
  | with_reducible refine isi_lst_bool (by assumption) (by assumption) ?_
  | with_reducible refine isi_lst_int (by assumption) (by assumption) ?_
  | with_reducible refine isi_lst_str (by assumption) (by assumption) ?_
  | with_reducible refine isi_lst_list (by assumption) (by assumption) ?_
  | with_reducible refine isi_lst_tuple (by assumption) (by assumption) ?_
  | with_reducible refine isi_lst_dict (by assumption) (by assumption) ?_
  | with_reducible refine isi_lst_seq (by assumption) (by assumption) (by assumption) ?_
  | with_reducible refine isi_tup_bool (by assumption) (by assumption) ?_
  | with_reducible refine isi_tup_int (by assumption) (by assumption) ?_
  | with_reducible refine isi_tup_str (by assumption) (by assumption) ?_
  | with_reducible refine isi_tup_list (by assumption) (by assumption) ?_
  | with_reducible refine isi_tup_tuple (by assumption) (by assumption) ?_
  | with_reducible refine isi_tup_dict (by assumption) (by assumption) ?_
  | with_reducible refine isi_tup_seq (by assumption) (by assumption) (by assumption) ?_
  | with_reducible refine isi_dK_bool (by assumption) (by assumption) ?_
  | with_reducible refine isi_dK_int (by assumption) (by assumption) ?_
  | with_reducible refine isi_dK_str (by assumption) (by assumption) ?_
  | with_reducible refine isi_dK_list (by assumption) (by assumption) ?_
  | with_reducible refine isi_dK_tuple (by assumption) (by assumption) ?_
  | with_reducible refine isi_dK_dict (by assumption) (by assumption) ?_
  | with_reducible refine isi_dK_seq (by assumption) (by assumption) (by assumption) ?_
  | with_reducible refine eq_bb ?_
  | with_reducible refine eq_ss ?_
  | with_reducible refine ev_isN ?_
  | with_reducible refine ev_tB ?_
  | with_reducible refine ev_and ?_
  | with_reducible refine ev_or ?_
  | with_reducible refine ev_not ?_
  | with_reducible refine c_tru ?_
  | with_reducible refine tru_bl ?_
  | with_reducible refine if_nt ?_
  | with_reducible refine if_nf ?_
  | with_reducible refine tup_new ?_
  | with_reducible refine lst_new ?_
  | with_reducible refine len_ms (by assumption) (by assumption) ?_
  | with_reducible refine len_ts (by assumption) (by assumption) ?_
  | ((with_reducible refine lit_len ?_ ?_); (focus (first | decide | (simp; done) | (simp; omega))))
  | (with_reducible refine new_st (by assumption) (by assumption) ?_; intro q1 H1 hq1 he1 hn1 kp1 hS1 sm1)
  | (with_reducible refine new_same (by assumption) ?_; intro q1 H1 hq1 he1 sm1 hs1)
  | with_reducible refine if_dT rfl ?_
  | ((with_reducible refine if_dF ?_ ?_); focus (intro z; cases z; done))
  | with_reducible refine if_t ?_
  | with_reducible refine if_f ?_
  | ((with_reducible refine c_take (by assumption) (by assumption) ?_ ?_); (focus omega); intro r1 H1 hS1 kp1 h01 h11)
  | with_reducible refine ev_chain ?_
  | ((with_reducible refine c_number (by assumption) (by assumption) ?_ ?_); (focus omega); intro r1 H1 hS1 kp1 h01 h11)
  | ((with_reducible refine c_pick (by assumption) (by assumption) (by assumption) (by assumption) ?_ ?_); (focus (simp; done)); intro r1 H1 hS1 kp1 kk1 h01)
  | with_reducible refine v_bm ?_
  | with_reducible refine v_sl ?_
  | with_reducible refine s_lc1 ?_
  | with_reducible refine s_lcL ?_
  | (with_reducible refine lc_kept ?_ rfl)
  | with_reducible refine c_yes ?_
  | with_reducible refine v_nopart ?_
  | with_reducible refine v_part ?_
  | with_reducible refine part_i ?_
  | with_reducible refine ty_l (by assumption) ?_)
local macro_rules | `(tactic| walk_at "go") => `(tactic| repeat' (first | walk_at "nw" | ((with_reducible refine if_d ?_ ?_) <;> intro c1) | ((with_reducible refine if_nd ?_ ?_) <;> intro c1)))
def sp_store (K : PySem.W.Frag) : Sp := fun vs H Q _ => ∃ (p : Addr) (ns : List Int), vs = [.ref p] ∧ SqL K H p (ns.map V.int) ∧ ∀ (st : Addr) (H' : Hp), Sto H' st → Same H H' → H st = none → Q (.ref st) H'
def t_store (K : PySem.W.Frag) : TS :=
  (tRet (tLst (tCons (tCB (aList K) (tCons (tVar 0) tNil)) (tCons (tC (.int 0)) (tCons (tC (.int 0)) (tCons (tC (.int 0)) (tCons (tC (.int 1)) (tCons (tC (.int 0)) tNil))))))))
theorem l_store (K : PySem.W.Frag) : ∀ vs H Q E, sp_store K vs H Q E → vs.length = 1 := fun _ _ _ _ ⟨_, _, e, _⟩ => by rw [e]; rfl
theorem p_store (K : PySem.W.Frag) (vs : List V) (H : Hp) (Q : VK) (E : XK) (h : sp_store K vs H Q E) : t_store K { nx := fun _ H' => Q .non H', rt := Q } (start ["script"] vs) H := by
  obtain ⟨p, ns, ev, hp, q⟩ := h
  subst ev
  show t_store K _ [some (.ref p)] H
  have hs := Same.refl H
  unfold t_store
  repeat walk_at "nw"
  refine list_l hp ?_
  repeat walk_at "nw"
  rename_i c H1 g1 e1 s1 s01 st H2 g2 e2 s2 s02
  refine q st H2 ⟨c, ns, 0, 0, 0, 1, 0, e2, s2 _ _ e1, by decide⟩ s02 ?_
  cases hst : H st with
  | none => rfl
  | some o => rw [s01 _ _ hst] at g2; cases g2
end NW
namespace NW
open PySem PySem.Spec PyProof.Rows L2
open C8 (tCut pss_cut)
local macro_rules | `(tactic| walk_at "nw") => `(tactic| first
  | with_reducible refine s_seq ?_
  | with_reducible refine s_asg ?_
  | with_reducible refine s_if ?_
  | with_reducible refine s_ret ?_
  | with_reducible refine s_drop ?_
  | with_reducible refine v_var0 ?_
  | with_reducible refine s_name0 ?_
  | with_reducible refine v_aug0 ?_
  | with_reducible refine v_var1 ?_
  | with_reducible refine s_name1 ?_
  | with_reducible refine v_aug1 ?_
  | with_reducible refine v_var2 ?_
  | with_reducible refine s_name2 ?_
  | with_reducible refine v_aug2 ?_
  | with_reducible refine v_var3 ?_
  | with_reducible refine s_name3 ?_
  | with_reducible refine v_aug3 ?_
  | with_reducible refine v_var4 ?_
  | with_reducible refine s_name4 ?_
  | with_reducible refine v_aug4 ?_
  | with_reducible refine v_var5 ?_
  | with_reducible refine s_name5 ?_
  | with_reducible refine v_aug5 ?_
  | with_reducible refine v_var6 ?_
  | with_reducible refine s_name6 ?_
  | with_reducible refine v_aug6 ?_
  | with_reducible refine v_var7 ?_
  | with_reducible refine s_name7 ?_
  | with_reducible refine v_aug7 ?_
  | with_reducible refine v_var8 ?_
  | with_reducible refine s_name8 ?_
  | with_reducible refine v_aug8 ?_
  | with_reducible refine v_var9 ?_
  | with_reducible refine s_name9 ?_
  | with_reducible refine v_aug9 ?_
  | with_reducible refine v_var10 ?_
  | with_reducible refine s_name10 ?_
  | with_reducible refine v_aug10 ?_
  | with_reducible refine v_var11 ?_
  | with_reducible refine s_name11 ?_
  | with_reducible refine v_aug11 ?_
  | with_reducible refine v_var12 ?_
  | with_reducible refine s_name12 ?_
  | with_reducible refine v_aug12 ?_
  | with_reducible refine v_var13 ?_
  | with_reducible refine s_name13 ?_
  | with_reducible refine v_aug13 ?_
  | with_reducible refine v_var14 ?_
  | with_reducible refine s_name14 ?_
  | with_reducible refine v_aug14 ?_
  | with_reducible refine v_var15 ?_
  | with_reducible refine s_name15 ?_
  | with_reducible refine v_aug15 ?_
  | with_reducible refine v_c ?_
  | with_reducible refine v_op ?_
  | with_reducible refine v_cons ?_
  | with_reducible refine v_nil ?_
  | with_reducible refine v_cb ?_
  | with_reducible refine v_call ?_
  | with_reducible refine c_test ?_
  | with_reducible refine c_bl ?_
  | with_reducible refine c_and ?_
  | with_reducible refine c_or ?_
  | with_reducible refine c_not ?_
  | with_reducible refine v_augS ?_
  | with_reducible refine v_sub ?_
  | with_reducible refine add_ii ?_
  | with_reducible refine sub_ii ?_
  | with_reducible refine iadd_ii ?_
  | with_reducible refine lt_ii ?_
  | with_reducible refine le_ii ?_
  | with_reducible refine gt_ii ?_
  | with_reducible refine ge_ii ?_
  | with_reducible refine eq_ii ?_
  | with_reducible refine ne_ii ?_
  | with_reducible refine int_i ?_
  | with_reducible refine abs_i ?_
  | with_reducible refine max_i ?_
  | with_reducible refine min_i ?_
  | with_reducible refine mul_r (by omega) (by omega) ?_
  | with_reducible refine mul_l (by omega) (by omega) ?_
  | with_reducible refine ix_m0 (by assumption) ?_
  | with_reducible refine get_m0 (by assumption) ?_
  | with_reducible refine ix_m1 (by assumption) ?_
  | with_reducible refine get_m1 (by assumption) ?_
  | with_reducible refine ix_m2 (by assumption) ?_
  | with_reducible refine get_m2 (by assumption) ?_
  | with_reducible refine ix_m3 (by assumption) ?_
  | with_reducible refine get_m3 (by assumption) ?_
  | with_reducible refine ix_m4 (by assumption) ?_
  | with_reducible refine get_m4 (by assumption) ?_
  | with_reducible refine ix_m5 (by assumption) ?_
  | with_reducible refine get_m5 (by assumption) ?_
  | (with_reducible refine st_set1 (by assumption) (by assumption) ?_; intro H1 hs1 kp1)
  | (with_reducible refine st_set2 (by assumption) (by assumption) ?_; intro H1 hs1 kp1)
  | (with_reducible refine st_set3 (by assumption) (by assumption) ?_; intro H1 hs1 kp1)
  | (with_reducible refine st_set4 (by assumption) (by assumption) ?_; intro H1 hs1 kp1)
  | (with_reducible refine st_set5 (by assumption) (by assumption) ?_; intro H1 hs1 kp1)
  | with_reducible refine len_m (by assumption) ?_
  | with_reducible refine s_for1 ?_
  | with_reducible refine s_forL ?_
  | with_reducible refine rng1 (by omega) (by omega) ?_
  | with_reducible refine s_next ?_
  | with_reducible refine s_break ?_
  | with_reducible refine s_cont ?_
  | with_reducible refine isi_non_bool ?_
  | with_reducible refine isi_non_int ?_
  | with_reducible refine isi_non_str ?_
  | with_reducible refine isi_non_list ?_
  | with_reducible refine isi_non_tuple ?_
  | with_reducible refine isi_non_dict ?_
  | with_reducible refine isi_non_seq (by assumption) ?_
  | with_reducible refine isi_bl_bool ?_
  | with_reducible refine isi_bl_int ?_
  | with_reducible refine isi_bl_str ?_
  | with_reducible refine isi_bl_list ?_
  | with_reducible refine isi_bl_tuple ?_
  | with_reducible refine isi_bl_dict ?_
  | with_reducible refine isi_bl_seq (by assumption) ?_
  | with_reducible refine isi_int_bool ?_
  | with_reducible refine isi_int_int ?_
  | with_reducible refine isi_int_str ?_
  | with_reducible refine isi_int_list ?_
  | with_reducible refine isi_int_tuple ?_
  | with_reducible refine isi_int_dict ?_
  | with_reducible refine isi_int_seq (by assumption) ?_
  | with_reducible refine isi_str_bool ?_
  | with_reducible refine isi_str_int ?_
  | with_reducible refine isi_str_str ?_
  | with_reducible refine isi_str_list ?_
  | with_reducible refine isi_str_tuple ?_
  | with_reducible refine isi_str_dict ?_
  | with_reducible refine isi_str_seq (by assumption) ?_
  | with_reducible refine isi_lst_bool (by assumption) (by assumption) ?_
  | with_reducible refine isi_lst_int (by assumption) (by assumption) ?_
  | with_reducible refine isi_lst_str (by assumption) (by assumption) ?_
  | with_reducible refine isi_lst_list (by assumption) (by assumption) ?_
  | with_reducible refine isi_lst_tuple (by assumption) (by assumption) ?_
  | with_reducible refine isi_lst_dict (by assumption) (by assumption) ?_
  | with_reducible refine isi_lst_seq (by assumption) (by assumption) (by assumption) ?_
  | with_reducible refine isi_tup_bool (by assumption) (by assumption) ?_
  | with_reducible refine isi_tup_int (by assumption) (by assumption) ?_
  | with_reducible refine isi_tup_str (by assumption) (by assumption) ?_
  | with_reducible refine isi_tup_list (by assumption) (by assumption) ?_
  | with_reducible refine isi_tup_tuple (by assumption) (by assumption) ?_
  | with_reducible refine isi_tup_dict (by assumption) (by assumption) ?_
  | with_reducible refine isi_tup_seq (by assumption) (by assumption) (by assumption) ?_
  | with_reducible refine isi_dK_bool (by assumption) (by assumption) ?_
  | with_reducible refine isi_dK_int (by assumption) (by assumption) ?_
  | with_reducible refine isi_dK_str (by assumption) (by assumption) ?_
  | with_reducible refine isi_dK_list (by assumption) (by assumption) ?_
  | with_reducible refine isi_dK_tuple (by assumption) (by assumption) ?_
  | with_reducible refine isi_dK_dict (by assumption) (by assumption) ?_
  | with_reducible refine isi_dK_seq (by assumption) (by assumption) (by assumption) ?_
  | with_reducible refine eq_bb ?_
  | with_reducible refine eq_ss ?_
  | with_reducible refine ev_isN ?_
  | with_reducible refine ev_tB ?_
  | with_reducible refine ev_and ?_
  | with_reducible refine ev_or ?_
  | with_reducible refine ev_not ?_
  | with_reducible refine c_tru ?_
  | with_reducible refine tru_bl ?_
  | with_reducible refine if_nt ?_
  | with_reducible refine if_nf ?_
  | with_reducible refine tup_new ?_
  | with_reducible refine lst_new ?_
  | with_reducible refine len_ms (by assumption) (by assumption) ?_
  | with_reducible refine len_ts (by assumption) (by assumption) ?_
  | ((with_reducible refine lit_len ?_ ?_); (focus (first | decide | (simp; done) | (simp; omega))))
  | (with_reducible refine new_st (by assumption) (by assumption) ?_; intro q1 H1 hq1 he1 hn1 kp1 hS1 sm1)
  | (with_reducible refine new_same (by assumption) ?_; intro q1 H1 hq1 he1 sm1 hs1)
  | with_reducible refine if_dT rfl ?_
  | ((with_reducible refine if_dF ?_ ?_); focus (intro z; cases z; done))
  | with_reducible refine if_t ?_
  | with_reducible refine if_f ?_
  | ((with_reducible refine c_take (by assumption) (by assumption) ?_ ?_); (focus omega); intro r1 H1 hS1 kp1 h01 h11)
  | with_reducible refine ev_chain ?_
  | ((with_reducible refine c_number (by assumption) (by assumption) ?_ ?_); (focus omega); intro r1 H1 hS1 kp1 h01 h11)
  | ((with_reducible refine c_pick (by assumption) (by assumption) (by assumption) (by assumption) ?_ ?_); (focus (simp; done)); intro r1 H1 hS1 kp1 kk1 h01)
  | with_reducible refine v_bm ?_
  | with_reducible refine v_sl ?_
  | with_reducible refine s_lc1 ?_
  | with_reducible refine s_lcL ?_
  | (with_reducible refine lc_kept ?_ rfl)
  | with_reducible refine c_yes ?_
  | with_reducible refine v_nopart ?_
  | with_reducible refine v_part ?_
  | with_reducible refine part_i ?_
  | with_reducible refine ty_l (by assumption) ?_)
local macro_rules | `(tactic| walk_at "go") => `(tactic| repeat' (first | walk_at "nw" | ((with_reducible refine if_d ?_ ?_) <;> intro c1) | ((with_reducible refine if_nd ?_ ?_) <;> intro c1)))
end NW
namespace NW
open PySem PySem.Spec PyProof.Rows L2
open C8 (tCut pss_cut)
def LT (H : Hp) (p : Addr) (xs : List V) : Prop := H p = some (.lst xs) ∨ H p = some (.tup xs)
theorem LT.mono {H H' : Hp} {p : Addr} {xs : List V} (s : Same H H') (h : LT H p xs) : LT H' p xs := h.elim (fun z => .inl (s _ _ z)) fun z => .inr (s _ _ z)
section
variable {P : Program} {w : World} {K : PySem.W.Frag} {mg : Str → Option Value} {base : Heap} {x qual : Str} {params : Arguments} {body : List Stmt} {scope : Scope} {f : Addr} {N ps : List Str} {k : Nat} {sp : Sp}
theorem has_ofX {t : XK → TS} (g : mg x = some (.ref f)) (F : ∃ fd, FunD K x x params body scope [] [] f fd) (S : FnScope N ps scope) (len : ∀ vs H Q E, sp vs H Q E → vs.length = ps.length)
    (bn : ∀ (kV doc pm : Value) (an : Option Addr) (cdv ct : Value) (us : List Value), us.length = ps.length → bindArgs (PySem.W.fnOf x x params body scope .none kV doc pm an cdv ct) ⟨us, []⟩ = pure (ps.zip us))
    (d : ∀ (cdv : Value) (A : Around) (outer : List Env) (s : Shared) (H : Hp) (E : XK), Room k (A.deeper (envOfC x scope s.heap.objs.size f cdv)) →
      L2N.Takes (cxOf (L2N.CX P w) P w K mg base N x scope f cdv A outer s H E) (fun cls d _ H => E cls d H) → PSs (cxOf (L2N.CX P w) P w K mg base N x scope f cdv A outer s H E) body (t E))
    (pure_ : ∀ vs H Q E, sp vs H Q E → t E { nx := fun _ H' => Q .non H', rt := Q } (start N vs) H) : Has P w K mg base x (k + 1) ps sp := by
  obtain ⟨fd, F⟩ := F
  exact ⟨f, fd, g, F.kp, F.bindsN bn, F.ok S len fun cdv A outer s H vs Q E hr h => ⟨t E, d cdv A outer s H E hr (L2N.takes_of rfl rfl rfl rfl), pure_ vs H Q E h⟩⟩
/-- C's own __init__ keeps sp -/
structure InitOk (P : Program) (w : World) (K : PySem.W.Frag) (mg : Str → Option Value) (base : Heap) (C : Addr) (k : Nat) (ps : List Str) (sp : Sp) : Prop where
  o : OexC K C
  ex : ∃ fI fd, PySem.W.findIn K (.ref C) "__init__" = some (some (.ref fI)) ∧ PySem.W.typeIn K (.ref fI) = some (.type "function") ∧ Binds K fd ps [] ∧ FnOk P w K mg base (L2N.CX P w) k fI fd ps sp
/-- what the written part says of such a class: one field -/
structure Err1 (K : PySem.W.Frag) (C : Addr) (q : Str) (fl : Str) (params : Arguments) (body : List Stmt) (scope : Scope) : Prop where
  o : OexC K C
  n : PySem.W.findIn K (.ref C) fl = some none
  ex : ∃ fI fd, PySem.W.findIn K (.ref C) "__init__" = some (some (.ref fI)) ∧ PySem.W.typeIn K (.ref fI) = some (.type "function") ∧ FunD K "__init__" q params body scope [] [] fI fd
def sp_init1 (K : PySem.W.Frag) (C : Addr) (fl : Str) : Sp := fun vs H Q _ => ∃ (a : Addr) (y : V), vs = [.ref a, y] ∧ H a = some (exo a C none) ∧ ∀ dx, H dx = none → dx ≠ a → Q .non (upd (upd H dx (exd dx [(fl, y)])) a (exo a C (some dx)))
theorem init1 {C : Addr} {q fl : Str} (h : Err1 K C q fl params body scope) (S : FnScope (["self", fl] : List Str) (["self", fl] : List Str) scope)
    (bn : ∀ (kV doc pm : Value) (an : Option Addr) (cdv ct : Value) (us : List Value), us.length = 2 → bindArgs (PySem.W.fnOf "__init__" q params body scope .none kV doc pm an cdv ct) ⟨us, []⟩ = pure ((["self", fl] : List Str).zip us))
    (dv : ∀ (fI : Addr) (cdv : Value) (A : Around) (outer : List Env) (s : Shared) (H : Hp) (E : XK), PSs (cxOf (L2N.CX P w) P w K mg base (["self", fl] : List Str) q scope fI cdv A outer s H E) body (tOst K fl (tVar 0) (tVar 1))) : InitOk P w K mg base C 1 (["self", fl] : List Str) (sp_init1 K C fl) := by
  obtain ⟨fI, fd, h1, h2, F⟩ := h.ex
  refine ⟨h.o, fI, fd, h1, h2, F.bindsN bn, F.ok S (fun vs H Q E z => by obtain ⟨_, _, e, _⟩ := z; rw [e]; rfl) fun cdv A outer s H vs Q E hr z => ⟨_, dv fI cdv A outer s H E, ?_⟩⟩
  obtain ⟨a, y, ev, ha, q⟩ := z
  subst ev
  exact ⟨y, rfl, .ref a, rfl, a, C, rfl, h.o, h.n, .inl ⟨ha, fun dx h3 h4 => q dx h3 h4⟩⟩
end
/-- made by its class's name -/
theorem pmk_in {X : Cx} {x : Str} {C : Addr} {k j : Nat} {ps : List Str} {sp : Sp} {e : Expr} {es : List Expr} {ta : TA} {p pos : Pos} (h : InitOk X.prog X.w X.K X.mg X.base C k ps sp) (hm : X.mg x = some (.ref C)) (hr : Room j X.A) (ha : PA X (e :: es) ta) (hk : k + 1 ≤ j := by decide) (hg : Gl X x := by rfl) (hdb : (x == ("__debug__" : Str)) = false := by decide)
    (he : starEach (e :: es) X.env = (false, eval e X.env) :: starEach es X.env := by rfl) (hpl : (backTo pos (starEach es X.env)).any (·.1) = false := by rfl) : L2N.PMk X (.Call (.Name x p) (e :: es) [] pos) (tMkO C sp [] ta) := by
  obtain ⟨fI, fd, h1, h2, hb, F⟩ := h.ex
  exact pmkN h.o h1 h2 F (hr.mono hk) hb passN hg hm ha hdb he hpl
/-- raise C(e): its reading -/
def tRaise (E : XK) (t : L2.St → Hp → XK → Prop) : TS := fun _ σ H => t σ H fun cls d H' => E cls d H'
theorem ps_rs {X : Cx} {E : XK} {e : Expr} {t : L2.St → Hp → XK → Prop} {pos : Pos} (hc : X.calm = true) (tk : L2N.Takes X (fun cls d _ H => E cls d H)) (he : L2N.PMk X e t) : PS X (.Raise (some e) none pos) (tRaise E t) := L2N.ps_raise hc tk he
def MkR (E : XK) (K : PySem.W.Frag) (C : Addr) (fl : Str) (y : V) (H1 : Hp) : Prop := ([y] : List V).length ≤ 1000 ∧ ∀ a, H1 a = none → sp_init1 K C fl (.ref a :: ([y] ++ [])) (upd H1 a (exo a C none))
  (fun v H2 => v = .non ∧ ∃ (d : Addr) (fs : List (Str × V)), H2 a = some (exo a C (some d)) ∧ H2 d = some (exd d fs) ∧ H1 d = none ∧ E (.ref C) (some d) (upd (del H2 a) d (.xd fs))) (fun _ _ _ => False)
theorem s_raise1 {E : XK} {K : PySem.W.Frag} {C : Addr} {fl : Str} {te : TE} {D : Ends} {σ : L2.St} {H : Hp} (h : te σ H fun y H1 => MkR E K C fl y H1) : tRaise E (tMkO C (sp_init1 K C fl) [] (tCons te tNil)) D σ H := h
theorem mk_r {E : XK} {K : PySem.W.Frag} {C : Addr} {fl : Str} {y : V} {H1 : Hp} (hq : ∀ d, H1 d = none → E (.ref C) (some d) (upd H1 d (.xd [(fl, y)]))) : MkR E K C fl y H1 := by
  refine ⟨by show 1 ≤ 1000; decide, fun a ha => ⟨a, y, rfl, upd_same, fun dx hdx hne => ⟨rfl, dx, [(fl, y)], upd_same, ?_, ?_, ?_⟩⟩⟩
  · rw [upd_ne hne]; exact upd_same
  · rw [upd_ne hne] at hdx; exact hdx
  · rw [upd_ne hne] at hdx
    have z : upd (del (upd (upd (upd H1 a (exo a C none)) dx (exd dx [(fl, y)])) a (exo a C (some dx))) a) dx (.xd [(fl, y)]) = upd H1 dx (.xd [(fl, y)]) := by
      funext b
      by_cases b1 : b = dx
      · subst b1; rw [upd_same, upd_same]
      · rw [upd_ne b1, upd_ne b1]
        by_cases b2 : b = a
        · subst b2; rw [del_same, ha]
        · rw [del_ne b2, upd_ne b2, upd_ne b1, upd_ne b2]
    rw [z]
    exact hq dx hdx
end NW
namespace NW
open PySem PySem.Spec PyProof.Rows L2
open C8 (tCut pss_cut)
local macro_rules | `(tactic| walk_at "nw") => `(tactic| first
  | with_reducible refine s_seq ?_
  | with_reducible refine s_asg ?_
  | with_reducible refine s_if ?_
  | with_reducible refine s_ret ?_
  | with_reducible refine s_drop ?_
  | with_reducible refine v_var0 ?_
  | with_reducible refine s_name0 ?_
  | with_reducible refine v_aug0 ?_
  | with_reducible refine v_var1 ?_
  | with_reducible refine s_name1 ?_
  | with_reducible refine v_aug1 ?_
  | with_reducible refine v_var2 ?_
  | with_reducible refine s_name2 ?_
  | with_reducible refine v_aug2 ?_
  | with_reducible refine v_var3 ?_
  | with_reducible refine s_name3 ?_
  | with_reducible refine v_aug3 ?_
  | with_reducible refine v_var4 ?_
  | with_reducible refine s_name4 ?_
  | with_reducible refine v_aug4 ?_
  | with_reducible refine v_var5 ?_
  | with_reducible refine s_name5 ?_
  | with_reducible refine v_aug5 ?_
  | with_reducible refine v_var6 ?_
  | with_reducible refine s_name6 ?_
  | with_reducible refine v_aug6 ?_
  | with_reducible refine v_var7 ?_
  | with_reducible refine s_name7 ?_
  | with_reducible refine v_aug7 ?_
  | with_reducible refine v_var8 ?_
  | with_reducible refine s_name8 ?_
  | with_reducible refine v_aug8 ?_
  | with_reducible refine v_var9 ?_
  | with_reducible refine s_name9 ?_
  | with_reducible refine v_aug9 ?_
  | with_reducible refine v_var10 ?_
  | with_reducible refine s_name10 ?_
  | with_reducible refine v_aug10 ?_
  | with_reducible refine v_var11 ?_
  | with_reducible refine s_name11 ?_
  | with_reducible refine v_aug11 ?_
  | with_reducible refine v_var12 ?_
  | with_reducible refine s_name12 ?_
  | with_reducible refine v_aug12 ?_
  | with_reducible refine v_var13 ?_
  | with_reducible refine s_name13 ?_
  | with_reducible refine v_aug13 ?_
  | with_reducible refine v_var14 ?_
  | with_reducible refine s_name14 ?_
  | with_reducible refine v_aug14 ?_
  | with_reducible refine v_var15 ?_
  | with_reducible refine s_name15 ?_
  | with_reducible refine v_aug15 ?_
  | with_reducible refine v_c ?_
  | with_reducible refine v_op ?_
  | with_reducible refine v_cons ?_
  | with_reducible refine v_nil ?_
  | with_reducible refine v_cb ?_
  | with_reducible refine v_call ?_
  | with_reducible refine c_test ?_
  | with_reducible refine c_bl ?_
  | with_reducible refine c_and ?_
  | with_reducible refine c_or ?_
  | with_reducible refine c_not ?_
  | with_reducible refine v_augS ?_
  | with_reducible refine v_sub ?_
  | with_reducible refine add_ii ?_
  | with_reducible refine sub_ii ?_
  | with_reducible refine iadd_ii ?_
  | with_reducible refine lt_ii ?_
  | with_reducible refine le_ii ?_
  | with_reducible refine gt_ii ?_
  | with_reducible refine ge_ii ?_
  | with_reducible refine eq_ii ?_
  | with_reducible refine ne_ii ?_
  | with_reducible refine int_i ?_
  | with_reducible refine abs_i ?_
  | with_reducible refine max_i ?_
  | with_reducible refine min_i ?_
  | with_reducible refine mul_r (by omega) (by omega) ?_
  | with_reducible refine mul_l (by omega) (by omega) ?_
  | with_reducible refine ix_m0 (by assumption) ?_
  | with_reducible refine get_m0 (by assumption) ?_
  | with_reducible refine ix_m1 (by assumption) ?_
  | with_reducible refine get_m1 (by assumption) ?_
  | with_reducible refine ix_m2 (by assumption) ?_
  | with_reducible refine get_m2 (by assumption) ?_
  | with_reducible refine ix_m3 (by assumption) ?_
  | with_reducible refine get_m3 (by assumption) ?_
  | with_reducible refine ix_m4 (by assumption) ?_
  | with_reducible refine get_m4 (by assumption) ?_
  | with_reducible refine ix_m5 (by assumption) ?_
  | with_reducible refine get_m5 (by assumption) ?_
  | (with_reducible refine st_set1 (by assumption) (by assumption) ?_; intro H1 hs1 kp1)
  | (with_reducible refine st_set2 (by assumption) (by assumption) ?_; intro H1 hs1 kp1)
  | (with_reducible refine st_set3 (by assumption) (by assumption) ?_; intro H1 hs1 kp1)
  | (with_reducible refine st_set4 (by assumption) (by assumption) ?_; intro H1 hs1 kp1)
  | (with_reducible refine st_set5 (by assumption) (by assumption) ?_; intro H1 hs1 kp1)
  | with_reducible refine len_m (by assumption) ?_
  | with_reducible refine s_for1 ?_
  | with_reducible refine s_forL ?_
  | with_reducible refine rng1 (by omega) (by omega) ?_
  | with_reducible refine s_next ?_
  | with_reducible refine s_break ?_
  | with_reducible refine s_cont ?_
  | with_reducible refine isi_non_bool ?_
  | with_reducible refine isi_non_int ?_
  | with_reducible refine isi_non_str ?_
  | with_reducible refine isi_non_list ?_
  | with_reducible refine isi_non_tuple ?_
  | with_reducible refine isi_non_dict ?_
  | with_reducible refine isi_non_seq (by assumption) ?_
  | with_reducible refine isi_bl_bool ?_
  | with_reducible refine isi_bl_int ?_
  | with_reducible refine isi_bl_str ?_
  | with_reducible refine isi_bl_list ?_
  | with_reducible refine isi_bl_tuple ?_
  | with_reducible refine isi_bl_dict ?_
  | with_reducible refine isi_bl_seq (by assumption) ?_
  | with_reducible refine isi_int_bool ?_
  | with_reducible refine isi_int_int ?_
  | with_reducible refine isi_int_str ?_
  | with_reducible refine isi_int_list ?_
  | with_reducible refine isi_int_tuple ?_
  | with_reducible refine isi_int_dict ?_
  | with_reducible refine isi_int_seq (by assumption) ?_
  | with_reducible refine isi_str_bool ?_
  | with_reducible refine isi_str_int ?_
  | with_reducible refine isi_str_str ?_
  | with_reducible refine isi_str_list ?_
  | with_reducible refine isi_str_tuple ?_
  | with_reducible refine isi_str_dict ?_
  | with_reducible refine isi_str_seq (by assumption) ?_
  | with_reducible refine isi_lst_bool (by assumption) (by assumption) ?_
  | with_reducible refine isi_lst_int (by assumption) (by assumption) ?_
  | with_reducible refine isi_lst_str (by assumption) (by assumption) ?_
  | with_reducible refine isi_lst_list (by assumption) (by assumption) ?_
  | with_reducible refine isi_lst_tuple (by assumption) (by assumption) ?_
  | with_reducible refine isi_lst_dict (by assumption) (by assumption) ?_
  | with_reducible refine isi_lst_seq (by assumption) (by assumption) (by assumption) ?_
  | with_reducible refine isi_tup_bool (by assumption) (by assumption) ?_
  | with_reducible refine isi_tup_int (by assumption) (by assumption) ?_
  | with_reducible refine isi_tup_str (by assumption) (by assumption) ?_
  | with_reducible refine isi_tup_list (by assumption) (by assumption) ?_
  | with_reducible refine isi_tup_tuple (by assumption) (by assumption) ?_
  | with_reducible refine isi_tup_dict (by assumption) (by assumption) ?_
  | with_reducible refine isi_tup_seq (by assumption) (by assumption) (by assumption) ?_
  | with_reducible refine isi_dK_bool (by assumption) (by assumption) ?_
  | with_reducible refine isi_dK_int (by assumption) (by assumption) ?_
  | with_reducible refine isi_dK_str (by assumption) (by assumption) ?_
  | with_reducible refine isi_dK_list (by assumption) (by assumption) ?_
  | with_reducible refine isi_dK_tuple (by assumption) (by assumption) ?_
  | with_reducible refine isi_dK_dict (by assumption) (by assumption) ?_
  | with_reducible refine isi_dK_seq (by assumption) (by assumption) (by assumption) ?_
  | with_reducible refine eq_bb ?_
  | with_reducible refine eq_ss ?_
  | with_reducible refine ev_isN ?_
  | with_reducible refine ev_tB ?_
  | with_reducible refine ev_and ?_
  | with_reducible refine ev_or ?_
  | with_reducible refine ev_not ?_
  | with_reducible refine c_tru ?_
  | with_reducible refine tru_bl ?_
  | with_reducible refine if_nt ?_
  | with_reducible refine if_nf ?_
  | with_reducible refine tup_new ?_
  | with_reducible refine lst_new ?_
  | with_reducible refine len_ms (by assumption) (by assumption) ?_
  | with_reducible refine len_ts (by assumption) (by assumption) ?_
  | ((with_reducible refine lit_len ?_ ?_); (focus (first | decide | (simp; done) | (simp; omega))))
  | (with_reducible refine new_st (by assumption) (by assumption) ?_; intro q1 H1 hq1 he1 hn1 kp1 hS1 sm1)
  | (with_reducible refine new_same (by assumption) ?_; intro q1 H1 hq1 he1 sm1 hs1)
  | with_reducible refine if_dT rfl ?_
  | ((with_reducible refine if_dF ?_ ?_); focus (intro z; cases z; done))
  | with_reducible refine if_t ?_
  | with_reducible refine if_f ?_
  | ((with_reducible refine c_take (by assumption) (by assumption) ?_ ?_); (focus omega); intro r1 H1 hS1 kp1 h01 h11)
  | with_reducible refine ev_chain ?_
  | ((with_reducible refine c_number (by assumption) (by assumption) ?_ ?_); (focus omega); intro r1 H1 hS1 kp1 h01 h11)
  | ((with_reducible refine c_pick (by assumption) (by assumption) (by assumption) (by assumption) ?_ ?_); (focus (simp; done)); intro r1 H1 hS1 kp1 kk1 h01)
  | with_reducible refine v_bm ?_
  | with_reducible refine v_sl ?_
  | with_reducible refine s_lc1 ?_
  | with_reducible refine s_lcL ?_
  | (with_reducible refine lc_kept ?_ rfl)
  | with_reducible refine c_yes ?_
  | with_reducible refine v_nopart ?_
  | with_reducible refine v_part ?_
  | with_reducible refine part_i ?_
  | with_reducible refine ty_l (by assumption) ?_)
local macro_rules | `(tactic| walk_at "go") => `(tactic| repeat' (first | walk_at "nw" | ((with_reducible refine if_d ?_ ?_) <;> intro c1) | ((with_reducible refine if_nd ?_ ?_) <;> intro c1)))
end NW
namespace NW
open PySem PySem.Spec PyProof.Rows L2
open C8 (tCut pss_cut)
local macro_rules | `(tactic| walk_at "nw") => `(tactic| first
  | with_reducible refine s_seq ?_
  | with_reducible refine s_asg ?_
  | with_reducible refine s_if ?_
  | with_reducible refine s_ret ?_
  | with_reducible refine s_drop ?_
  | with_reducible refine v_var0 ?_
  | with_reducible refine s_name0 ?_
  | with_reducible refine v_aug0 ?_
  | with_reducible refine v_var1 ?_
  | with_reducible refine s_name1 ?_
  | with_reducible refine v_aug1 ?_
  | with_reducible refine v_var2 ?_
  | with_reducible refine s_name2 ?_
  | with_reducible refine v_aug2 ?_
  | with_reducible refine v_var3 ?_
  | with_reducible refine s_name3 ?_
  | with_reducible refine v_aug3 ?_
  | with_reducible refine v_var4 ?_
  | with_reducible refine s_name4 ?_
  | with_reducible refine v_aug4 ?_
  | with_reducible refine v_var5 ?_
  | with_reducible refine s_name5 ?_
  | with_reducible refine v_aug5 ?_
  | with_reducible refine v_var6 ?_
  | with_reducible refine s_name6 ?_
  | with_reducible refine v_aug6 ?_
  | with_reducible refine v_var7 ?_
  | with_reducible refine s_name7 ?_
  | with_reducible refine v_aug7 ?_
  | with_reducible refine v_var8 ?_
  | with_reducible refine s_name8 ?_
  | with_reducible refine v_aug8 ?_
  | with_reducible refine v_var9 ?_
  | with_reducible refine s_name9 ?_
  | with_reducible refine v_aug9 ?_
  | with_reducible refine v_var10 ?_
  | with_reducible refine s_name10 ?_
  | with_reducible refine v_aug10 ?_
  | with_reducible refine v_var11 ?_
  | with_reducible refine s_name11 ?_
  | with_reducible refine v_aug11 ?_
  | with_reducible refine v_var12 ?_
  | with_reducible refine s_name12 ?_
  | with_reducible refine v_aug12 ?_
  | with_reducible refine v_var13 ?_
  | with_reducible refine s_name13 ?_
  | with_reducible refine v_aug13 ?_
  | with_reducible refine v_var14 ?_
  | with_reducible refine s_name14 ?_
  | with_reducible refine v_aug14 ?_
  | with_reducible refine v_var15 ?_
  | with_reducible refine s_name15 ?_
  | with_reducible refine v_aug15 ?_
  | with_reducible refine v_c ?_
  | with_reducible refine v_op ?_
  | with_reducible refine v_cons ?_
  | with_reducible refine v_nil ?_
  | with_reducible refine v_cb ?_
  | with_reducible refine v_call ?_
  | with_reducible refine c_test ?_
  | with_reducible refine c_bl ?_
  | with_reducible refine c_and ?_
  | with_reducible refine c_or ?_
  | with_reducible refine c_not ?_
  | with_reducible refine v_augS ?_
  | with_reducible refine v_sub ?_
  | with_reducible refine add_ii ?_
  | with_reducible refine sub_ii ?_
  | with_reducible refine iadd_ii ?_
  | with_reducible refine lt_ii ?_
  | with_reducible refine le_ii ?_
  | with_reducible refine gt_ii ?_
  | with_reducible refine ge_ii ?_
  | with_reducible refine eq_ii ?_
  | with_reducible refine ne_ii ?_
  | with_reducible refine int_i ?_
  | with_reducible refine abs_i ?_
  | with_reducible refine max_i ?_
  | with_reducible refine min_i ?_
  | with_reducible refine mul_r (by omega) (by omega) ?_
  | with_reducible refine mul_l (by omega) (by omega) ?_
  | with_reducible refine ix_m0 (by assumption) ?_
  | with_reducible refine get_m0 (by assumption) ?_
  | with_reducible refine ix_m1 (by assumption) ?_
  | with_reducible refine get_m1 (by assumption) ?_
  | with_reducible refine ix_m2 (by assumption) ?_
  | with_reducible refine get_m2 (by assumption) ?_
  | with_reducible refine ix_m3 (by assumption) ?_
  | with_reducible refine get_m3 (by assumption) ?_
  | with_reducible refine ix_m4 (by assumption) ?_
  | with_reducible refine get_m4 (by assumption) ?_
  | with_reducible refine ix_m5 (by assumption) ?_
  | with_reducible refine get_m5 (by assumption) ?_
  | (with_reducible refine st_set1 (by assumption) (by assumption) ?_; intro H1 hs1 kp1)
  | (with_reducible refine st_set2 (by assumption) (by assumption) ?_; intro H1 hs1 kp1)
  | (with_reducible refine st_set3 (by assumption) (by assumption) ?_; intro H1 hs1 kp1)
  | (with_reducible refine st_set4 (by assumption) (by assumption) ?_; intro H1 hs1 kp1)
  | (with_reducible refine st_set5 (by assumption) (by assumption) ?_; intro H1 hs1 kp1)
  | with_reducible refine len_m (by assumption) ?_
  | with_reducible refine s_for1 ?_
  | with_reducible refine s_forL ?_
  | with_reducible refine rng1 (by omega) (by omega) ?_
  | with_reducible refine s_next ?_
  | with_reducible refine s_break ?_
  | with_reducible refine s_cont ?_
  | with_reducible refine isi_non_bool ?_
  | with_reducible refine isi_non_int ?_
  | with_reducible refine isi_non_str ?_
  | with_reducible refine isi_non_list ?_
  | with_reducible refine isi_non_tuple ?_
  | with_reducible refine isi_non_dict ?_
  | with_reducible refine isi_non_seq (by assumption) ?_
  | with_reducible refine isi_bl_bool ?_
  | with_reducible refine isi_bl_int ?_
  | with_reducible refine isi_bl_str ?_
  | with_reducible refine isi_bl_list ?_
  | with_reducible refine isi_bl_tuple ?_
  | with_reducible refine isi_bl_dict ?_
  | with_reducible refine isi_bl_seq (by assumption) ?_
  | with_reducible refine isi_int_bool ?_
  | with_reducible refine isi_int_int ?_
  | with_reducible refine isi_int_str ?_
  | with_reducible refine isi_int_list ?_
  | with_reducible refine isi_int_tuple ?_
  | with_reducible refine isi_int_dict ?_
  | with_reducible refine isi_int_seq (by assumption) ?_
  | with_reducible refine isi_str_bool ?_
  | with_reducible refine isi_str_int ?_
  | with_reducible refine isi_str_str ?_
  | with_reducible refine isi_str_list ?_
  | with_reducible refine isi_str_tuple ?_
  | with_reducible refine isi_str_dict ?_
  | with_reducible refine isi_str_seq (by assumption) ?_
  | with_reducible refine isi_lst_bool (by assumption) (by assumption) ?_
  | with_reducible refine isi_lst_int (by assumption) (by assumption) ?_
  | with_reducible refine isi_lst_str (by assumption) (by assumption) ?_
  | with_reducible refine isi_lst_list (by assumption) (by assumption) ?_
  | with_reducible refine isi_lst_tuple (by assumption) (by assumption) ?_
  | with_reducible refine isi_lst_dict (by assumption) (by assumption) ?_
  | with_reducible refine isi_lst_seq (by assumption) (by assumption) (by assumption) ?_
  | with_reducible refine isi_tup_bool (by assumption) (by assumption) ?_
  | with_reducible refine isi_tup_int (by assumption) (by assumption) ?_
  | with_reducible refine isi_tup_str (by assumption) (by assumption) ?_
  | with_reducible refine isi_tup_list (by assumption) (by assumption) ?_
  | with_reducible refine isi_tup_tuple (by assumption) (by assumption) ?_
  | with_reducible refine isi_tup_dict (by assumption) (by assumption) ?_
  | with_reducible refine isi_tup_seq (by assumption) (by assumption) (by assumption) ?_
  | with_reducible refine isi_dK_bool (by assumption) (by assumption) ?_
  | with_reducible refine isi_dK_int (by assumption) (by assumption) ?_
  | with_reducible refine isi_dK_str (by assumption) (by assumption) ?_
  | with_reducible refine isi_dK_list (by assumption) (by assumption) ?_
  | with_reducible refine isi_dK_tuple (by assumption) (by assumption) ?_
  | with_reducible refine isi_dK_dict (by assumption) (by assumption) ?_
  | with_reducible refine isi_dK_seq (by assumption) (by assumption) (by assumption) ?_
  | with_reducible refine eq_bb ?_
  | with_reducible refine eq_ss ?_
  | with_reducible refine ev_isN ?_
  | with_reducible refine ev_tB ?_
  | with_reducible refine ev_and ?_
  | with_reducible refine ev_or ?_
  | with_reducible refine ev_not ?_
  | with_reducible refine c_tru ?_
  | with_reducible refine tru_bl ?_
  | with_reducible refine if_nt ?_
  | with_reducible refine if_nf ?_
  | with_reducible refine tup_new ?_
  | with_reducible refine lst_new ?_
  | with_reducible refine len_ms (by assumption) (by assumption) ?_
  | with_reducible refine len_ts (by assumption) (by assumption) ?_
  | ((with_reducible refine lit_len ?_ ?_); (focus (first | decide | (simp; done) | (simp; omega))))
  | (with_reducible refine new_st (by assumption) (by assumption) ?_; intro q1 H1 hq1 he1 hn1 kp1 hS1 sm1)
  | (with_reducible refine new_same (by assumption) ?_; intro q1 H1 hq1 he1 sm1 hs1)
  | with_reducible refine if_dT rfl ?_
  | ((with_reducible refine if_dF ?_ ?_); focus (intro z; cases z; done))
  | with_reducible refine if_t ?_
  | with_reducible refine if_f ?_
  | ((with_reducible refine c_take (by assumption) (by assumption) ?_ ?_); (focus omega); intro r1 H1 hS1 kp1 h01 h11)
  | with_reducible refine ev_chain ?_
  | ((with_reducible refine c_number (by assumption) (by assumption) ?_ ?_); (focus omega); intro r1 H1 hS1 kp1 h01 h11)
  | ((with_reducible refine c_pick (by assumption) (by assumption) (by assumption) (by assumption) ?_ ?_); (focus (simp; done)); intro r1 H1 hS1 kp1 kk1 h01)
  | with_reducible refine v_bm ?_
  | with_reducible refine v_sl ?_
  | with_reducible refine s_lc1 ?_
  | with_reducible refine s_lcL ?_
  | (with_reducible refine lc_kept ?_ rfl)
  | with_reducible refine c_yes ?_
  | with_reducible refine v_nopart ?_
  | with_reducible refine v_part ?_
  | with_reducible refine part_i ?_
  | with_reducible refine ty_l (by assumption) ?_)
local macro_rules | `(tactic| walk_at "go") => `(tactic| repeat' (first | walk_at "nw" | ((with_reducible refine if_d ?_ ?_) <;> intro c1) | ((with_reducible refine if_nd ?_ ?_) <;> intro c1)))
end NW
namespace NW
open PySem PySem.Spec PyProof.Rows L2
open C8 (tCut pss_cut)
local macro_rules | `(tactic| walk_at "nw") => `(tactic| first
  | with_reducible refine s_seq ?_
  | with_reducible refine s_asg ?_
  | with_reducible refine s_if ?_
  | with_reducible refine s_ret ?_
  | with_reducible refine s_drop ?_
  | with_reducible refine v_var0 ?_
  | with_reducible refine s_name0 ?_
  | with_reducible refine v_aug0 ?_
  | with_reducible refine v_var1 ?_
  | with_reducible refine s_name1 ?_
  | with_reducible refine v_aug1 ?_
  | with_reducible refine v_var2 ?_
  | with_reducible refine s_name2 ?_
  | with_reducible refine v_aug2 ?_
  | with_reducible refine v_var3 ?_
  | with_reducible refine s_name3 ?_
  | with_reducible refine v_aug3 ?_
  | with_reducible refine v_var4 ?_
  | with_reducible refine s_name4 ?_
  | with_reducible refine v_aug4 ?_
  | with_reducible refine v_var5 ?_
  | with_reducible refine s_name5 ?_
  | with_reducible refine v_aug5 ?_
  | with_reducible refine v_var6 ?_
  | with_reducible refine s_name6 ?_
  | with_reducible refine v_aug6 ?_
  | with_reducible refine v_var7 ?_
  | with_reducible refine s_name7 ?_
  | with_reducible refine v_aug7 ?_
  | with_reducible refine v_var8 ?_
  | with_reducible refine s_name8 ?_
  | with_reducible refine v_aug8 ?_
  | with_reducible refine v_var9 ?_
  | with_reducible refine s_name9 ?_
  | with_reducible refine v_aug9 ?_
  | with_reducible refine v_var10 ?_
  | with_reducible refine s_name10 ?_
  | with_reducible refine v_aug10 ?_
  | with_reducible refine v_var11 ?_
  | with_reducible refine s_name11 ?_
  | with_reducible refine v_aug11 ?_
  | with_reducible refine v_var12 ?_
  | with_reducible refine s_name12 ?_
  | with_reducible refine v_aug12 ?_
  | with_reducible refine v_var13 ?_
  | with_reducible refine s_name13 ?_
  | with_reducible refine v_aug13 ?_
  | with_reducible refine v_var14 ?_
  | with_reducible refine s_name14 ?_
  | with_reducible refine v_aug14 ?_
  | with_reducible refine v_var15 ?_
  | with_reducible refine s_name15 ?_
  | with_reducible refine v_aug15 ?_
  | with_reducible refine v_c ?_
  | with_reducible refine v_op ?_
  | with_reducible refine v_cons ?_
  | with_reducible refine v_nil ?_
  | with_reducible refine v_cb ?_
  | with_reducible refine v_call ?_
  | with_reducible refine c_test ?_
  | with_reducible refine c_bl ?_
  | with_reducible refine c_and ?_
  | with_reducible refine c_or ?_
  | with_reducible refine c_not ?_
  | with_reducible refine v_augS ?_
  | with_reducible refine v_sub ?_
  | with_reducible refine add_ii ?_
  | with_reducible refine sub_ii ?_
  | with_reducible refine iadd_ii ?_
  | with_reducible refine lt_ii ?_
  | with_reducible refine le_ii ?_
  | with_reducible refine gt_ii ?_
  | with_reducible refine ge_ii ?_
  | with_reducible refine eq_ii ?_
  | with_reducible refine ne_ii ?_
  | with_reducible refine int_i ?_
  | with_reducible refine abs_i ?_
  | with_reducible refine max_i ?_
  | with_reducible refine min_i ?_
  | with_reducible refine mul_r (by omega) (by omega) ?_
  | with_reducible refine mul_l (by omega) (by omega) ?_
  | with_reducible refine ix_m0 (by assumption) ?_
  | with_reducible refine get_m0 (by assumption) ?_
  | with_reducible refine ix_m1 (by assumption) ?_
  | with_reducible refine get_m1 (by assumption) ?_
  | with_reducible refine ix_m2 (by assumption) ?_
  | with_reducible refine get_m2 (by assumption) ?_
  | with_reducible refine ix_m3 (by assumption) ?_
  | with_reducible refine get_m3 (by assumption) ?_
  | with_reducible refine ix_m4 (by assumption) ?_
  | with_reducible refine get_m4 (by assumption) ?_
  | with_reducible refine ix_m5 (by assumption) ?_
  | with_reducible refine get_m5 (by assumption) ?_
  | (with_reducible refine st_set1 (by assumption) (by assumption) ?_; intro H1 hs1 kp1)
  | (with_reducible refine st_set2 (by assumption) (by assumption) ?_; intro H1 hs1 kp1)
  | (with_reducible refine st_set3 (by assumption) (by assumption) ?_; intro H1 hs1 kp1)
  | (with_reducible refine st_set4 (by assumption) (by assumption) ?_; intro H1 hs1 kp1)
  | (with_reducible refine st_set5 (by assumption) (by assumption) ?_; intro H1 hs1 kp1)
  | with_reducible refine len_m (by assumption) ?_
  | with_reducible refine s_for1 ?_
  | with_reducible refine s_forL ?_
  | with_reducible refine rng1 (by omega) (by omega) ?_
  | with_reducible refine s_next ?_
  | with_reducible refine s_break ?_
  | with_reducible refine s_cont ?_
  | with_reducible refine isi_non_bool ?_
  | with_reducible refine isi_non_int ?_
  | with_reducible refine isi_non_str ?_
  | with_reducible refine isi_non_list ?_
  | with_reducible refine isi_non_tuple ?_
  | with_reducible refine isi_non_dict ?_
  | with_reducible refine isi_non_seq (by assumption) ?_
  | with_reducible refine isi_bl_bool ?_
  | with_reducible refine isi_bl_int ?_
  | with_reducible refine isi_bl_str ?_
  | with_reducible refine isi_bl_list ?_
  | with_reducible refine isi_bl_tuple ?_
  | with_reducible refine isi_bl_dict ?_
  | with_reducible refine isi_bl_seq (by assumption) ?_
  | with_reducible refine isi_int_bool ?_
  | with_reducible refine isi_int_int ?_
  | with_reducible refine isi_int_str ?_
  | with_reducible refine isi_int_list ?_
  | with_reducible refine isi_int_tuple ?_
  | with_reducible refine isi_int_dict ?_
  | with_reducible refine isi_int_seq (by assumption) ?_
  | with_reducible refine isi_str_bool ?_
  | with_reducible refine isi_str_int ?_
  | with_reducible refine isi_str_str ?_
  | with_reducible refine isi_str_list ?_
  | with_reducible refine isi_str_tuple ?_
  | with_reducible refine isi_str_dict ?_
  | with_reducible refine isi_str_seq (by assumption) ?_
  | with_reducible refine isi_lst_bool (by assumption) (by assumption) ?_
  | with_reducible refine isi_lst_int (by assumption) (by assumption) ?_
  | with_reducible refine isi_lst_str (by assumption) (by assumption) ?_
  | with_reducible refine isi_lst_list (by assumption) (by assumption) ?_
  | with_reducible refine isi_lst_tuple (by assumption) (by assumption) ?_
  | with_reducible refine isi_lst_dict (by assumption) (by assumption) ?_
  | with_reducible refine isi_lst_seq (by assumption) (by assumption) (by assumption) ?_
  | with_reducible refine isi_tup_bool (by assumption) (by assumption) ?_
  | with_reducible refine isi_tup_int (by assumption) (by assumption) ?_
  | with_reducible refine isi_tup_str (by assumption) (by assumption) ?_
  | with_reducible refine isi_tup_list (by assumption) (by assumption) ?_
  | with_reducible refine isi_tup_tuple (by assumption) (by assumption) ?_
  | with_reducible refine isi_tup_dict (by assumption) (by assumption) ?_
  | with_reducible refine isi_tup_seq (by assumption) (by assumption) (by assumption) ?_
  | with_reducible refine isi_dK_bool (by assumption) (by assumption) ?_
  | with_reducible refine isi_dK_int (by assumption) (by assumption) ?_
  | with_reducible refine isi_dK_str (by assumption) (by assumption) ?_
  | with_reducible refine isi_dK_list (by assumption) (by assumption) ?_
  | with_reducible refine isi_dK_tuple (by assumption) (by assumption) ?_
  | with_reducible refine isi_dK_dict (by assumption) (by assumption) ?_
  | with_reducible refine isi_dK_seq (by assumption) (by assumption) (by assumption) ?_
  | with_reducible refine eq_bb ?_
  | with_reducible refine eq_ss ?_
  | with_reducible refine ev_isN ?_
  | with_reducible refine ev_tB ?_
  | with_reducible refine ev_and ?_
  | with_reducible refine ev_or ?_
  | with_reducible refine ev_not ?_
  | with_reducible refine c_tru ?_
  | with_reducible refine tru_bl ?_
  | with_reducible refine if_nt ?_
  | with_reducible refine if_nf ?_
  | with_reducible refine tup_new ?_
  | with_reducible refine lst_new ?_
  | with_reducible refine len_ms (by assumption) (by assumption) ?_
  | with_reducible refine len_ts (by assumption) (by assumption) ?_
  | ((with_reducible refine lit_len ?_ ?_); (focus (first | decide | (simp; done) | (simp; omega))))
  | (with_reducible refine new_st (by assumption) (by assumption) ?_; intro q1 H1 hq1 he1 hn1 kp1 hS1 sm1)
  | (with_reducible refine new_same (by assumption) ?_; intro q1 H1 hq1 he1 sm1 hs1)
  | with_reducible refine if_dT rfl ?_
  | ((with_reducible refine if_dF ?_ ?_); focus (intro z; cases z; done))
  | with_reducible refine if_t ?_
  | with_reducible refine if_f ?_
  | ((with_reducible refine c_take (by assumption) (by assumption) ?_ ?_); (focus omega); intro r1 H1 hS1 kp1 h01 h11)
  | with_reducible refine ev_chain ?_
  | ((with_reducible refine c_number (by assumption) (by assumption) ?_ ?_); (focus omega); intro r1 H1 hS1 kp1 h01 h11)
  | ((with_reducible refine c_pick (by assumption) (by assumption) (by assumption) (by assumption) ?_ ?_); (focus (simp; done)); intro r1 H1 hS1 kp1 kk1 h01)
  | with_reducible refine v_bm ?_
  | with_reducible refine v_sl ?_
  | with_reducible refine s_lc1 ?_
  | with_reducible refine s_lcL ?_
  | (with_reducible refine lc_kept ?_ rfl)
  | with_reducible refine c_yes ?_
  | with_reducible refine v_nopart ?_
  | with_reducible refine v_part ?_
  | with_reducible refine part_i ?_
  | with_reducible refine ty_l (by assumption) ?_)
local macro_rules | `(tactic| walk_at "go") => `(tactic| repeat' (first | walk_at "nw" | ((with_reducible refine if_d ?_ ?_) <;> intro c1) | ((with_reducible refine if_nd ?_ ?_) <;> intro c1)))
end NW
namespace NW
open PySem PySem.Spec PyProof.Rows L2
open C8 (tCut pss_cut)
theorem tkNone {X : Cx} : L2N.Takes X (fun _ _ _ _ => False) := fun _ _ x => by
  obtain ⟨_, _, _, _, _, _, _, _, _, _, _, _, _, _, _, _, z⟩ := x
  exact z.elim
def tXfE (K : PySem.W.Frag) (a : Addr) (cls : Value) (d : Option Addr) (f : Str) (te : TE) : TE := fun σ H Q => ∃ C : Addr, cls = .ref C ∧ XfC K C ∧ PySem.W.findIn K (.ref C) f = some none ∧ tXf a cls d C f te σ H Q
theorem pe_xfE {X : Cx} {a : Addr} {oe : Obj} {cls : Value} {d : Option Addr} {pn : List (Addr × Obj)} {e : Expr} {te : TE} {pos : Pos} {n : Str} (hz : L2N.Zn cls d oe) (hf : ∃ vs, oe.data = .fields vs)
    (he : PE (X.suite a ((a, oe) :: pn)) e te) (hb : attributeBase e n X.env (eval e X.env) = eval e X.env := by rfl) : PE (X.suite a ((a, oe) :: pn)) (.Attribute e n pos) (tXfE X.K a cls d n te) := by
  refine ⟨fun pins s σ H Q I hh => ?_⟩
  obtain ⟨C, ec, T, hno, hq⟩ := hh
  exact (pe_xf T hno hz.zc hf he hb).run pins s σ H Q I hq
section
variable {K : PySem.W.Frag} {a C : Addr} {d : Option Addr} {te : TE} {σ : L2.St} {H : Hp} {Q : VK} {b : Str → Bool} {n : Str} {cls : Value}
theorem c_xf (T : XfC K C) (hno : PySem.W.findIn K (.ref C) n = some none) (h : te σ H fun x H1 => x = .ref a ∧ ∃ (dd : Addr) (fs : List (Str × V)) (v : V), d = some dd ∧ H1 dd = some (.xd fs) ∧ fs.lookup n = some v ∧ Q v H1) (hv : ∃ i, te = tVar i) : tXfE K a (.ref C) d n te σ H Q := by
  refine ⟨C, rfl, T, hno, ?_⟩
  obtain ⟨i, rfl⟩ := hv
  obtain ⟨v, e, e1, h1⟩ := h
  subst e1
  exact ⟨_, e, rfl, rfl, h1⟩
end
def dV : V → DT
  | .int i => .int i
  | .bl b => .bl b
  | .str s => .str s
  | _ => .non
end NW
namespace NW
open PySem PySem.Spec PyProof.Rows L2
open C8 (tCut pss_cut)
local macro_rules | `(tactic| walk_at "nw") => `(tactic| first
  | with_reducible refine s_seq ?_
  | with_reducible refine s_asg ?_
  | with_reducible refine s_if ?_
  | with_reducible refine s_ret ?_
  | with_reducible refine s_drop ?_
  | with_reducible refine v_var0 ?_
  | with_reducible refine s_name0 ?_
  | with_reducible refine v_aug0 ?_
  | with_reducible refine v_var1 ?_
  | with_reducible refine s_name1 ?_
  | with_reducible refine v_aug1 ?_
  | with_reducible refine v_var2 ?_
  | with_reducible refine s_name2 ?_
  | with_reducible refine v_aug2 ?_
  | with_reducible refine v_var3 ?_
  | with_reducible refine s_name3 ?_
  | with_reducible refine v_aug3 ?_
  | with_reducible refine v_var4 ?_
  | with_reducible refine s_name4 ?_
  | with_reducible refine v_aug4 ?_
  | with_reducible refine v_var5 ?_
  | with_reducible refine s_name5 ?_
  | with_reducible refine v_aug5 ?_
  | with_reducible refine v_var6 ?_
  | with_reducible refine s_name6 ?_
  | with_reducible refine v_aug6 ?_
  | with_reducible refine v_var7 ?_
  | with_reducible refine s_name7 ?_
  | with_reducible refine v_aug7 ?_
  | with_reducible refine v_var8 ?_
  | with_reducible refine s_name8 ?_
  | with_reducible refine v_aug8 ?_
  | with_reducible refine v_var9 ?_
  | with_reducible refine s_name9 ?_
  | with_reducible refine v_aug9 ?_
  | with_reducible refine v_var10 ?_
  | with_reducible refine s_name10 ?_
  | with_reducible refine v_aug10 ?_
  | with_reducible refine v_var11 ?_
  | with_reducible refine s_name11 ?_
  | with_reducible refine v_aug11 ?_
  | with_reducible refine v_var12 ?_
  | with_reducible refine s_name12 ?_
  | with_reducible refine v_aug12 ?_
  | with_reducible refine v_var13 ?_
  | with_reducible refine s_name13 ?_
  | with_reducible refine v_aug13 ?_
  | with_reducible refine v_var14 ?_
  | with_reducible refine s_name14 ?_
  | with_reducible refine v_aug14 ?_
  | with_reducible refine v_var15 ?_
  | with_reducible refine s_name15 ?_
  | with_reducible refine v_aug15 ?_
  | with_reducible refine v_c ?_
  | with_reducible refine v_op ?_
  | with_reducible refine v_cons ?_
  | with_reducible refine v_nil ?_
  | with_reducible refine v_cb ?_
  | with_reducible refine v_call ?_
  | with_reducible refine c_test ?_
  | with_reducible refine c_bl ?_
  | with_reducible refine c_and ?_
  | with_reducible refine c_or ?_
  | with_reducible refine c_not ?_
  | with_reducible refine v_augS ?_
  | with_reducible refine v_sub ?_
  | with_reducible refine add_ii ?_
  | with_reducible refine sub_ii ?_
  | with_reducible refine iadd_ii ?_
  | with_reducible refine lt_ii ?_
  | with_reducible refine le_ii ?_
  | with_reducible refine gt_ii ?_
  | with_reducible refine ge_ii ?_
  | with_reducible refine eq_ii ?_
  | with_reducible refine ne_ii ?_
  | with_reducible refine int_i ?_
  | with_reducible refine abs_i ?_
  | with_reducible refine max_i ?_
  | with_reducible refine min_i ?_
  | with_reducible refine mul_r (by omega) (by omega) ?_
  | with_reducible refine mul_l (by omega) (by omega) ?_
  | with_reducible refine ix_m0 (by assumption) ?_
  | with_reducible refine get_m0 (by assumption) ?_
  | with_reducible refine ix_m1 (by assumption) ?_
  | with_reducible refine get_m1 (by assumption) ?_
  | with_reducible refine ix_m2 (by assumption) ?_
  | with_reducible refine get_m2 (by assumption) ?_
  | with_reducible refine ix_m3 (by assumption) ?_
  | with_reducible refine get_m3 (by assumption) ?_
  | with_reducible refine ix_m4 (by assumption) ?_
  | with_reducible refine get_m4 (by assumption) ?_
  | with_reducible refine ix_m5 (by assumption) ?_
  | with_reducible refine get_m5 (by assumption) ?_
  | (with_reducible refine st_set1 (by assumption) (by assumption) ?_; intro H1 hs1 kp1)
  | (with_reducible refine st_set2 (by assumption) (by assumption) ?_; intro H1 hs1 kp1)
  | (with_reducible refine st_set3 (by assumption) (by assumption) ?_; intro H1 hs1 kp1)
  | (with_reducible refine st_set4 (by assumption) (by assumption) ?_; intro H1 hs1 kp1)
  | (with_reducible refine st_set5 (by assumption) (by assumption) ?_; intro H1 hs1 kp1)
  | with_reducible refine len_m (by assumption) ?_
  | with_reducible refine s_for1 ?_
  | with_reducible refine s_forL ?_
  | with_reducible refine rng1 (by omega) (by omega) ?_
  | with_reducible refine s_next ?_
  | with_reducible refine s_break ?_
  | with_reducible refine s_cont ?_
  | with_reducible refine isi_non_bool ?_
  | with_reducible refine isi_non_int ?_
  | with_reducible refine isi_non_str ?_
  | with_reducible refine isi_non_list ?_
  | with_reducible refine isi_non_tuple ?_
  | with_reducible refine isi_non_dict ?_
  | with_reducible refine isi_non_seq (by assumption) ?_
  | with_reducible refine isi_bl_bool ?_
  | with_reducible refine isi_bl_int ?_
  | with_reducible refine isi_bl_str ?_
  | with_reducible refine isi_bl_list ?_
  | with_reducible refine isi_bl_tuple ?_
  | with_reducible refine isi_bl_dict ?_
  | with_reducible refine isi_bl_seq (by assumption) ?_
  | with_reducible refine isi_int_bool ?_
  | with_reducible refine isi_int_int ?_
  | with_reducible refine isi_int_str ?_
  | with_reducible refine isi_int_list ?_
  | with_reducible refine isi_int_tuple ?_
  | with_reducible refine isi_int_dict ?_
  | with_reducible refine isi_int_seq (by assumption) ?_
  | with_reducible refine isi_str_bool ?_
  | with_reducible refine isi_str_int ?_
  | with_reducible refine isi_str_str ?_
  | with_reducible refine isi_str_list ?_
  | with_reducible refine isi_str_tuple ?_
  | with_reducible refine isi_str_dict ?_
  | with_reducible refine isi_str_seq (by assumption) ?_
  | with_reducible refine isi_lst_bool (by assumption) (by assumption) ?_
  | with_reducible refine isi_lst_int (by assumption) (by assumption) ?_
  | with_reducible refine isi_lst_str (by assumption) (by assumption) ?_
  | with_reducible refine isi_lst_list (by assumption) (by assumption) ?_
  | with_reducible refine isi_lst_tuple (by assumption) (by assumption) ?_
  | with_reducible refine isi_lst_dict (by assumption) (by assumption) ?_
  | with_reducible refine isi_lst_seq (by assumption) (by assumption) (by assumption) ?_
  | with_reducible refine isi_tup_bool (by assumption) (by assumption) ?_
  | with_reducible refine isi_tup_int (by assumption) (by assumption) ?_
  | with_reducible refine isi_tup_str (by assumption) (by assumption) ?_
  | with_reducible refine isi_tup_list (by assumption) (by assumption) ?_
  | with_reducible refine isi_tup_tuple (by assumption) (by assumption) ?_
  | with_reducible refine isi_tup_dict (by assumption) (by assumption) ?_
  | with_reducible refine isi_tup_seq (by assumption) (by assumption) (by assumption) ?_
  | with_reducible refine isi_dK_bool (by assumption) (by assumption) ?_
  | with_reducible refine isi_dK_int (by assumption) (by assumption) ?_
  | with_reducible refine isi_dK_str (by assumption) (by assumption) ?_
  | with_reducible refine isi_dK_list (by assumption) (by assumption) ?_
  | with_reducible refine isi_dK_tuple (by assumption) (by assumption) ?_
  | with_reducible refine isi_dK_dict (by assumption) (by assumption) ?_
  | with_reducible refine isi_dK_seq (by assumption) (by assumption) (by assumption) ?_
  | with_reducible refine eq_bb ?_
  | with_reducible refine eq_ss ?_
  | with_reducible refine ev_isN ?_
  | with_reducible refine ev_tB ?_
  | with_reducible refine ev_and ?_
  | with_reducible refine ev_or ?_
  | with_reducible refine ev_not ?_
  | with_reducible refine c_tru ?_
  | with_reducible refine tru_bl ?_
  | with_reducible refine if_nt ?_
  | with_reducible refine if_nf ?_
  | with_reducible refine tup_new ?_
  | with_reducible refine lst_new ?_
  | with_reducible refine len_ms (by assumption) (by assumption) ?_
  | with_reducible refine len_ts (by assumption) (by assumption) ?_
  | ((with_reducible refine lit_len ?_ ?_); (focus (first | decide | (simp; done) | (simp; omega))))
  | (with_reducible refine new_st (by assumption) (by assumption) ?_; intro q1 H1 hq1 he1 hn1 kp1 hS1 sm1)
  | (with_reducible refine new_same (by assumption) ?_; intro q1 H1 hq1 he1 sm1 hs1)
  | with_reducible refine if_dT rfl ?_
  | ((with_reducible refine if_dF ?_ ?_); focus (intro z; cases z; done))
  | with_reducible refine if_t ?_
  | with_reducible refine if_f ?_
  | ((with_reducible refine c_take (by assumption) (by assumption) ?_ ?_); (focus omega); intro r1 H1 hS1 kp1 h01 h11)
  | with_reducible refine ev_chain ?_
  | ((with_reducible refine c_number (by assumption) (by assumption) ?_ ?_); (focus omega); intro r1 H1 hS1 kp1 h01 h11)
  | ((with_reducible refine c_pick (by assumption) (by assumption) (by assumption) (by assumption) ?_ ?_); (focus (simp; done)); intro r1 H1 hS1 kp1 kk1 h01)
  | with_reducible refine v_bm ?_
  | with_reducible refine v_sl ?_
  | with_reducible refine s_lc1 ?_
  | with_reducible refine s_lcL ?_
  | (with_reducible refine lc_kept ?_ rfl)
  | with_reducible refine c_yes ?_
  | with_reducible refine v_nopart ?_
  | with_reducible refine v_part ?_
  | with_reducible refine part_i ?_
  | with_reducible refine ty_l (by assumption) ?_)
local macro_rules | `(tactic| walk_at "go") => `(tactic| repeat' (first | walk_at "nw" | ((with_reducible refine if_d ?_ ?_) <;> intro c1) | ((with_reducible refine if_nd ?_ ?_) <;> intro c1)))
end NW
namespace NW
open PySem PySem.Spec PyProof.Rows L2
open C8 (tCut pss_cut)
local macro_rules | `(tactic| walk_at "nw") => `(tactic| first
  | with_reducible refine s_seq ?_
  | with_reducible refine s_asg ?_
  | with_reducible refine s_if ?_
  | with_reducible refine s_ret ?_
  | with_reducible refine s_drop ?_
  | with_reducible refine v_var0 ?_
  | with_reducible refine s_name0 ?_
  | with_reducible refine v_aug0 ?_
  | with_reducible refine v_var1 ?_
  | with_reducible refine s_name1 ?_
  | with_reducible refine v_aug1 ?_
  | with_reducible refine v_var2 ?_
  | with_reducible refine s_name2 ?_
  | with_reducible refine v_aug2 ?_
  | with_reducible refine v_var3 ?_
  | with_reducible refine s_name3 ?_
  | with_reducible refine v_aug3 ?_
  | with_reducible refine v_var4 ?_
  | with_reducible refine s_name4 ?_
  | with_reducible refine v_aug4 ?_
  | with_reducible refine v_var5 ?_
  | with_reducible refine s_name5 ?_
  | with_reducible refine v_aug5 ?_
  | with_reducible refine v_var6 ?_
  | with_reducible refine s_name6 ?_
  | with_reducible refine v_aug6 ?_
  | with_reducible refine v_var7 ?_
  | with_reducible refine s_name7 ?_
  | with_reducible refine v_aug7 ?_
  | with_reducible refine v_var8 ?_
  | with_reducible refine s_name8 ?_
  | with_reducible refine v_aug8 ?_
  | with_reducible refine v_var9 ?_
  | with_reducible refine s_name9 ?_
  | with_reducible refine v_aug9 ?_
  | with_reducible refine v_var10 ?_
  | with_reducible refine s_name10 ?_
  | with_reducible refine v_aug10 ?_
  | with_reducible refine v_var11 ?_
  | with_reducible refine s_name11 ?_
  | with_reducible refine v_aug11 ?_
  | with_reducible refine v_var12 ?_
  | with_reducible refine s_name12 ?_
  | with_reducible refine v_aug12 ?_
  | with_reducible refine v_var13 ?_
  | with_reducible refine s_name13 ?_
  | with_reducible refine v_aug13 ?_
  | with_reducible refine v_var14 ?_
  | with_reducible refine s_name14 ?_
  | with_reducible refine v_aug14 ?_
  | with_reducible refine v_var15 ?_
  | with_reducible refine s_name15 ?_
  | with_reducible refine v_aug15 ?_
  | with_reducible refine v_c ?_
  | with_reducible refine v_op ?_
  | with_reducible refine v_cons ?_
  | with_reducible refine v_nil ?_
  | with_reducible refine v_cb ?_
  | with_reducible refine v_call ?_
  | with_reducible refine c_test ?_
  | with_reducible refine c_bl ?_
  | with_reducible refine c_and ?_
  | with_reducible refine c_or ?_
  | with_reducible refine c_not ?_
  | with_reducible refine v_augS ?_
  | with_reducible refine v_sub ?_
  | with_reducible refine add_ii ?_
  | with_reducible refine sub_ii ?_
  | with_reducible refine iadd_ii ?_
  | with_reducible refine lt_ii ?_
  | with_reducible refine le_ii ?_
  | with_reducible refine gt_ii ?_
  | with_reducible refine ge_ii ?_
  | with_reducible refine eq_ii ?_
  | with_reducible refine ne_ii ?_
  | with_reducible refine int_i ?_
  | with_reducible refine abs_i ?_
  | with_reducible refine max_i ?_
  | with_reducible refine min_i ?_
  | with_reducible refine mul_r (by omega) (by omega) ?_
  | with_reducible refine mul_l (by omega) (by omega) ?_
  | with_reducible refine ix_m0 (by assumption) ?_
  | with_reducible refine get_m0 (by assumption) ?_
  | with_reducible refine ix_m1 (by assumption) ?_
  | with_reducible refine get_m1 (by assumption) ?_
  | with_reducible refine ix_m2 (by assumption) ?_
  | with_reducible refine get_m2 (by assumption) ?_
  | with_reducible refine ix_m3 (by assumption) ?_
  | with_reducible refine get_m3 (by assumption) ?_
  | with_reducible refine ix_m4 (by assumption) ?_
  | with_reducible refine get_m4 (by assumption) ?_
  | with_reducible refine ix_m5 (by assumption) ?_
  | with_reducible refine get_m5 (by assumption) ?_
  | (with_reducible refine st_set1 (by assumption) (by assumption) ?_; intro H1 hs1 kp1)
  | (with_reducible refine st_set2 (by assumption) (by assumption) ?_; intro H1 hs1 kp1)
  | (with_reducible refine st_set3 (by assumption) (by assumption) ?_; intro H1 hs1 kp1)
  | (with_reducible refine st_set4 (by assumption) (by assumption) ?_; intro H1 hs1 kp1)
  | (with_reducible refine st_set5 (by assumption) (by assumption) ?_; intro H1 hs1 kp1)
  | with_reducible refine len_m (by assumption) ?_
  | with_reducible refine s_for1 ?_
  | with_reducible refine s_forL ?_
  | with_reducible refine rng1 (by omega) (by omega) ?_
  | with_reducible refine s_next ?_
  | with_reducible refine s_break ?_
  | with_reducible refine s_cont ?_
  | with_reducible refine isi_non_bool ?_
  | with_reducible refine isi_non_int ?_
  | with_reducible refine isi_non_str ?_
  | with_reducible refine isi_non_list ?_
  | with_reducible refine isi_non_tuple ?_
  | with_reducible refine isi_non_dict ?_
  | with_reducible refine isi_non_seq (by assumption) ?_
  | with_reducible refine isi_bl_bool ?_
  | with_reducible refine isi_bl_int ?_
  | with_reducible refine isi_bl_str ?_
  | with_reducible refine isi_bl_list ?_
  | with_reducible refine isi_bl_tuple ?_
  | with_reducible refine isi_bl_dict ?_
  | with_reducible refine isi_bl_seq (by assumption) ?_
  | with_reducible refine isi_int_bool ?_
  | with_reducible refine isi_int_int ?_
  | with_reducible refine isi_int_str ?_
  | with_reducible refine isi_int_list ?_
  | with_reducible refine isi_int_tuple ?_
  | with_reducible refine isi_int_dict ?_
  | with_reducible refine isi_int_seq (by assumption) ?_
  | with_reducible refine isi_str_bool ?_
  | with_reducible refine isi_str_int ?_
  | with_reducible refine isi_str_str ?_
  | with_reducible refine isi_str_list ?_
  | with_reducible refine isi_str_tuple ?_
  | with_reducible refine isi_str_dict ?_
  | with_reducible refine isi_str_seq (by assumption) ?_
  | with_reducible refine isi_lst_bool (by assumption) (by assumption) ?_
  | with_reducible refine isi_lst_int (by assumption) (by assumption) ?_
  | with_reducible refine isi_lst_str (by assumption) (by assumption) ?_
  | with_reducible refine isi_lst_list (by assumption) (by assumption) ?_
  | with_reducible refine isi_lst_tuple (by assumption) (by assumption) ?_
  | with_reducible refine isi_lst_dict (by assumption) (by assumption) ?_
  | with_reducible refine isi_lst_seq (by assumption) (by assumption) (by assumption) ?_
  | with_reducible refine isi_tup_bool (by assumption) (by assumption) ?_
  | with_reducible refine isi_tup_int (by assumption) (by assumption) ?_
  | with_reducible refine isi_tup_str (by assumption) (by assumption) ?_
  | with_reducible refine isi_tup_list (by assumption) (by assumption) ?_
  | with_reducible refine isi_tup_tuple (by assumption) (by assumption) ?_
  | with_reducible refine isi_tup_dict (by assumption) (by assumption) ?_
  | with_reducible refine isi_tup_seq (by assumption) (by assumption) (by assumption) ?_
  | with_reducible refine isi_dK_bool (by assumption) (by assumption) ?_
  | with_reducible refine isi_dK_int (by assumption) (by assumption) ?_
  | with_reducible refine isi_dK_str (by assumption) (by assumption) ?_
  | with_reducible refine isi_dK_list (by assumption) (by assumption) ?_
  | with_reducible refine isi_dK_tuple (by assumption) (by assumption) ?_
  | with_reducible refine isi_dK_dict (by assumption) (by assumption) ?_
  | with_reducible refine isi_dK_seq (by assumption) (by assumption) (by assumption) ?_
  | with_reducible refine eq_bb ?_
  | with_reducible refine eq_ss ?_
  | with_reducible refine ev_isN ?_
  | with_reducible refine ev_tB ?_
  | with_reducible refine ev_and ?_
  | with_reducible refine ev_or ?_
  | with_reducible refine ev_not ?_
  | with_reducible refine c_tru ?_
  | with_reducible refine tru_bl ?_
  | with_reducible refine if_nt ?_
  | with_reducible refine if_nf ?_
  | with_reducible refine tup_new ?_
  | with_reducible refine lst_new ?_
  | with_reducible refine len_ms (by assumption) (by assumption) ?_
  | with_reducible refine len_ts (by assumption) (by assumption) ?_
  | ((with_reducible refine lit_len ?_ ?_); (focus (first | decide | (simp; done) | (simp; omega))))
  | (with_reducible refine new_st (by assumption) (by assumption) ?_; intro q1 H1 hq1 he1 hn1 kp1 hS1 sm1)
  | (with_reducible refine new_same (by assumption) ?_; intro q1 H1 hq1 he1 sm1 hs1)
  | with_reducible refine if_dT rfl ?_
  | ((with_reducible refine if_dF ?_ ?_); focus (intro z; cases z; done))
  | with_reducible refine if_t ?_
  | with_reducible refine if_f ?_
  | ((with_reducible refine c_take (by assumption) (by assumption) ?_ ?_); (focus omega); intro r1 H1 hS1 kp1 h01 h11)
  | with_reducible refine ev_chain ?_
  | ((with_reducible refine c_number (by assumption) (by assumption) ?_ ?_); (focus omega); intro r1 H1 hS1 kp1 h01 h11)
  | ((with_reducible refine c_pick (by assumption) (by assumption) (by assumption) (by assumption) ?_ ?_); (focus (simp; done)); intro r1 H1 hS1 kp1 kk1 h01)
  | with_reducible refine v_bm ?_
  | with_reducible refine v_sl ?_
  | with_reducible refine s_lc1 ?_
  | with_reducible refine s_lcL ?_
  | (with_reducible refine lc_kept ?_ rfl)
  | with_reducible refine c_yes ?_
  | with_reducible refine v_nopart ?_
  | with_reducible refine v_part ?_
  | with_reducible refine part_i ?_
  | with_reducible refine ty_l (by assumption) ?_)
local macro_rules | `(tactic| walk_at "go") => `(tactic| repeat' (first | walk_at "nw" | ((with_reducible refine if_d ?_ ?_) <;> intro c1) | ((with_reducible refine if_nd ?_ ?_) <;> intro c1)))
end NW
namespace NW
open PySem PySem.Spec PyProof.Rows L2
section
variable {K : PySem.W.Frag} {C : Addr} {b : Str → Bool}
theorem oexK_ok (q : oexK K C = true) : ∃ nm q N bs bm sn sub ab col dd k0 k1 k2 k3 k5, K.lookup C = some (excClassObj nm q C N bs bm true sn sub ab col dd k0 k1 k2 k3 k5 "ValueError.__new__") ∧ PySem.HandSPX.refsVE bm = true := by
  unfold oexK at q
  split at q
  · rename_i dd cd sl ho
    split at q
    · rename_i C' bm k0 k1 k2 k3 n k5 hm hs
      simp only [Bool.and_eq_true, beq_iff_eq, Bool.not_eq_true'] at q
      obtain ⟨⟨⟨⟨rfl, rfl⟩, hdel⟩, hdi⟩, ht⟩ := q
      obtain ⟨nm, bs, mro, ns, qn, hd, sn, sub, ab, col, del⟩ := cd
      dsimp only at hm hdel hdi
      subst hm hdel hdi
      have hsl : sl = #[k0, k1, k2, k3, some (.builtin "ValueError.__new__"), k5] := by
        obtain ⟨l⟩ := sl
        simp only at hs
        rw [hs]
      subst hsl
      exact ⟨nm, qn, ns, bs, bm, sn, sub, ab, col, dd, k0, k1, k2, k3, k5, ho, ht⟩
    · cases q
  · cases q
theorem oexB_ok (h : oexB K C = true) : OexC K C := by
  obtain ⟨h1, h⟩ := He.ba h
  obtain ⟨h2, h⟩ := He.ba h
  obtain ⟨h3, h⟩ := He.ba h
  obtain ⟨h4, h5⟩ := He.ba h
  exact ⟨oexK_ok h1, He.eqO_ok h2, of_decide_eq_true h3, of_decide_eq_true h4, h5⟩
theorem excCB_ok (h : excCB K C = true) : ExcC K C := by
  obtain ⟨h1, h⟩ := He.ba h
  obtain ⟨h2, h⟩ := He.ba h
  obtain ⟨h3, h⟩ := He.ba h
  obtain ⟨h4, h⟩ := He.ba h
  obtain ⟨h5, h⟩ := He.ba h
  obtain ⟨h6, h⟩ := He.ba h
  obtain ⟨h7, h8⟩ := He.ba h
  exact ⟨He.eqO_ok h1, He.eqO_ok h2, of_decide_eq_true h3, h4, He.eqO_ok h5, He.eqO_ok h6, of_decide_eq_true h7, of_decide_eq_true h8⟩
theorem err1_ok {x fl q : Str} {params : Arguments} {body : List Stmt} {scope : Scope} (h : oexB K (He.ga K x) = true) (hi : iniB K (He.ga K x) = true) (hn : He.eqO (PySem.W.findIn K (.ref (He.ga K x)) fl) (some none) = true)
    (hd : ∃ fd, FunD K "__init__" q params body scope [] [] (He.ma K (He.ga K x) "__init__") fd) : Err1 K (He.ga K x) q fl params body scope := by
  obtain ⟨h1, h2⟩ := He.ba hi
  obtain ⟨fd, F⟩ := hd
  exact ⟨oexB_ok h, He.eqO_ok hn, He.ma K (He.ga K x) "__init__", fd, He.eqO_ok h1, of_decide_eq_true h2, F⟩
end
/-- the law: nothing is let out -/
theorem law_of {P : Program} {w : World} {K : PySem.W.Frag} {mg : Str → Option Value} {base : Heap} {x : Str} {params : Arguments} {body : List Stmt} {scope : Scope} {f : Addr} {fd : FuncData} {N ps : List Str} {k : Nat} {sp : Sp} {t : TS} (F : FunD K x x params body scope [] [] f fd) (S : FnScope N ps scope) (len : ∀ vs H Q E, sp vs H Q E → vs.length = ps.length)
    (d : ∀ (cdv : Value) (A : Around) (outer : List Env) (s : Shared) (H : Hp) (E : XK), Room k (A.deeper (envOfC x scope s.heap.objs.size f cdv)) → PSs (cxOf CX0 P w K mg base N x scope f cdv A outer s H E).nox body t)
    (pure_ : ∀ vs H Q E, sp vs H Q E → t { nx := fun _ H' => Q .non H', rt := Q } (start N vs) H) : FnOk P w K mg base CX0 (k + 1) f fd ps sp :=
  F.ok S len fun cdv A outer s H vs Q E hr h => ⟨t, PSs.nox (d cdv A outer s H E hr), pure_ vs H Q E h⟩
theorem ref_inj {a b : Addr} (h : some (Value.ref a) = some (Value.ref b)) : a = b := by
  cases h
  rfl
theorem okAt {l : List Bool} (h : l.all id = true) (i : Nat) {b : Bool} (e : l[i]? = some b := by rfl) : b = true := List.all_eq_true.mp h b (List.mem_of_getElem? e)
end NW
namespace NW
open PySem PySem.Spec PyProof.Rows L2 PySem.W PySem.W.KIN
end NW
namespace NW
open PySem PySem.Spec PyProof.Rows L2 RT
end NW
namespace NW
open PySem PySem.Spec PyProof.Rows L2
def rMulS : R2 := fun x y H Q => ∃ (a : Str) (k : Nat), x = .str a ∧ y = .int (k : Int) ∧ k ≤ 1000000 ∧ a.length * k ≤ 1000000 ∧ ∀ b : Str, b.cps.toList = (List.replicate k a.cps.toList).flatten → Q (.str b) H
theorem fold_app : ∀ (l : List (Array Nat)) (acc : Array Nat), (l.foldl (· ++ ·) acc).toList = acc.toList ++ (l.map (·.toList)).flatten
  | [], acc => by simp
  | a :: l, acc => by
    rw [List.foldl_cons, fold_app l (acc ++ a)]
    simp
theorem oMulS {X : Cx} : OpR X (binaryOp .Mult) rMulS := by
  intro pn s ρ H x y v u Q I rx ry h
  obtain ⟨a, k, ex, ey, hk, hl, q⟩ := h
  subst ex ey
  obtain ⟨t1, e1⟩ := rx
  obtain ⟨t2, e2⟩ := ry
  subst e1 e2
  have tl : Builtin.Str.tooLong (a.length * k) = false := by
    unfold Builtin.Str.tooLong
    exact decide_eq_false (Nat.not_lt.mpr (Nat.le_trans hl (by decide)))
  refine PySem.P.mul_str (by rw [decide_eq_false (by omega), decide_eq_false (by omega)]; rfl) (fun h1 _ => ?_) (fun _ _ => by rw [Int.toNat_natCast]; exact tl) ?_
  · have hk0 : 0 < k := by omega
    have d : (2 ^ 63 - 1 : Int) / (k : Int) ≥ 1000000 := by
      rw [ge_iff_le, Int.le_ediv_iff_mul_le (by omega)]
      omega
    have e : a.length ≤ 1000000 := Nat.le_trans (Nat.le_mul_of_pos_right _ hk0) hl
    omega
  · have fin : ∀ b : Str, b.cps.toList = (List.replicate k a.cps.toList).flatten → ∀ (t' tk : Nat), EP X pn ρ Q (.str b t') { s with toks := tk } := fun b hb t' tk => ⟨.str b, H, I.tok _, ⟨_, rfl⟩, q b hb⟩
    by_cases c1 : (k : Int) < 1
    · rw [if_pos c1]
      have k0 : k = 0 := by omega
      subst k0
      exact ⟨by decide, fin _ rfl _ _⟩
    · rw [if_neg c1]
      by_cases c2 : ((k : Int) == 1 || a.length == 0) = true
      · rw [if_pos c2]
        refine fin a ?_ t1 s.toks
        rw [Bool.or_eq_true, beq_iff_eq, beq_iff_eq] at c2
        cases c2 with
        | inl z =>
          obtain rfl : k = 1 := by omega
          simp
        | inr z =>
          have z2 : a.cps.toList = [] := List.eq_nil_of_length_eq_zero (by rw [Array.length_toList]; exact z)
          rw [z2]
          simp
      · rw [if_neg c2, Int.toNat_natCast]
        refine ⟨?_, fin _ ?_ _ _⟩
        · show (List.foldl (· ++ ·) #[] (List.replicate k a.cps)).size ≤ sizeLine
          rw [← Array.length_toList, fold_app, List.map_replicate]
          simp only [List.nil_append, List.length_flatten, List.map_replicate, List.sum_replicate_nat, Array.length_toList]
          rw [Nat.mul_comm]
          exact Nat.le_trans hl (by decide)
        · rw [fold_app]
          simp
def aStr : List V → Hp → VK → Prop := fun xs H Q => ∃ i : Int, xs = [.int i] ∧ i.natAbs.log2 < 1920 ∧ Q (.str (toString i)) H
theorem cStr {X : Cx} : CallR X (.type "str") aStr := call_str_int
theorem str_i {i : Int} {H : Hp} {Q : VK} (h1 : i.natAbs < 2 ^ 300) (h : Q (.str (toString i)) H) : aStr [.int i] H Q := ⟨i, rfl, by
  by_cases z : i.natAbs = 0
  · rw [z]; decide
  · exact Nat.lt_of_lt_of_le ((Nat.log2_lt z).mpr h1) (by decide), h⟩
end NW
namespace NW
open PySem PySem.Spec PyProof.Rows L2
/-- an error's field -/
def tXv (K : PySem.W.Frag) (n : Str) (te : TE) : TE := fun σ H Q => te σ H fun x H1 => ∃ (a dx C : Addr) (fs : List (Str × V)) (v : V), x = .ref a ∧ H1 a = some (exo a C (some dx)) ∧ H1 dx = some (exd dx fs) ∧ fs.lookup n = some v ∧ XfC K C ∧ PySem.W.findIn K (.ref C) n = some none ∧ Q v H1
end NW
namespace DS
open PySem PySem.Spec PyProof.Rows L2
def keyS (e : Int × Value) : Str := match e.2 with
  | .str k _ => k
  | _ => ""
def GoodS (w : World) (e : Int × Value) : Prop := ∃ k tk, e.2 = Value.str k tk ∧ e.1 = hashStr w k
structure TxD (w : World) (es : Array (Int × Value)) (t : SetTable) (ks : List Str) : Prop where
  g : ∀ e ∈ es.toList, GoodS w e
  p : (es.toList.map keyS).Perm ks
  n : ks.Nodup
  b : es.size < scanBound
  f : t.fits es.size = true
  r : Ris t.place.toList
  l : w.params.followText "set-order" = true ∨ t.led = true
/-- the set at a holds the texts ks -/
def SetTx (w : World) (h : Heap) (a : Addr) (ks : List Str) : Prop := ∃ o es ep t, h.get? a = some o ∧ o.ExactSet ∧ o.data = .set es ep t ∧ TxD w es t ks
section
variable {P : Program} {w : World} {h h' : Heap} {a : Addr} {ks : List Str}
theorem SetTx.at (R : SetTx w h a ks) (k : ∀ o, h.get? a = some o → h'.get? a = some o) : SetTx w h' a ks := by
  obtain ⟨o, es, ep, t, ho, r⟩ := R
  exact ⟨o, es, ep, t, k o ho, r⟩
theorem TxD.size {es : Array (Int × Value)} {t : SetTable} (D : TxD w es t ks) : es.size = ks.length := by
  rw [← D.p.length_eq, List.length_map, Array.length_toList]
end
end DS
namespace DL
open PySem PySem.Spec PyProof.Rows L2 NW
inductive DV where
  | non
  | bl (b : Bool)
  | int (i : Int)
  | str (s : Str)
  | lst (xs : List DV)
  | tup (xs : List DV)
  | dic (ks : List Key) (xs : List DV)
  | obj (C : Addr) (ns : List Str) (xs : List DV)
  | ktu (K : PySem.W.Frag)
  | cls (C : Addr)
  | err (C : Addr) (ns : List Str) (xs : List DV)
  | hote (a C d : Addr) (ns : List Str) (xs : List DV)
  | sto
/-- the empty tuple of the written part -/
def KTu (K : PySem.W.Frag) (a : Addr) : Prop := ∃ (o : Obj) (its : Array Value) (n : Nat), K.lookup a = some o ∧ o.cls = .type "tuple" ∧ o.data = .seq its n ∧ its.size ≤ sizeLine ∧ Vals [] its.toList
/-- the store of draws, what nobody may reach, the error that is handled (its address, its class, its dict) -/
structure Wd where
  st : Option Addr
  hid : Addr → Prop
def Wd.ok (W : Wd) (a : Addr) : Prop := W.st ≠ some a ∧ ¬ W.hid a
def Kp (st : Option Addr) (H H' : Hp) : Prop := match st with
  | none => Same H H'
  | some a => Keep a H H'
def StoW (st : Option Addr) (H : Hp) : Prop := match st with
  | none => True
  | some a => Sto H a
structure Wd.Ok (W : Wd) (H : Hp) : Prop where
  s : StoW W.st H
  h : ∀ a, W.hid a → (∃ o, H a = some o) ∧ W.st ≠ some a
section
variable {st : Option Addr} {H H1 H2 : Hp} {b p : Addr} {ob : HO}
theorem Kp.o (k : Kp st H H1) (h : H b = some ob) (n : st ≠ some b) : H1 b = some ob := by
  cases st with
  | none => exact k b ob h
  | some a => exact Keep.o k b ob h fun e => n (by rw [e])
theorem Kp.refl (st : Option Addr) (H : Hp) : Kp st H H := by
  cases st with
  | none => exact fun _ _ z => z
  | some a => exact Keep.refl a H
theorem Kp.trans (a : Kp st H H1) (b : Kp st H1 H2) : Kp st H H2 := by
  cases st with
  | none => exact fun c o z => b c o (a c o z)
  | some x => exact Keep.trans a b
theorem Kp.same (s : Same H H1) : Kp st H H1 := by
  cases st with
  | none => exact s
  | some a => exact Keep.same s
theorem Kp.new (a : Kp st H H1) (hp : H1 p = none) : Kp st H (upd H1 p ob) := a.trans (Kp.same (same_new hp))
theorem Kp.own (a : Kp st H H1) (hp : H p = none) (hn : st ≠ some p) : Kp st H (upd H1 p ob) := by
  cases st with
  | none =>
    intro c u z
    have e : c ≠ p := ne_of_none z hp
    rw [upd_ne e]; exact a c u z
  | some x => exact Keep.own a hp fun e => hn (by rw [e])
theorem StoW.same (s : Same H H1) (h : StoW st H) : StoW st H1 := by
  cases st with
  | none => trivial
  | some a => exact Sto.mono s h
theorem StoW.ne (h : StoW st H) (hp : H p = none) : st ≠ some p := by
  cases st with
  | none => intro e; cases e
  | some a => exact fun e => Sto.ne h hp (Option.some.inj e).symm
end
section
variable {W : Wd} {H H1 : Hp} {p : Addr} {o : HO}
theorem Wd.Ok.mono (h : W.Ok H) (k : Kp W.st H H1) (s : StoW W.st H1) : W.Ok H1 := ⟨s, fun a ha => ⟨by
  obtain ⟨⟨o, ho⟩, n⟩ := h.h a ha
  exact ⟨o, k.o ho n⟩, (h.h a ha).2⟩⟩
theorem Wd.Ok.same (h : W.Ok H) (s : Same H H1) : W.Ok H1 := h.mono (Kp.same s) (h.s.same s)
theorem Wd.Ok.new (h : W.Ok H) (hp : H p = none) : W.Ok (upd H p o) := h.same (same_new hp)
theorem Wd.Ok.fresh (h : W.Ok H) (hp : H p = none) : W.ok p := ⟨h.s.ne hp, fun z => by
  obtain ⟨⟨o, ho⟩, _⟩ := h.h p z
  rw [hp] at ho; cases ho⟩
end
mutual
inductive Is (W : Wd) (H : Hp) : V → DV → Prop where
  | non : Is W H .non .non
  | bl (b : Bool) : Is W H (.bl b) (.bl b)
  | int (i : Int) : Is W H (.int i) (.int i)
  | str (s : Str) : Is W H (.str s) (.str s)
  | lst {a : Addr} {vs : List V} {xs : List DV} : H a = some (.lst vs) → W.ok a → vs.length ≤ 1000000 → Iss W H vs xs → Is W H (.ref a) (.lst xs)
  | tup {a : Addr} {vs : List V} {xs : List DV} : H a = some (.tup vs) → W.ok a → vs.length ≤ 1000000 → Iss W H vs xs → Is W H (.ref a) (.tup xs)
  | dic {a : Addr} {kvs : List (Key × V)} {ks : List Key} {xs : List DV} : Rd H a (.dK kvs) → W.ok a → kvs.length ≤ 1000000 → kvs.map (·.1) = ks → ks.Nodup → Iss W H (kvs.map (·.2)) xs → Is W H (.ref a) (.dic ks xs)
  | obj {a dx : Addr} {C : Addr} {fs : List (Str × V)} {ns : List Str} {xs : List DV} : H a = some (.ins C dx fs) → W.ok a → fs.map (·.1) = ns → Iss W H (fs.map (·.2)) xs → Is W H (.ref a) (.obj C ns xs)
  | err {a dx : Addr} {C : Addr} {fs : List (Str × V)} {ns : List Str} {xs : List DV} : H a = some (exo a C (some dx)) → H dx = some (exd dx fs) → W.ok a → W.ok dx → fs.map (·.1) = ns → Iss W H (fs.map (·.2)) xs → Is W H (.ref a) (.err C ns xs)
  | err0 {a C : Addr} : H a = some (exo a C none) → W.ok a → Is W H (.ref a) (.err C [] [])
  | hot {a dx : Addr} {C : Addr} {fs : List (Str × V)} {ns : List Str} {xs : List DV} : H dx = some (.xd fs) → W.ok dx → fs.map (·.1) = ns → Iss W H (fs.map (·.2)) xs → Is W H (.ref a) (.hote a C dx ns xs)
  | sto {a : Addr} : W.st = some a → Is W H (.ref a) .sto
  | ktu {a : Addr} {K : PySem.W.Frag} : KTu K a → Is W H (.ref a) (.ktu K)
  | cls {C : Addr} : Is W H (.ref C) (.cls C)
inductive Iss (W : Wd) (H : Hp) : List V → List DV → Prop where
  | nil : Iss W H [] []
  | cons {v : V} {vs : List V} {x : DV} {xs : List DV} : Is W H v x → Iss W H vs xs → Iss W H (v :: vs) (x :: xs)
end
theorem rd_tr {W W' : Wd} {H H' : Hp} {a : Addr} {u : HO} (k : ∀ b o, W.ok b → H b = some o → W'.ok b ∧ H' b = some o) (o : W.ok a) (h : Rd H a u) : W'.ok a ∧ Rd H' a u := by
  rcases h with h | ⟨ob, h⟩
  · exact ⟨(k _ _ o h).1, .inl (k _ _ o h).2⟩
  · exact ⟨(k _ _ o h).1, .inr ⟨ob, (k _ _ o h).2⟩⟩
section
variable {W W' : Wd} {H H' : Hp}
mutual
theorem Is.tr (e1 : W'.st = W.st) (k : ∀ b o, W.ok b → H b = some o → W'.ok b ∧ H' b = some o) : ∀ {v : V} {d : DV}, Is W H v d → Is W' H' v d
  | _, _, .non => .non
  | _, _, .bl b => .bl b
  | _, _, .int i => .int i
  | _, _, .str x => .str x
  | _, _, .lst h o l t => .lst (k _ _ o h).2 (k _ _ o h).1 l (Iss.tr e1 k t)
  | _, _, .tup h o l t => .tup (k _ _ o h).2 (k _ _ o h).1 l (Iss.tr e1 k t)
  | _, _, .dic h o l e n t => .dic (rd_tr k o h).2 (rd_tr k o h).1 l e n (Iss.tr e1 k t)
  | _, _, .obj h o e t => .obj (k _ _ o h).2 (k _ _ o h).1 e (Iss.tr e1 k t)
  | _, _, .err h h2 o o2 e t => .err (k _ _ o h).2 (k _ _ o2 h2).2 (k _ _ o h).1 (k _ _ o2 h2).1 e (Iss.tr e1 k t)
  | _, _, .err0 h o => .err0 (k _ _ o h).2 (k _ _ o h).1
  | _, _, .hot h o e t => .hot (k _ _ o h).2 (k _ _ o h).1 e (Iss.tr e1 k t)
  | _, _, .sto z => .sto (e1.trans z)
  | _, _, .ktu z => .ktu z
  | _, _, .cls => .cls
theorem Iss.tr (e1 : W'.st = W.st) (k : ∀ b o, W.ok b → H b = some o → W'.ok b ∧ H' b = some o) : ∀ {vs : List V} {ds : List DV}, Iss W H vs ds → Iss W' H' vs ds
  | _, _, .nil => .nil
  | _, _, .cons a t => .cons (Is.tr e1 k a) (Iss.tr e1 k t)
end
theorem Is.mono (k : Kp W.st H H') {v : V} {d : DV} (h : Is W H v d) : Is W H' v d := h.tr rfl fun _ _ o z => ⟨o, k.o z o.1⟩
theorem Iss.mono (k : Kp W.st H H') {vs : List V} {ds : List DV} (h : Iss W H vs ds) : Iss W H' vs ds := h.tr rfl fun _ _ o z => ⟨o, k.o z o.1⟩
/-- an object that nobody reaches is changed -/
theorem Is.off {a : Addr} {u : HO} (n : ¬ W.ok a) {v : V} {d : DV} (h : Is W H v d) : Is W (upd H a u) v d := h.tr rfl fun b o k z => ⟨k, by rw [upd_ne (fun e => n (by rw [← e]; exact k))]; exact z⟩
theorem Iss.off {a : Addr} {u : HO} (n : ¬ W.ok a) {vs : List V} {ds : List DV} (h : Iss W H vs ds) : Iss W (upd H a u) vs ds := h.tr rfl fun b o k z => ⟨k, by rw [upd_ne (fun e => n (by rw [← e]; exact k))]; exact z⟩
end
section
variable {W : Wd} {H : Hp}
theorem Iss.len : ∀ {vs : List V} {xs : List DV}, Iss W H vs xs → vs.length = xs.length
  | _, _, .nil => rfl
  | _, _, .cons _ t => congrArg (· + 1) (Iss.len t)
theorem Iss.get : ∀ {vs : List V} {xs : List DV} {i : Nat} {x : DV}, Iss W H vs xs → xs[i]? = some x → ∃ v, vs[i]? = some v ∧ Is W H v x
  | _, _, _, _, .nil, h => by simp at h
  | _, _, 0, _, .cons a _, h => ⟨_, rfl, by
    have e := Option.some.inj h
    rw [← e]; exact a⟩
  | _, _, i + 1, x, .cons _ t, h => Iss.get (i := i) t h
theorem Iss.get' : ∀ {vs : List V} {xs : List DV} {i : Nat} {v : V}, Iss W H vs xs → vs[i]? = some v → ∃ x, xs[i]? = some x ∧ Is W H v x
  | _, _, _, _, .nil, h => by simp at h
  | _, _, 0, _, .cons a _, h => ⟨_, rfl, by
    have e := Option.some.inj h
    rw [← e]; exact a⟩
  | _, _, i + 1, x, .cons _ t, h => Iss.get' (i := i) t h
theorem Iss.app : ∀ {vs ws : List V} {xs ys : List DV}, Iss W H vs xs → Iss W H ws ys → Iss W H (vs ++ ws) (xs ++ ys)
  | _, _, _, _, .nil, h => h
  | _, _, _, _, .cons a t, h => .cons a (Iss.app t h)
theorem Iss.take : ∀ {vs : List V} {xs : List DV} (n : Nat), Iss W H vs xs → Iss W H (vs.take n) (xs.take n)
  | _, _, 0, _ => .nil
  | _, _, _ + 1, .nil => .nil
  | _, _, n + 1, .cons a t => .cons a (Iss.take n t)
theorem Iss.drop : ∀ {vs : List V} {xs : List DV} (n : Nat), Iss W H vs xs → Iss W H (vs.drop n) (xs.drop n)
  | _, _, 0, h => h
  | _, _, _ + 1, .nil => .nil
  | _, _, n + 1, .cons _ t => Iss.drop n t
theorem Iss.rev {vs : List V} {xs : List DV} (h : Iss W H vs xs) : Iss W H vs.reverse xs.reverse := by
  induction vs generalizing xs with
  | nil => cases h; exact .nil
  | cons v vs ih =>
    cases h with
    | cons a t =>
      rw [List.reverse_cons, List.reverse_cons]
      exact (ih t).app (.cons a .nil)
theorem Iss.set {v : V} {x : DV} (hv : Is W H v x) : ∀ {vs : List V} {xs : List DV} (n : Nat), Iss W H vs xs → Iss W H (vs.set n v) (xs.set n x)
  | _, _, _, .nil => .nil
  | _, _, 0, .cons _ t => .cons hv t
  | _, _, n + 1, .cons a t => .cons a (Iss.set hv n t)
theorem Iss.erase : ∀ {vs : List V} {xs : List DV} (n : Nat), Iss W H vs xs → Iss W H (vs.eraseIdx n) (xs.eraseIdx n)
  | _, _, _, .nil => .nil
  | _, _, 0, .cons _ t => t
  | _, _, n + 1, .cons a t => .cons a (Iss.erase n t)
end
inductive Sl where
  | un
  | dt (d : DV)
  | ow (xs : List DV)
  | od (ks : List Key) (xs : List DV)
  | oi (A C : Addr) (ns : List Str) (xs : List DV)
abbrev Env := List Sl
structure IsE (W : Wd) (own : Nat → Option Addr) (H : Hp) (σ : L2.St) (ρ : Env) : Prop where
  len : σ.length = ρ.length
  dt : ∀ (i : Nat) (d : DV), ρ[i]? = some (Sl.dt d) → ∃ v, σ[i]? = some (some v) ∧ Is W H v d
  ow : ∀ (i : Nat) (xs : List DV), ρ[i]? = some (Sl.ow xs) → ∃ a vs, own i = some a ∧ σ[i]? = some (some (.ref a)) ∧ H a = some (.lst vs) ∧ vs.length ≤ 1000000 ∧ Iss W H vs xs
  od : ∀ (i : Nat) (ks : List Key) (xs : List DV), ρ[i]? = some (Sl.od ks xs) → ∃ a kvs, own i = some a ∧ σ[i]? = some (some (.ref a)) ∧ H a = some (.dK kvs) ∧ (kvs.length ≤ 1000000 ∧ kvs.map (·.1) = ks ∧ ks.Nodup) ∧ Iss W H (kvs.map (·.2)) xs
  oi : ∀ (i : Nat) (A C : Addr) (ns : List Str) (xs : List DV), ρ[i]? = some (Sl.oi A C ns xs) → ∃ a fs, own i = some a ∧ σ[i]? = some (some (.ref a)) ∧ (∃ dx, H a = some (.ins C dx fs)) ∧ (fs.length ≤ 500 ∧ fs.map (·.1) = ns ∧ ns.Nodup ∧ a = A) ∧ Iss W H (fs.map (·.2)) xs
  hd : ∀ (i : Nat) (a : Addr), own i = some a → W.hid a
/-- a value that is read at once: data, or a list of the def's own -/
def IsP (W : Wd) (own : Nat → Option Addr) (H : Hp) (v : V) (d : DV) : Prop := Is W H v d ∨ ∃ (i : Nat) (a : Addr) (vs : List V) (xs : List DV), own i = some a ∧ W.hid a ∧ v = .ref a ∧ d = .lst xs ∧ H a = some (.lst vs) ∧ vs.length ≤ 1000000 ∧ Iss W H vs xs
section
variable {W : Wd} {own : Nat → Option Addr} {H H' : Hp} {σ : L2.St} {ρ : Env}
theorem IsE.mono (h : IsE W own H σ ρ) (o : W.Ok H) (k : Kp W.st H H') : IsE W own H' σ ρ := ⟨h.len, fun i d e => by
  obtain ⟨v, a, b⟩ := h.dt i d e
  exact ⟨v, a, b.mono k⟩, fun i xs e => by
  obtain ⟨a, vs, h1, h2, h3, h4, h5⟩ := h.ow i xs e
  exact ⟨a, vs, h1, h2, k.o h3 (o.h a (h.hd i a h1)).2, h4, h5.mono k⟩, fun i ks xs e => by
  obtain ⟨a, kvs, h1, h2, h3, h4, h5⟩ := h.od i ks xs e
  exact ⟨a, kvs, h1, h2, k.o h3 (o.h a (h.hd i a h1)).2, h4, h5.mono k⟩, fun i A C ns xs e => by
  obtain ⟨a, fs, h1, h2, ⟨dx, h3⟩, h4, h5⟩ := h.oi i A C ns xs e
  exact ⟨a, fs, h1, h2, ⟨dx, k.o h3 (o.h a (h.hd i a h1)).2⟩, h4, h5.mono k⟩, h.hd⟩
theorem IsP.mono {v : V} {d : DV} (h : IsP W own H v d) (o : W.Ok H) (k : Kp W.st H H') : IsP W own H' v d := by
  rcases h with h | ⟨i, a, vs, xs, h1, h2, h3, h4, h5, h6, h7⟩
  · exact .inl (h.mono k)
  · exact .inr ⟨i, a, vs, xs, h1, h2, h3, h4, k.o h5 (o.h a h2).2, h6, h7.mono k⟩
theorem IsP.lst {v : V} {xs : List DV} (h : IsP W own H v (.lst xs)) : ∃ a vs, v = .ref a ∧ H a = some (.lst vs) ∧ vs.length ≤ 1000000 ∧ Iss W H vs xs := by
  rcases h with h | ⟨i, a, vs, ys, h1, h2, h3, h4, h5, h6, h7⟩
  · cases h with
    | lst a b c d => exact ⟨_, _, rfl, a, c, d⟩
  · cases h4
    exact ⟨a, vs, h3, h5, h6, h7⟩
theorem IsP.is {v : V} {d : DV} (h : IsP W own H v d) (n : ∀ xs, d ≠ .lst xs) : Is W H v d := by
  rcases h with h | ⟨i, a, vs, ys, h1, h2, h3, h4, h5, h6, h7⟩
  · exact h
  · exact absurd h4 (n ys)
theorem IsP.int {v : V} {i : Int} (h : IsP W own H v (.int i)) : v = .int i := by
  cases h.is (fun _ e => nomatch e); rfl
theorem IsP.bl {v : V} {i : Bool} (h : IsP W own H v (.bl i)) : v = .bl i := by
  cases h.is (fun _ e => nomatch e); rfl
theorem IsP.str {v : V} {i : Str} (h : IsP W own H v (.str i)) : v = .str i := by
  cases h.is (fun _ e => nomatch e); rfl
theorem IsP.non {v : V} (h : IsP W own H v .non) : v = .non := by
  cases h.is (fun _ e => nomatch e); rfl
theorem IsP.tup {v : V} {xs : List DV} (h : IsP W own H v (.tup xs)) : ∃ a vs, v = .ref a ∧ H a = some (.tup vs) ∧ vs.length ≤ 1000000 ∧ Iss W H vs xs := by
  cases h.is (fun _ e => nomatch e) with
  | tup a b c d => exact ⟨_, _, rfl, a, c, d⟩
end
abbrev WE := Env → (DV → Prop) → Prop
abbrev WT := Env → (Bool → Prop) → Prop
abbrev WA := Env → (List DV → Prop) → Prop
def Fin (W : Wd) (H : Hp) (R : DV → Prop) (Q : VK) : Prop := ∀ d v H', R d → Kp W.st H H' → W.Ok H' → Is W H' v d → Q v H'
def FinP (W : Wd) (own : Nat → Option Addr) (H : Hp) (R : DV → Prop) (Q : VK) : Prop := ∀ d v H', R d → Kp W.st H H' → W.Ok H' → IsP W own H' v d → Q v H'
def lift (w : WE) : TE := fun σ H Q => ∃ W own ρ R, W.Ok H ∧ IsE W own H σ ρ ∧ w ρ R ∧ Fin W H R Q
def liftP (w : WE) : TE := fun σ H Q => ∃ W own ρ R, W.Ok H ∧ IsE W own H σ ρ ∧ w ρ R ∧ FinP W own H R Q
def liftT (w : WT) : TT := fun σ H Q => ∃ W own ρ R, W.Ok H ∧ IsE W own H σ ρ ∧ w ρ R ∧ ∀ b H', R b → Kp W.st H H' → W.Ok H' → Q b H'
def liftA (w : WA) : TA := fun σ H Q => ∃ W own ρ R, W.Ok H ∧ IsE W own H σ ρ ∧ w ρ R ∧ ∀ ds vs H', R ds → Kp W.st H H' → W.Ok H' → Iss W H' vs ds → Q vs H'
def liftB (w : WA) : TA := fun σ H Q => ∃ W own ρ R, W.Ok H ∧ IsE W own H σ ρ ∧ w ρ R ∧ ∀ ds vs H', R ds → Kp W.st H H' → W.Ok H' → Paired (IsP W own H') vs ds → Q vs H'
section
variable {W : Wd} {own : Nat → Option Addr} {H H' : Hp} {R : DV → Prop} {Q : VK}
theorem FinP.p (h : FinP W own H R Q) : Fin W H R Q := fun d v H' r k o i => h d v H' r k o (.inl i)
theorem Fin.at (f : Fin W H R Q) (o : W.Ok H) {v : V} {d : DV} (i : Is W H v d) (r : R d) : Q v H := f d v H r (Kp.refl _ _) o i
theorem Fin.int (f : Fin W H R Q) (o : W.Ok H) {i : Int} (r : R (.int i)) : Q (.int i) H := f.at o (.int i) r
theorem Fin.bl (f : Fin W H R Q) (o : W.Ok H) {i : Bool} (r : R (.bl i)) : Q (.bl i) H := f.at o (.bl i) r
theorem Fin.str (f : Fin W H R Q) (o : W.Ok H) {i : Str} (r : R (.str i)) : Q (.str i) H := f.at o (.str i) r
theorem Fin.non (f : Fin W H R Q) (o : W.Ok H) (r : R .non) : Q .non H := f.at o .non r
theorem Fin.lst (f : Fin W H R Q) (o : W.Ok H) {vs : List V} {xs : List DV} (l : vs.length ≤ 1000000) (i : Iss W H vs xs) (r : R (.lst xs)) : NewR (.lst vs) H Q := fun q hq =>
  f (.lst xs) (.ref q) _ r (Kp.same (same_new hq)) (o.new hq) (.lst upd_same (o.fresh hq) l (i.mono (Kp.same (same_new hq))))
theorem Fin.tup (f : Fin W H R Q) (o : W.Ok H) {vs : List V} {xs : List DV} (l : vs.length ≤ 1000000) (i : Iss W H vs xs) (r : R (.tup xs)) : NewR (.tup vs) H Q := fun q hq =>
  f (.tup xs) (.ref q) _ r (Kp.same (same_new hq)) (o.new hq) (.tup upd_same (o.fresh hq) l (i.mono (Kp.same (same_new hq))))
theorem Fin.mono (f : Fin W H R Q) (k : Kp W.st H H') : Fin W H' R Q := fun d v H2 r k2 o i => f d v H2 r (k.trans k2) o i
theorem FinP.mono (f : FinP W own H R Q) (k : Kp W.st H H') : FinP W own H' R Q := fun d v H2 r k2 o i => f d v H2 r (k.trans k2) o i
end
section
variable {X : Cx} {e a b c : Expr} {w wa wb wc : WE} {pos : Pos}
theorem dp (h : PE X e (lift w)) : PE X e (liftP w) := pe_weak h fun σ H Q q => by
  obtain ⟨W, own, ρ, R, o, i, z, f⟩ := q
  exact ⟨W, own, ρ, R, o, i, z, f.p⟩
def atV (R : DV → Prop) : Option Sl → Prop
  | some (.dt d) => R d
  | _ => False
theorem atV_ex {R : DV → Prop} {o : Option Sl} (h : atV R o) : ∃ d, o = some (.dt d) ∧ R d := by
  unfold atV at h
  split at h
  · exact ⟨_, rfl, h⟩
  · exact h.elim
def atP (R : DV → Prop) : Option Sl → Prop
  | some (.dt d) => R d
  | some (.ow xs) => R (.lst xs)
  | _ => False
theorem atP_ex {R : DV → Prop} {o : Option Sl} (h : atP R o) : (∃ d, o = some (.dt d) ∧ R d) ∨ ∃ xs, o = some (.ow xs) ∧ R (.lst xs) := by
  unfold atP at h
  split at h
  · exact .inl ⟨_, rfl, h⟩
  · exact .inr ⟨_, rfl, h⟩
  · exact h.elim
def wV (i : Nat) : WE := fun ρ R => atV R ρ[i]?
/-- a name that is read at once -/
def wVP (i : Nat) : WE := fun ρ R => atP R ρ[i]?
theorem dv {e : Expr} (i : Nat) (h : PE X e (tVar i)) : PE X e (lift (wV i)) := pe_weak h fun σ H Q q => by
  obtain ⟨W, own, ρ, R, o, i', z, f⟩ := q
  obtain ⟨d, z, r⟩ := atV_ex z
  obtain ⟨v, hv, hi⟩ := i'.dt _ _ z
  exact ⟨v, hv, f.at o hi r⟩
theorem dvP {e : Expr} (i : Nat) (h : PE X e (tVar i)) : PE X e (liftP (wVP i)) := pe_weak h fun σ H Q q => by
  obtain ⟨W, own, ρ, R, o, i', z, f⟩ := q
  rcases atP_ex z with ⟨d, z, r⟩ | ⟨xs, z, r⟩
  · obtain ⟨v, hv, hi⟩ := i'.dt _ _ z
    exact ⟨v, hv, f _ _ _ r (Kp.refl _ _) o (.inl hi)⟩
  · obtain ⟨a, vs, h1, h2, h3, h4, h5⟩ := i'.ow _ _ z
    exact ⟨_, h2, f _ _ _ r (Kp.refl _ _) o (.inr ⟨i, a, vs, xs, h1, i'.hd _ _ h1, rfl, rfl, h3, h4, h5⟩)⟩
def wC (d : DV) : WE := fun _ R => R d
theorem dc {v : V} {d : DV} (h : PE X e (tC v)) (i : ∀ W H, Is W H v d) : PE X e (lift (wC d)) := pe_weak h fun σ H Q q => by
  obtain ⟨W, own, ρ, R, o, _, r, f⟩ := q
  exact f.at o (i W H) r
theorem dc_int {i : Int} {k} : PE X (.Constant (.int i) k pos) (lift (wC (.int i))) := dc pe_int fun _ _ => .int _
theorem dc_bl {i : Bool} {k} : PE X (.Constant (.bool i) k pos) (lift (wC (.bl i))) := dc pe_bl fun _ _ => .bl _
theorem dc_str {i : Str} {k} : PE X (.Constant (.str i) k pos) (lift (wC (.str i))) := dc pe_str fun _ _ => .str _
theorem dc_non {k} : PE X (.Constant .none k pos) (lift (wC .non)) := dc pe_non fun _ _ => .non
def aN : WA := fun _ R => R []
def aC (w : WE) (r : WA) : WA := fun ρ R => w ρ fun d => r ρ fun ds => R (d :: ds)
variable {es : List Expr} {r : WA}
theorem pa_weak {t t' : TA} (h : PA X es t) (w : ∀ σ H Q, t' σ H Q → t σ H Q) : PA X es t' := ⟨fun p pins s σ H Q I q => h.run p pins s σ H Q I (w σ H Q q)⟩
theorem dan : PA X [] (liftA aN) := pa_weak pa_nil fun σ H Q q => by
  obtain ⟨W, own, ρ, R, o, _, r, f⟩ := q
  exact f _ _ _ r (Kp.refl _ _) o .nil
theorem dac (ha : PE X a (lift w)) (hr : PA X es (liftA r)) (he : starEach (a :: es) X.env = (false, eval a X.env) :: starEach es X.env := by rfl) : PA X (a :: es) (liftA (aC w r)) := pa_weak (pa_cons ha hr he) fun σ H Q q => by
  obtain ⟨W, own, ρ, R, o, i, z, f⟩ := q
  refine ⟨W, own, ρ, _, o, i, z, fun d v H1 r1 k1 o1 i1 => ⟨W, own, ρ, _, o1, i.mono o k1, r1, fun ds vs H2 r2 k2 o2 i2 => ?_⟩⟩
  exact f _ _ _ r2 (k1.trans k2) o2 (.cons (i1.mono k2) i2)
theorem dbn : PA X [] (liftB aN) := pa_weak pa_nil fun σ H Q q => by
  obtain ⟨W, own, ρ, R, o, _, r, f⟩ := q
  exact f _ _ _ r (Kp.refl _ _) o .nil
theorem dbc (ha : PE X a (liftP w)) (hr : PA X es (liftB r)) (he : starEach (a :: es) X.env = (false, eval a X.env) :: starEach es X.env := by rfl) : PA X (a :: es) (liftB (aC w r)) := pa_weak (pa_cons ha hr he) fun σ H Q q => by
  obtain ⟨W, own, ρ, R, o, i, z, f⟩ := q
  refine ⟨W, own, ρ, _, o, i, z, fun d v H1 r1 k1 o1 i1 => ⟨W, own, ρ, _, o1, i.mono o k1, r1, fun ds vs H2 r2 k2 o2 i2 => ?_⟩⟩
  exact f _ _ _ r2 (k1.trans k2) o2 (.cons (i1.mono o1 k2) i2)
def wL (r : WA) : WE := fun ρ R => r ρ fun ds => ds.length ≤ 1000000 ∧ R (.lst ds)
def wTu (r : WA) : WE := fun ρ R => r ρ fun ds => ds.length ≤ 1000000 ∧ R (.tup ds)
theorem dlst (h : PA X es (liftA r)) : PE X (.List es pos) (lift (wL r)) := pe_weak (pe_lst h) fun σ H Q q => by
  obtain ⟨W, own, ρ, R, o, i, z, f⟩ := q
  refine ⟨W, own, ρ, _, o, i, z, fun ds vs H1 r1 k1 o1 i1 => ⟨?_, ?_⟩⟩
  · rw [i1.len]; exact Nat.le_trans r1.1 (by decide)
  · exact (f.mono k1).lst o1 (by rw [i1.len]; exact r1.1) i1 r1.2
theorem dtup {c1} (h : PA X es (liftA r)) : PE X (.Tuple es c1 pos) (lift (wTu r)) := pe_weak (pe_tup h) fun σ H Q q => by
  obtain ⟨W, own, ρ, R, o, i, z, f⟩ := q
  refine ⟨W, own, ρ, _, o, i, z, fun ds vs H1 r1 k1 o1 i1 => ⟨?_, ?_⟩⟩
  · rw [i1.len]; exact Nat.le_trans r1.1 (by decide)
  · exact (f.mono k1).tup o1 (by rw [i1.len]; exact r1.1) i1 r1.2
end
section
variable {X : Cx} {a b c : Expr} {w wa wb wc : WE} {pos : Pos}
abbrev D2 := DV → DV → (DV → Prop) → Prop
def wOp (d : D2) (wa wb : WE) : WE := fun ρ R => wa ρ fun x => wb ρ fun y => d x y R
/-- the reading r serves the data's d -/
def Op (r : R2) (d : D2) : Prop := ∀ W own H x y a b R Q, W.Ok H → IsP W own H x a → IsP W own H y b → d a b R → Fin W H R Q → r x y H Q
theorem op_tr {r : R2} {d : D2} (h : Op r d) {ta tb : TE} {wa wb : WE} (ea : ta = liftP wa) (eb : tb = liftP wb) : ∀ σ H Q, lift (wOp d wa wb) σ H Q → tOp r ta tb σ H Q := fun σ H Q q => by
  obtain ⟨W, own, ρ, R, o, i, z, f⟩ := q
  subst ea eb
  refine ⟨W, own, ρ, _, o, i, z, fun x v H1 r1 k1 o1 i1 => ⟨W, own, ρ, _, o1, i.mono o k1, r1, fun y u H2 r2 k2 o2 i2 => ?_⟩⟩
  exact h W own H2 v u x y R Q o2 (i1.mono o1 k2) i2 r2 (f.mono (k1.trans k2))
end
end DL
namespace DL
open PySem PySem.Spec PyProof.Rows L2 NW
theorem le_line {n : Nat} (h : n ≤ 1000000) : n ≤ sizeLine := Nat.le_trans h (by decide)
theorem lt_line {n : Nat} (h : n < 1000000) : n < sizeLine := Nat.lt_of_lt_of_le h (by decide)
/-- behind it stands a list of its own: nobody else holds it -/
def FinF (W : Wd) (H : Hp) (R : List DV → Prop) (Q : VK) : Prop := ∀ (xs : List DV) (vs : List V) (q : Addr) (H1 : Hp), R xs → Kp W.st H H1 → W.Ok H1 → Iss W H1 vs xs → vs.length ≤ 1000000 → H1 q = none → Q (.ref q) (upd H1 q (.lst vs))
abbrev WF := Env → (List DV → Prop) → Prop
def liftF (w : WF) : TE := fun σ H Q => ∃ W own ρ R, W.Ok H ∧ IsE W own H σ ρ ∧ w ρ R ∧ FinF W H R Q
def wF (w : WF) : WE := fun ρ R => w ρ fun xs => R (.lst xs)
section
variable {W : Wd} {own : Nat → Option Addr} {H H' : Hp} {R : List DV → Prop} {Q : VK}
theorem FinF.new (f : FinF W H R Q) (o : W.Ok H) {vs : List V} {xs : List DV} (l : vs.length ≤ 1000000) (i : Iss W H vs xs) (r : R xs) : NewR (.lst vs) H Q := fun q hq => f xs vs q H r (Kp.refl _ _) o i l hq
theorem FinF.mono (f : FinF W H R Q) (k : Kp W.st H H') : FinF W H' R Q := fun xs vs q H1 r k1 => f xs vs q H1 r (k.trans k1)
theorem Fin.f {R : DV → Prop} (f : Fin W H R Q) : FinF W H (fun xs => R (.lst xs)) Q := fun xs vs q H1 r k o i l hq =>
  f (.lst xs) (.ref q) _ r (k.trans (Kp.same (same_new hq))) (o.new hq) (.lst upd_same (o.fresh hq) l (i.mono (Kp.same (same_new hq))))
end
section
variable {X : Cx} {e a b c : Expr} {w wa wb wc : WE} {pos : Pos}
theorem df {f : WF} (h : PE X e (liftF f)) : PE X e (lift (wF f)) := pe_weak h fun σ H Q q => by
  obtain ⟨W, own, ρ, R, o, i, z, g⟩ := q
  exact ⟨W, own, ρ, _, o, i, z, g.f⟩
def fL (r : WA) : WF := fun ρ R => r ρ fun ds => ds.length ≤ 1000000 ∧ R ds
theorem dlstF {es : List Expr} {r : WA} (h : PA X es (liftA r)) : PE X (.List es pos) (liftF (fL r)) := pe_weak (pe_lst h) fun σ H Q q => by
  obtain ⟨W, own, ρ, R, o, i, z, f⟩ := q
  refine ⟨W, own, ρ, _, o, i, z, fun ds vs H1 r1 k1 o1 i1 => ⟨?_, ?_⟩⟩
  · rw [i1.len]; exact le_line r1.1
  · exact (f.mono k1).new o1 (by rw [i1.len]; exact r1.1) i1 r1.2
end
def dAdd : D2 := fun a b R => match a, b with
  | .int i, .int j => R (.int (i + j))
  | .str i, .str j => i.length + j.length ≤ 1000000 ∧ R (.str (i ++ j))
  | .lst xs, .lst ys => xs.length + ys.length ≤ 1000000 ∧ R (.lst (xs ++ ys))
  | _, _ => False
theorem opAdd : Op aAdd dAdd := by
  intro W own H x y a b R Q o hx hy hd f
  unfold dAdd at hd
  split at hd
  · cases hx.int; cases hy.int
    exact add_ii (f.int o hd)
  · cases hx.str; cases hy.str
    exact add_ss hd.1 (f.str o hd.2)
  · obtain ⟨p, vs, rfl, h1, h2, h3⟩ := hx.lst
    obtain ⟨q, us, rfl, g1, g2, g3⟩ := hy.lst
    have l : vs.length + us.length ≤ 1000000 := by rw [h3.len, g3.len]; exact hd.1
    exact add_ll h1 g1 l (f.f.new o (by rw [List.length_append]; exact l) (h3.app g3) hd.2)
  · exact hd.elim
/-- xs + ys, a new list -/
def fCat (wa wb : WE) : WF := fun ρ R => wa ρ fun x => wb ρ fun y => match x, y with
  | .lst xs, .lst ys => xs.length + ys.length ≤ 1000000 ∧ R (xs ++ ys)
  | _, _ => False
def dSub : D2 := fun a b R => match a, b with
  | .int i, .int j => R (.int (i - j))
  | _, _ => False
theorem opSub : Op aSub dSub := by
  intro W own H x y a b R Q o hx hy hd f
  unfold dSub at hd
  split at hd
  · cases hx.int; cases hy.int
    exact sub_ii (f.int o hd)
  · exact hd.elim
def dMul : D2 := fun a b R => match a, b with
  | .int i, .int j => ((-(2 ^ 64) < i ∧ i < 2 ^ 64) ∨ (-(2 ^ 64) < j ∧ j < 2 ^ 64)) ∧ R (.int (i * j))
  | _, _ => False
/-- a text so many times -/
def repS (a : Str) (k : Nat) : Str := ⟨((List.replicate k a.cps.toList).flatten).toArray⟩
def dMulS : D2 := fun a b R => match a, b with
  | .str i, .int j => 0 ≤ j ∧ j ≤ 1000000 ∧ i.length * j.toNat ≤ 1000000 ∧ R (.str (repS i j.toNat))
  | _, _ => False
theorem opMulS : Op rMulS dMulS := by
  intro W own H x y a b R Q o hx hy hd f
  unfold dMulS at hd
  split at hd
  · rename_i i j
    cases hx.str; cases hy.int
    obtain ⟨h0, h1, h2, r⟩ := hd
    refine ⟨i, j.toNat, rfl, ?_, by omega, h2, fun b hb => ?_⟩
    · rw [Int.toNat_of_nonneg h0]
    · have e : b = repS i j.toNat := by
        obtain ⟨cps⟩ := b
        unfold repS
        rw [← hb]
      rw [e]; exact f.str o r
  · exact hd.elim
def dMulL : D2 := fun a b R => match a, b with
  | .lst xs, .int j => j ≤ 1000000 ∧ -1000000 ≤ j ∧ xs.length * j.toNat ≤ 1000000 ∧ R (.lst (List.replicate j.toNat xs).flatten)
  | _, _ => False
def dDiv : D2 := fun a b R => match a, b with
  | .int i, .int j => (0 < j ∧ j < 2 ^ 300) ∧ R (.int (i / j))
  | _, _ => False
theorem opDiv : Op aDiv dDiv := by
  intro W own H x y a b R Q o hx hy hd f
  unfold dDiv at hd
  split at hd
  · cases hx.int; cases hy.int
    exact div_ii hd.1.1 hd.1.2 (f.int o hd.2)
  · exact hd.elim
def dMod : D2 := fun a b R => match a, b with
  | .int i, .int j => 0 < j ∧ R (.int (i % j))
  | _, _ => False
theorem opMod : Op aMod dMod := by
  intro W own H x y a b R Q o hx hy hd f
  unfold dMod at hd
  split at hd
  · cases hx.int; cases hy.int
    exact mod_ii hd.1 (f.int o hd.2)
  · exact hd.elim
def ltS (a b : Str) : Bool := decide (a.cps.toList < b.cps.toList)
def dLt : D2 := fun a b R => match a, b with
  | .int i, .int j => R (.bl (decide (i < j)))
  | .str i, .str j => R (.bl (ltS i j))
  | _, _ => False
def dLe : D2 := fun a b R => match a, b with
  | .int i, .int j => R (.bl (decide (i ≤ j)))
  | .str i, .str j => R (.bl (!ltS j i))
  | _, _ => False
def dGt : D2 := fun a b R => match a, b with
  | .int i, .int j => R (.bl (decide (j < i)))
  | .str i, .str j => R (.bl (ltS j i))
  | _, _ => False
def dGe : D2 := fun a b R => match a, b with
  | .int i, .int j => R (.bl (decide (j ≤ i)))
  | .str i, .str j => R (.bl (!ltS i j))
  | _, _ => False
def rLtS : R2 := fun x y H Q => ∃ i j, x = .str i ∧ y = .str j ∧ Q (.bl (decide (i.cps.toList < j.cps.toList))) H
def rLeS : R2 := fun x y H Q => ∃ i j, x = .str i ∧ y = .str j ∧ Q (.bl (!decide (j.cps.toList < i.cps.toList))) H
def rGtS : R2 := fun x y H Q => ∃ i j, x = .str i ∧ y = .str j ∧ Q (.bl (decide (j.cps.toList < i.cps.toList))) H
def bLt : R2 := fun x y H Q => aLt x y H Q ∨ rLtS x y H Q
def bLe : R2 := fun x y H Q => aLe x y H Q ∨ rLeS x y H Q
def bGt : R2 := fun x y H Q => aGt x y H Q ∨ rGtS x y H Q
theorem kLt {X : Cx} : OpR X (compareOp .Lt) bLt := orOp oLt op_lt_str
theorem kLe {X : Cx} : OpR X (compareOp .LtE) bLe := orOp oLe op_le_str
theorem kGt {X : Cx} : OpR X (compareOp .Gt) bGt := orOp oGt op_gt_str
theorem opLt : Op bLt dLt := by
  intro W own H x y a b R Q o hx hy hd f
  unfold dLt at hd
  split at hd
  · cases hx.int; cases hy.int
    exact .inl (lt_ii (f.bl o hd))
  · cases hx.str; cases hy.str
    exact .inr ⟨_, _, rfl, rfl, f.bl o hd⟩
  · exact hd.elim
theorem opLe : Op bLe dLe := by
  intro W own H x y a b R Q o hx hy hd f
  unfold dLe at hd
  split at hd
  · cases hx.int; cases hy.int
    exact .inl (le_ii (f.bl o hd))
  · cases hx.str; cases hy.str
    exact .inr ⟨_, _, rfl, rfl, f.bl o hd⟩
  · exact hd.elim
theorem opGt : Op bGt dGt := by
  intro W own H x y a b R Q o hx hy hd f
  unfold dGt at hd
  split at hd
  · cases hx.int; cases hy.int
    exact .inl (gt_ii (f.bl o hd))
  · cases hx.str; cases hy.str
    exact .inr ⟨_, _, rfl, rfl, f.bl o hd⟩
  · exact hd.elim
/-- == of scalars -/
def eqD (a b : DV) (R : Bool → Prop) : Prop := match a, b with
  | .int i, .int j => R (decide (i = j))
  | .str i, .str j => R (decide (i = j))
  | .bl i, .bl j => R (decide (i = j))
  | _, _ => False
def dEq : D2 := fun a b R => eqD a b fun k => R (.bl k)
def dNe : D2 := fun a b R => eqD a b fun k => R (.bl (!k))
theorem eqD_sc {W : Wd} {own : Nat → Option Addr} {H : Hp} {x y : V} {a b : DV} {R : Bool → Prop} (hx : IsP W own H x a) (hy : IsP W own H y b) (h : eqD a b R) : scal x y = true ∧ R (decide (x = y)) := by
  unfold eqD at h
  split at h
  · cases hx.int; cases hy.int
    refine ⟨rfl, ?_⟩
    rw [dec_int, Bool.beq_eq_decide_eq]; exact h
  · rename_i i j
    cases hx.str; cases hy.str
    refine ⟨rfl, ?_⟩
    have e : decide (V.str i = V.str j) = decide (i = j) := decide_eq_decide.mpr ⟨fun z => V.str.inj z, fun z => by rw [z]⟩
    rw [e]; exact h
  · cases hx.bl; cases hy.bl
    refine ⟨rfl, ?_⟩
    rw [dec_bl, Bool.beq_eq_decide_eq]; exact h
  · exact h.elim
theorem opEq : Op aEq dEq := by
  intro W own H x y a b R Q o hx hy hd f
  obtain ⟨h1, h2⟩ := eqD_sc hx hy hd
  exact eq_sc h1 (f.bl o h2)
def inD (a b : DV) (R : Bool → Prop) : Prop := match a, b with
  | .str s, .str t => ∃ c, s = ⟨#[c]⟩ ∧ R (decide (c ∈ t.cps.toList))
  | .str s, .lst xs => ∃ ss : List Str, xs = ss.map DV.str ∧ R (decide (s ∈ ss))
  | .str s, .tup xs => ∃ ss : List Str, xs = ss.map DV.str ∧ R (decide (s ∈ ss))
  | .int s, .lst xs => ∃ ss : List Int, xs = ss.map DV.int ∧ R (decide (s ∈ ss))
  | .int s, .tup xs => ∃ ss : List Int, xs = ss.map DV.int ∧ R (decide (s ∈ ss))
  | _, _ => False
def dIn : D2 := fun a b R => inD a b fun k => R (.bl k)
def dNi : D2 := fun a b R => inD a b fun k => R (.bl (!k))
def rInSg (n : Bool) : R2 := fun x y H Q => ∃ (c : Nat) (z : Str), x = .str ⟨#[c]⟩ ∧ y = .str z ∧ Q (.bl (if n then !decide (c ∈ z.cps.toList) else decide (c ∈ z.cps.toList))) H
def bIn (K : PySem.W.Frag) (n : Bool) : R2 := fun x y H Q => rIn K n x y H Q ∨ rInSg n x y H Q
theorem kIn {X : Cx} : OpR X (compareOp .In) (bIn X.K false) := orOp op_in_seq op_in_sign
theorem kNi {X : Cx} : OpR X (compareOp .NotIn) (bIn X.K true) := orOp op_notIn_seq op_notIn_sign
theorem iss_str {W : Wd} {H : Hp} : ∀ {ss : List Str} {vs : List V}, Iss W H vs (ss.map DV.str) → vs = ss.map V.str
  | [], _, .nil => rfl
  | s :: ss, _, .cons (.str _) t => by rw [iss_str t]; rfl
theorem iss_int {W : Wd} {H : Hp} : ∀ {ss : List Int} {vs : List V}, Iss W H vs (ss.map DV.int) → vs = ss.map V.int
  | [], _, .nil => rfl
  | s :: ss, _, .cons (.int _) t => by rw [iss_int t]; rfl
theorem iss_bl {W : Wd} {H : Hp} : ∀ {ss : List Bool} {vs : List V}, Iss W H vs (ss.map DV.bl) → vs = ss.map V.bl
  | [], _, .nil => rfl
  | s :: ss, _, .cons (.bl _) t => by rw [iss_bl t]; rfl
theorem str_iss {W : Wd} {H : Hp} : ∀ ss : List Str, Iss W H (ss.map V.str) (ss.map DV.str)
  | [] => .nil
  | s :: ss => .cons (.str s) (str_iss ss)
theorem flat_strs (ss : List Str) : (ss.map V.str).all flatV = true := by
  rw [List.all_eq_true]; intro x hx
  obtain ⟨s, _, rfl⟩ := List.mem_map.mp hx
  rfl
theorem flat_ints (ss : List Int) : (ss.map V.int).all flatV = true := by
  rw [List.all_eq_true]; intro x hx
  obtain ⟨s, _, rfl⟩ := List.mem_map.mp hx
  rfl
theorem in_strs (s : Str) (ss : List Str) : inV (.str s) (ss.map V.str) = decide (s ∈ ss) := by
  unfold inV
  rw [List.any_map, Bool.eq_iff_iff, List.any_eq_true, decide_eq_true_iff]
  constructor
  · rintro ⟨x, hx, e⟩
    have e2 : (x == s) = true := e
    rw [← beq_iff_eq.mp e2]; exact hx
  · intro h
    exact ⟨s, h, beq_self_eq_true s⟩
theorem in_ints (s : Int) (ss : List Int) : inV (.int s) (ss.map V.int) = decide (s ∈ ss) := by
  unfold inV
  rw [List.any_map, Bool.eq_iff_iff, List.any_eq_true, decide_eq_true_iff]
  constructor
  · rintro ⟨x, hx, e⟩
    have e2 : (x == s) = true := e
    rw [← beq_iff_eq.mp e2]; exact hx
  · intro h
    exact ⟨s, h, beq_self_eq_true s⟩
theorem in_ok {K : PySem.W.Frag} {n : Bool} {W : Wd} {own : Nat → Option Addr} {H : Hp} {x y : V} {a b : DV} {R : Bool → Prop} {Q : VK} (hx : IsP W own H x a) (hy : IsP W own H y b) (h : inD a b R) (q : ∀ k, R k → Q (.bl (if n then !k else k)) H) : bIn K n x y H Q := by
  unfold inD at h
  split at h
  · obtain ⟨c, rfl, r⟩ := h
    cases hx.str; cases hy.str
    exact .inr ⟨c, _, rfl, rfl, q _ r⟩
  · obtain ⟨ss, rfl, r⟩ := h
    cases hx.str
    obtain ⟨p, vs, rfl, h1, h2, h3⟩ := hy.lst
    obtain rfl := iss_str h3
    exact .inl ⟨p, _, rfl, .inl (SqL.of h1), rfl, flat_strs _, by rw [in_strs]; exact q _ r⟩
  · obtain ⟨ss, rfl, r⟩ := h
    cases hx.str
    obtain ⟨p, vs, rfl, h1, h2, h3⟩ := hy.tup
    obtain rfl := iss_str h3
    exact .inl ⟨p, _, rfl, .inr (SqT.of h1), rfl, flat_strs _, by rw [in_strs]; exact q _ r⟩
  · obtain ⟨ss, rfl, r⟩ := h
    cases hx.int
    obtain ⟨p, vs, rfl, h1, h2, h3⟩ := hy.lst
    obtain rfl := iss_int h3
    exact .inl ⟨p, _, rfl, .inl (SqL.of h1), rfl, flat_ints _, by rw [in_ints]; exact q _ r⟩
  · obtain ⟨ss, rfl, r⟩ := h
    cases hx.int
    obtain ⟨p, vs, rfl, h1, h2, h3⟩ := hy.tup
    obtain rfl := iss_int h3
    exact .inl ⟨p, _, rfl, .inr (SqT.of h1), rfl, flat_ints _, by rw [in_ints]; exact q _ r⟩
  · exact h.elim
theorem opIn {K : PySem.W.Frag} : Op (bIn K false) dIn := by
  intro W own H x y a b R Q o hx hy hd f
  exact in_ok hx hy hd fun k r => f.bl o r
theorem opNi {K : PySem.W.Frag} : Op (bIn K true) dNi := by
  intro W own H x y a b R Q o hx hy hd f
  exact in_ok hx hy hd fun k r => f.bl o r
def dIx : D2 := fun a b R => match a, b with
  | .lst xs, .int i => ∃ d, atI xs i = some d ∧ R d
  | .tup xs, .int i => ∃ d, atI xs i = some d ∧ R d
  | .str s, .int i => s.length ≤ 1000000 ∧ ∃ c, atI s.cps.toList i = some c ∧ R (.str ⟨#[c]⟩)
  | _, _ => False
theorem iss_at {W : Wd} {H : Hp} {vs : List V} {xs : List DV} {i : Int} {d : DV} (h : Iss W H vs xs) (e : atI xs i = some d) : ∃ v, atI vs i = some v ∧ Is W H v d := by
  unfold atI at e ⊢
  rw [h.len]
  cases z : ixN xs.length i with
  | none => rw [z] at e; cases e
  | some j =>
    rw [z] at e
    exact h.get e
theorem opIx {K : PySem.W.Frag} : Op (aIx K) dIx := by
  intro W own H x y a b R Q o hx hy hd f
  unfold dIx at hd
  split at hd
  · obtain ⟨d, e, r⟩ := hd
    obtain ⟨p, vs, rfl, h1, h2, h3⟩ := hx.lst
    cases hy.int
    obtain ⟨v, hv, hi⟩ := iss_at h3 e
    exact ix_m h1 hv (f.at o hi r)
  · obtain ⟨d, e, r⟩ := hd
    obtain ⟨p, vs, rfl, h1, h2, h3⟩ := hx.tup
    cases hy.int
    obtain ⟨v, hv, hi⟩ := iss_at h3 e
    exact ix_t (SqT.of h1) hv (f.at o hi r)
  · obtain ⟨l, c, e, r⟩ := hd
    cases hx.str; cases hy.int
    exact .inr (.inr ⟨_, _, c, rfl, rfl, le_line l, e, f.str o r⟩)
  · exact hd.elim
section
variable {X : Cx} {e a b c : Expr} {w wa wb wc : WE} {t : WT} {pos : Pos}
theorem dop {op : Operator} {r : R2} {d : D2} (ho : OpR X (binaryOp op) r) (h : Op r d) (ha : PE X a (liftP wa)) (hb : PE X b (liftP wb)) : PE X (.BinOp a op b pos) (lift (wOp d wa wb)) := pe_weak (pe_op ho ha hb) (op_tr h rfl rfl)
theorem dcmp {op : CmpOp} {r : R2} {d : D2} (ho : OpR X (compareOp op) r) (h : Op r d) (ha : PE X a (liftP wa)) (hb : PE X b (liftP wb)) (hm : behindInMarks op b = false) : PE X (.Compare a [op] [b] pos) (lift (wOp d wa wb)) := pe_weak (pe_cmpR ho ha hb hm) (op_tr h rfl rfl)
theorem dix {r : R2} {d : D2} (ho : IxR X r) (h : Op r d) (ha : PE X a (liftP wa)) (hb : PE X b (liftP wb)) (hs : PlainIx b) : PE X (.Subscript a b pos) (lift (wOp d wa wb)) := pe_weak (pe_ix ho ha hb hs) (op_tr h rfl rfl)
/-- a test of a comparison -/
def wTB (w : WE) : WT := fun ρ R => w ρ fun d => match d with
  | .bl k => R k
  | _ => False
theorem pt_weak {e : Expr} {t t' : TT} (h : PT X e t) (w : ∀ σ H Q, t' σ H Q → t σ H Q) : PT X e t' := ⟨fun pins s σ H Q I q => h.run pins s σ H Q I (w σ H Q q)⟩
theorem dtcmp {op : CmpOp} {r : R2} {d : D2} (ho : OpR X (compareOp op) r) (h : Op r d) (ha : PE X a (liftP wa)) (hb : PE X b (liftP wb)) (hm : behindInMarks op b = false) : PT X (.Compare a [op] [b] pos) (liftT (wTB (wOp d wa wb))) := pt_weak (pt_cmpR ho ha hb hm) fun σ H Q q => by
  obtain ⟨W, own, ρ, R, o, i, z, f⟩ := q
  refine op_tr h rfl rfl σ H _ ⟨W, own, ρ, _, o, i, z, fun d v H' r k o' i' => ?_⟩
  split at r
  · cases i'
    exact ⟨_, rfl, f _ _ r k o'⟩
  · exact r.elim
def isNon : DV → Bool
  | .non => true
  | _ => false
def wIsN (w : WE) : WE := fun ρ R => w ρ fun d => R (.bl (isNon d))
theorem is_non {W : Wd} {own : Nat → Option Addr} {H : Hp} {v : V} {d : DV} (h : IsP W own H v d) : decide (v = .non) = isNon d := by
  rcases h with h | ⟨i, a, vs, xs, h1, h2, h3, h4, _⟩
  · cases h <;> first | exact decide_eq_true rfl | exact decide_eq_false (fun z => nomatch z)
  · subst h3 h4; exact decide_eq_false (fun z => nomatch z)
/-- truth -/
def dTru (d : DV) (R : Bool → Prop) : Prop := match d with
  | .non => R false
  | .bl k => R k
  | .int i => R (i != 0)
  | .str s => s.length ≤ 1000000 ∧ R ((s.length : Int) != 0)
  | .lst xs => R (!xs.isEmpty)
  | .tup xs => R (!xs.isEmpty)
  | _ => False
def wTru (w : WE) : WT := fun ρ R => w ρ fun d => dTru d R
theorem emp_len {α β : Type} {a : List α} {b : List β} (h : a.length = b.length) : a.isEmpty = b.isEmpty := by
  cases a <;> cases b <;> first | rfl | cases h
theorem tru_ok {K : PySem.W.Frag} {W : Wd} {own : Nat → Option Addr} {H : Hp} {v : V} {d : DV} {R : Bool → Prop} (h : IsP W own H v d) (r : dTru d R) : ∃ k, TruV K v H k ∧ R k := by
  cases d with
  | non => cases h.non; exact ⟨false, rfl, r⟩
  | bl k => cases h.bl; exact ⟨k, rfl, r⟩
  | int i => cases h.int; exact ⟨_, rfl, r⟩
  | str s => cases h.str; exact ⟨_, ⟨le_line r.1, rfl⟩, r.2⟩
  | lst xs =>
    obtain ⟨p, vs, rfl, h1, h2, h3⟩ := h.lst
    exact ⟨!vs.isEmpty, .inl ⟨vs, SqL.of h1, rfl⟩, by rw [emp_len h3.len]; exact r⟩
  | tup xs =>
    obtain ⟨p, vs, rfl, h1, h2, h3⟩ := h.tup
    exact ⟨!vs.isEmpty, .inr (.inl ⟨vs, SqT.of h1, rfl⟩), by rw [emp_len h3.len]; exact r⟩
  | _ => exact r.elim
theorem dtru (ha : PE X a (liftP wa)) (he : ∀ whole, isTrue a X.env whole = (do let v ← whole; standAt a.pos; holding [v] (truthy v)) := by exact fun _ => rfl) : PT X a (liftT (wTru wa)) := pt_weak (pt_truth ha he) fun σ H Q q => by
  obtain ⟨W, own, ρ, R, o, i, z, f⟩ := q
  refine ⟨W, own, ρ, _, o, i, z, fun d v H' r k o' i' => ?_⟩
  obtain ⟨b, h1, h2⟩ := tru_ok i' r
  exact ⟨b, h1, f _ _ h2 k o'⟩
def wAnd (a b : WT) : WT := fun ρ R => a ρ fun k => if k = true then b ρ R else R false
def wOr (a b : WT) : WT := fun ρ R => a ρ fun k => if k = true then R true else b ρ R
def wNot (a : WT) : WT := fun ρ R => a ρ fun k => R (!k)
variable {ta tb : WT} {rest : List Expr}
theorem pw_weak {e : Expr} {t t' : TT} (h : PW X e t) (w : ∀ σ H Q, t' σ H Q → t σ H Q) : PW X e t' := ⟨fun wh pins s σ H Q I q => h.run wh pins s σ H Q I (w σ H Q q)⟩
theorem dand1 (ha : PT X a (liftT ta)) : PW X (.BoolOp .And [a] pos) (liftT ta) := pw_and1 ha
theorem dor1 (ha : PT X a (liftT ta)) : PW X (.BoolOp .Or [a] pos) (liftT ta) := pw_or1 ha
theorem dand (ha : PT X a (liftT ta)) (hb : PW X (.BoolOp .And (b :: rest) pos) (liftT tb)) : PW X (.BoolOp .And (a :: b :: rest) pos) (liftT (wAnd ta tb)) := pw_weak (pw_and ha hb) fun σ H Q q => by
  obtain ⟨W, own, ρ, R, o, i, z, f⟩ := q
  refine ⟨W, own, ρ, _, o, i, z, fun k H' r kk o' => ?_⟩
  cases k with
  | true => exact ⟨W, own, ρ, R, o', i.mono o kk, r, fun b H2 r2 k2 o2 => f b H2 r2 (kk.trans k2) o2⟩
  | false => exact f _ _ r kk o'
theorem dor (ha : PT X a (liftT ta)) (hb : PW X (.BoolOp .Or (b :: rest) pos) (liftT tb)) : PW X (.BoolOp .Or (a :: b :: rest) pos) (liftT (wOr ta tb)) := pw_weak (pw_or ha hb) fun σ H Q q => by
  obtain ⟨W, own, ρ, R, o, i, z, f⟩ := q
  refine ⟨W, own, ρ, _, o, i, z, fun k H' r kk o' => ?_⟩
  cases k with
  | false => exact ⟨W, own, ρ, R, o', i.mono o kk, r, fun b H2 r2 k2 o2 => f b H2 r2 (kk.trans k2) o2⟩
  | true => exact f _ _ r kk o'
theorem dnot (ha : PT X a (liftT ta)) : PT X (.UnaryOp .Not a pos) (liftT (wNot ta)) := pt_weak (pt_not ha) fun σ H Q q => by
  obtain ⟨W, own, ρ, R, o, i, z, f⟩ := q
  exact ⟨W, own, ρ, _, o, i, z, fun k H' r kk o' => f _ _ r kk o'⟩
/-- values of and, or, not: truth values -/
def wAndV (wa wb : WE) : WE := fun ρ R => wa ρ fun d => match d with
  | .bl k => if k = true then wb ρ R else R (.bl false)
  | _ => False
def wOrV (wa wb : WE) : WE := fun ρ R => wa ρ fun d => match d with
  | .bl k => if k = true then R (.bl true) else wb ρ R
  | _ => False
def wNotV (wa : WE) : WE := fun ρ R => wa ρ fun d => dTru d fun k => R (.bl (!k))
theorem done {op} (h : PE X a (lift wa)) : PE X (.BoolOp op [a] pos) (lift wa) := pe_one h
theorem dandV (ha : PE X a (lift wa)) (hb : PE X (.BoolOp .And (b :: rest) pos) (lift wb)) : PE X (.BoolOp .And (a :: b :: rest) pos) (lift (wAndV wa wb)) := pe_weak (pe_and ha hb) fun σ H Q q => by
  obtain ⟨W, own, ρ, R, o, i, z, f⟩ := q
  refine ⟨W, own, ρ, _, o, i, z, fun d v H1 r1 k1 o1 i1 => ?_⟩
  split at r1
  · rename_i k
    cases i1
    refine ⟨k, rfl, ?_⟩
    cases k with
    | true => exact ⟨W, own, ρ, R, o1, i.mono o k1, r1, f.mono k1⟩
    | false => exact (f.mono k1).bl o1 r1
  · exact r1.elim
theorem dorV (ha : PE X a (lift wa)) (hb : PE X (.BoolOp .Or (b :: rest) pos) (lift wb)) : PE X (.BoolOp .Or (a :: b :: rest) pos) (lift (wOrV wa wb)) := pe_weak (pe_or ha hb) fun σ H Q q => by
  obtain ⟨W, own, ρ, R, o, i, z, f⟩ := q
  refine ⟨W, own, ρ, _, o, i, z, fun d v H1 r1 k1 o1 i1 => ?_⟩
  split at r1
  · rename_i k
    cases i1
    refine ⟨k, rfl, ?_⟩
    cases k with
    | false => exact ⟨W, own, ρ, R, o1, i.mono o k1, r1, f.mono k1⟩
    | true => exact (f.mono k1).bl o1 r1
  · exact r1.elim
theorem dnotV (ha : PE X a (liftP wa)) : PE X (.UnaryOp .Not a pos) (lift (wNotV wa)) := pe_weak (pe_notT ha) fun σ H Q q => by
  obtain ⟨W, own, ρ, R, o, i, z, f⟩ := q
  refine ⟨W, own, ρ, _, o, i, z, fun d v H1 r1 k1 o1 i1 => ?_⟩
  obtain ⟨b, h1, h2⟩ := tru_ok i1 r1
  exact ⟨b, h1, (f.mono k1).bl o1 h2⟩
def wIf (t : WT) (wa wb : WE) : WE := fun ρ R => t ρ fun k => if k = true then wa ρ R else wb ρ R
/-- a < b < c -/
def wChain (d d' : D2) (wa wb wc : WE) : WE := fun ρ R => wa ρ fun x => wb ρ fun y => d x y fun z => match z with
  | .bl k => if k = true then wc ρ fun z' => d' y z' R else R (.bl false)
  | _ => False
theorem chain_tr {r r' : R2} {d d' : D2} (h : Op r d) (h' : Op r' d') : ∀ σ H Q, lift (wChain d d' wa wb wc) σ H Q → tChain r r' (liftP wa) (liftP wb) (liftP wc) σ H Q := fun σ H Q q => by
  obtain ⟨W, own, ρ, R, o, i, z, f⟩ := q
  refine ⟨W, own, ρ, _, o, i, z, fun x v H1 r1 k1 o1 i1 => ⟨W, own, ρ, _, o1, i.mono o k1, r1, fun y u H2 r2 k2 o2 i2 => ?_⟩⟩
  refine h W own H2 v u x y _ _ o2 (i1.mono o1 k2) i2 r2 fun z zv H3 r3 k3 o3 i3 => ?_
  have k13 := (k1.trans k2).trans k3
  split at r3
  · rename_i k
    cases i3
    refine ⟨k, rfl, ?_⟩
    cases k with
    | true => exact ⟨W, own, ρ, _, o3, i.mono o k13, r3, fun z' zv H4 r4 k4 o4 i4 => h' W own H4 u zv y z' R Q o4 (i2.mono o2 (k3.trans k4)) i4 r4 (f.mono (k13.trans k4))⟩
    | false => exact (f.mono k13).bl o3 r3
  · exact r3.elim
abbrev DA := List DV → (DV → Prop) → Prop
def Cl (r : List V → Hp → VK → Prop) (d : DA) : Prop := ∀ W own H vs ds R Q, W.Ok H → Paired (IsP W own H) vs ds → d ds R → Fin W H R Q → r vs H Q
def wCB (d : DA) (wa : WA) : WE := fun ρ R => wa ρ fun ds => d ds R
theorem cb_tr {r : List V → Hp → VK → Prop} {d : DA} (h : Cl r d) {wa : WA} : ∀ σ H Q, lift (wCB d wa) σ H Q → tCB r (liftB wa) σ H Q := fun σ H Q q => by
  obtain ⟨W, own, ρ, R, o, i, z, f⟩ := q
  exact ⟨W, own, ρ, _, o, i, z, fun ds vs H1 r1 k1 o1 i1 => h W own H1 vs ds R Q o1 i1 r1 (f.mono k1)⟩
end
end DL
namespace DL
open PySem PySem.Spec PyProof.Rows L2 NW
structure WEnds where
  nx : Env → Prop
  rt : DV → Prop
  bk : Env → Prop := fun _ => False
  ct : Env → Prop := fun _ => False
  xc : DV → Env → Prop := fun _ _ => False
abbrev WS := WEnds → Env → Prop
/-- what stands fast through a def: the store, what nobody may reach, the heap at the def's entry -/
structure Bs where
  st : Option Addr
  hid : Addr → Prop
  H0 : Hp
def Bs.w (B : Bs) (own : Nat → Option Addr) : Wd := ⟨B.st, fun a => B.hid a ∨ ∃ i, own i = some a⟩
def Bs.w0 (B : Bs) : Wd := ⟨B.st, B.hid⟩
structure Ctx (B : Bs) (own : Nat → Option Addr) (H : Hp) (σ : L2.St) (ρ : Env) : Prop where
  s0 : StoW B.st B.H0
  k : Kp B.st B.H0 H
  ok : (B.w own).Ok H
  e : IsE (B.w own) own H σ ρ
  o : ∀ i a, own i = some a → B.H0 a = none ∧ ¬ B.hid a
  inj : ∀ i j a, own i = some a → own j = some a → i = j
structure Dl (B : Bs) (E : WEnds) (D : Ends) (Ex : L2.WX) : Prop where
  nx : ∀ own ρ σ H, E.nx ρ → Ctx B own H σ ρ → D.nx σ H
  bk : ∀ own ρ σ H, E.bk ρ → Ctx B own H σ ρ → D.bk σ H
  ct : ∀ own ρ σ H, E.ct ρ → Ctx B own H σ ρ → D.ct σ H
  rt : ∀ d v H, E.rt d → Kp B.st B.H0 H → B.w0.Ok H → Is B.w0 H v d → D.rt v H
  xc : ∀ own ρ σ H C ns xs dd fs, E.xc (.err C ns xs) ρ → Ctx B own H σ ρ → H dd = some (.xd fs) → (B.w own).ok dd → fs.map (·.1) = ns → Iss (B.w own) H (fs.map (·.2)) xs → Ex (.ref C) (some dd) σ H
def liftS (Ex : L2.WX) (w : WS) : TS := fun D σ H => ∃ B own ρ E, Ctx B own H σ ρ ∧ w E ρ ∧ Dl B E D Ex
section
variable {B : Bs} {own own' : Nat → Option Addr} {H H' : Hp} {σ : L2.St} {ρ : Env}
/-- less is hidden -/
theorem Is.less {W W' : Wd} (e1 : W'.st = W.st) (s : ∀ a, W'.hid a → W.hid a) {v : V} {d : DV} (h : Is W H v d) : Is W' H v d := h.tr e1 fun b _ k z => ⟨⟨by rw [e1]; exact k.1, fun q => k.2 (s b q)⟩, z⟩
theorem Iss.less {W W' : Wd} (e1 : W'.st = W.st) (s : ∀ a, W'.hid a → W.hid a) {v : List V} {d : List DV} (h : Iss W H v d) : Iss W' H v d := h.tr e1 fun b _ k z => ⟨⟨by rw [e1]; exact k.1, fun q => k.2 (s b q)⟩, z⟩
theorem ok_less {W W' : Wd} (e1 : W'.st = W.st) (s : ∀ a, W'.hid a → W.hid a) (h : W.Ok H) : W'.Ok H := ⟨by rw [e1]; exact h.s, fun a ha => by rw [e1]; exact h.h a (s a ha)⟩
theorem Ctx.mono (c : Ctx B own H σ ρ) (k : Kp B.st H H') (o : (B.w own).Ok H') : Ctx B own H' σ ρ := ⟨c.s0, c.k.trans k, o, c.e.mono c.ok k, c.o, c.inj⟩
theorem w0_sub : ∀ a, B.w0.hid a → (B.w own).hid a := fun _ h => .inl h
theorem Ctx.ok0 (c : Ctx B own H σ ρ) : B.w0.Ok H := ok_less (W := B.w own) (W' := B.w0) rfl w0_sub c.ok
/-- own names let go -/
theorem Ctx.sub (c : Ctx B own H σ ρ) (s : ∀ i a, own' i = some a → own i = some a) {σ' : L2.St} {ρ' : Env} (e : IsE (B.w own') own' H σ' ρ') : Ctx B own' H σ' ρ' :=
  ⟨c.s0, c.k, ok_less (W := B.w own) (W' := B.w own') rfl (fun a h => h.elim .inl fun ⟨i, z⟩ => .inr ⟨i, s i a z⟩) c.ok, e, fun i a z => c.o i a (s i a z), fun i j a z z' => c.inj i j a (s i a z) (s j a z')⟩
def cut (own : Nat → Option Addr) (i : Nat) : Nat → Option Addr := fun j => if j = i then none else own j
theorem cut_sub {i : Nat} : ∀ j a, cut own i j = some a → own j = some a := fun j a h => by
  unfold cut at h
  split at h
  · cases h
  · exact h
theorem cut_ne {i j : Nat} (n : j ≠ i) : cut own i j = own j := if_neg n
theorem hid_cut {i : Nat} : ∀ a, (B.w (cut own i)).hid a → (B.w own).hid a := fun a h => h.elim .inl fun ⟨j, z⟩ => .inr ⟨j, cut_sub j a z⟩
theorem get_set {α : Type} {l : List α} {i j : Nat} {x y : α} (h : (l.set i x)[j]? = some y) : (j = i ∧ i < l.length ∧ y = x) ∨ (j ≠ i ∧ l[j]? = some y) := by
  rw [List.getElem?_set] at h
  split at h
  · rename_i e
    split at h
    · rename_i e2
      exact .inl ⟨e.symm, e2, (Option.some.inj h).symm⟩
    · cases h
  · rename_i e
    exact .inr ⟨fun z => e z.symm, h⟩
theorem Is.cut {i : Nat} {v : V} {d : DV} (h : Is (B.w own) H v d) : Is (B.w (DL.cut own i)) H v d := Is.less (W := B.w own) (W' := B.w (DL.cut own i)) rfl hid_cut h
theorem Iss.cut {i : Nat} {v : List V} {d : List DV} (h : Iss (B.w own) H v d) : Iss (B.w (DL.cut own i)) H v d := Iss.less (W := B.w own) (W' := B.w (DL.cut own i)) rfl hid_cut h
theorem Is.w0 {v : V} {d : DV} (h : Is (B.w own) H v d) : Is B.w0 H v d := Is.less (W := B.w own) (W' := B.w0) rfl w0_sub h
theorem Iss.w0 {v : List V} {d : List DV} (h : Iss (B.w own) H v d) : Iss B.w0 H v d := Iss.less (W := B.w own) (W' := B.w0) rfl w0_sub h
/-- a name gets data -/
theorem Ctx.set (c : Ctx B own H σ ρ) (i : Nat) {v : V} {d : DV} (h : Is (B.w own) H v d) : Ctx B (cut own i) H (σ.set i (some v)) (ρ.set i (.dt d)) := by
  refine c.sub cut_sub ⟨?_, fun j x e => ?_, fun j xs e => ?_, fun j ks xs e => ?_, fun j A C ns xs e => ?_, fun j a z => .inr ⟨j, z⟩⟩
  · rw [List.length_set, List.length_set]; exact c.e.len
  · rcases get_set e with ⟨rfl, l, z⟩ | ⟨n, z⟩
    · cases z
      refine ⟨v, ?_, h.cut⟩
      rw [List.getElem?_set_self (by rw [c.e.len]; exact l)]
    · obtain ⟨u, h1, h2⟩ := c.e.dt j x z
      exact ⟨u, by rw [List.getElem?_set_ne (Ne.symm n)]; exact h1, h2.cut⟩
  · rcases get_set e with ⟨rfl, l, z⟩ | ⟨n, z⟩
    · cases z
    · obtain ⟨a, vs, h1, h2, h3, h4, h5⟩ := c.e.ow j xs z
      exact ⟨a, vs, by rw [cut_ne n]; exact h1, by rw [List.getElem?_set_ne (Ne.symm n)]; exact h2, h3, h4, h5.cut⟩
  · rcases get_set e with ⟨rfl, l, z⟩ | ⟨n, z⟩
    · cases z
    · obtain ⟨a, vs, h1, h2, h3, h4, h5⟩ := c.e.od j ks xs z
      exact ⟨a, vs, by rw [cut_ne n]; exact h1, by rw [List.getElem?_set_ne (Ne.symm n)]; exact h2, h3, h4, h5.cut⟩
  · rcases get_set e with ⟨rfl, l, z⟩ | ⟨n, z⟩
    · cases z
    · obtain ⟨a, vs, h1, h2, h3, h4, h5⟩ := c.e.oi j A C ns xs z
      exact ⟨a, vs, by rw [cut_ne n]; exact h1, by rw [List.getElem?_set_ne (Ne.symm n)]; exact h2, h3, h4, h5.cut⟩
def owi (own : Nat → Option Addr) (i : Nat) (q : Addr) : Nat → Option Addr := fun j => if j = i then some q else own j
/-- a name gets a fresh list of its own -/
theorem Ctx.setO (c : Ctx B own H σ ρ) (i : Nat) {q : Addr} {vs : List V} {xs : List DV} (hq : H q = none) (l : vs.length ≤ 1000000) (h : Iss (B.w own) H vs xs) : Ctx B (owi own i q) (upd H q (.lst vs)) (σ.set i (some (.ref q))) (ρ.set i (.ow xs)) := by
  have fr := c.ok.fresh hq
  have s := same_new (o := .lst vs) hq
  have hide : ∀ a, (B.w (owi own i q)).hid a → (B.w own).hid a ∨ a = q := fun a h => by
    rcases h with h | ⟨j, z⟩
    · exact .inl (.inl h)
    · unfold owi at z
      split at z
      · exact .inr (Option.some.inj z).symm
      · exact .inl (.inr ⟨j, z⟩)
  have is2 : ∀ {v : V} {d : DV}, Is (B.w own) H v d → Is (B.w (owi own i q)) (upd H q (.lst vs)) v d := fun h => Is.tr (W := B.w own) (W' := B.w (owi own i q)) rfl (fun b o k z => ⟨⟨k.1, fun w => (hide b w).elim k.2 fun e => ne_of_none z hq e⟩, s b o z⟩) h
  have iss2 : ∀ {v : List V} {d : List DV}, Iss (B.w own) H v d → Iss (B.w (owi own i q)) (upd H q (.lst vs)) v d := fun h => Iss.tr (W := B.w own) (W' := B.w (owi own i q)) rfl (fun b o k z => ⟨⟨k.1, fun w => (hide b w).elim k.2 fun e => ne_of_none z hq e⟩, s b o z⟩) h
  have h0 : B.H0 q = none := by
    cases e : B.H0 q with
    | none => rfl
    | some o =>
      have z := c.k.o e fr.1
      rw [hq] at z; cases z
  refine ⟨c.s0, c.k.trans (Kp.same s), ⟨c.ok.s.same s, fun a ha => ?_⟩, ⟨?_, fun j x e => ?_, fun j ys e => ?_, fun j ks ys e => ?_, fun j A C ns ys e => ?_, fun j a z => .inr ⟨j, z⟩⟩, fun j a z => ?_, fun j k a z z' => ?_⟩
  · rcases hide a ha with ha | rfl
    · obtain ⟨⟨o, ho⟩, n⟩ := c.ok.h a ha
      exact ⟨⟨o, s _ _ ho⟩, n⟩
    · exact ⟨⟨_, upd_same⟩, fr.1⟩
  · rw [List.length_set, List.length_set]; exact c.e.len
  · rcases get_set e with ⟨rfl, l, z⟩ | ⟨n, z⟩
    · cases z
    · obtain ⟨u, h1, h2⟩ := c.e.dt j x z
      exact ⟨u, by rw [List.getElem?_set_ne (Ne.symm n)]; exact h1, is2 h2⟩
  · rcases get_set e with ⟨rfl, l2, z⟩ | ⟨n, z⟩
    · cases z
      refine ⟨q, vs, if_pos rfl, ?_, upd_same, l, iss2 h⟩
      rw [List.getElem?_set_self (by rw [c.e.len]; exact l2)]
    · obtain ⟨a, us, h1, h2, h3, h4, h5⟩ := c.e.ow j ys z
      exact ⟨a, us, by unfold owi; rw [if_neg n]; exact h1, by rw [List.getElem?_set_ne (Ne.symm n)]; exact h2, s _ _ h3, h4, iss2 h5⟩
  · rcases get_set e with ⟨rfl, l2, z⟩ | ⟨n, z⟩
    · cases z
    · obtain ⟨a, us, h1, h2, h3, h4, h5⟩ := c.e.od j ks ys z
      exact ⟨a, us, by unfold owi; rw [if_neg n]; exact h1, by rw [List.getElem?_set_ne (Ne.symm n)]; exact h2, s _ _ h3, h4, iss2 h5⟩
  · rcases get_set e with ⟨rfl, l2, z⟩ | ⟨n, z⟩
    · cases z
    · obtain ⟨a, us, h1, h2, ⟨dx, h3⟩, h4, h5⟩ := c.e.oi j A C ns ys z
      exact ⟨a, us, by unfold owi; rw [if_neg n]; exact h1, by rw [List.getElem?_set_ne (Ne.symm n)]; exact h2, ⟨dx, s _ _ h3⟩, h4, iss2 h5⟩
  · unfold owi at z
    split at z
    · cases z
      exact ⟨h0, fun w => fr.2 (.inl w)⟩
    · exact c.o j a z
  · unfold owi at z z'
    split at z <;> split at z'
    · rename_i e1 e2; rw [e1, e2]
    · cases z
      obtain ⟨⟨o, ho⟩, _⟩ := c.ok.h _ (.inr ⟨k, z'⟩)
      rw [hq] at ho; cases ho
    · cases z'
      obtain ⟨⟨o, ho⟩, _⟩ := c.ok.h _ (.inr ⟨j, z⟩)
      rw [hq] at ho; cases ho
    · exact c.inj j k a z z'
/-- a list of one's own changes -/
theorem Ctx.updO (c : Ctx B own H σ ρ) (i : Nat) {a : Addr} {vs : List V} {xs ys : List DV} (h : own i = some a) (r : ρ[i]? = some (.ow xs)) (l : vs.length ≤ 1000000) (is : Iss (B.w own) H vs ys) : Ctx B own (upd H a (.lst vs)) σ (ρ.set i (.ow ys)) := by
  have nk : ¬ (B.w own).ok a := fun k => k.2 (.inr ⟨i, h⟩)
  have na := (c.ok.h a (.inr ⟨i, h⟩)).2
  have h0 := (c.o i a h).1
  have hl : i < ρ.length := (List.getElem?_eq_some_iff.mp r).1
  obtain ⟨a', vs', g1, g2, g3, g4, g5⟩ := c.e.ow i xs r
  rw [h] at g1; cases g1
  refine ⟨c.s0, c.k.own h0 na, ⟨?_, fun b hb => ?_⟩, ⟨?_, fun j x e => ?_, fun j zs e => ?_, fun j ks zs e => ?_, fun j A C ns zs e => ?_, c.e.hd⟩, c.o, c.inj⟩
  · have s := c.ok.s
    have kk := c.k
    show StoW B.st _
    have s : StoW B.st H := s
    cases e : B.st with
    | none => trivial
    | some st =>
      rw [e] at s kk
      have n1 : a ≠ st := fun z => na (by show B.st = _; rw [e, z])
      have s0 := c.s0
      rw [e] at s0
      obtain ⟨cl, ns, q1, q2, q3, q4, q5, w1, w2, w3⟩ := s0
      obtain ⟨r', hr⟩ := Keep.h kk _ _ w1
      exact Sto.own s hr n1 fun z => by rw [z, w2] at h0; cases h0
  · obtain ⟨⟨o, ho⟩, n⟩ := c.ok.h b hb
    by_cases e : b = a
    · rw [e]; exact ⟨⟨_, upd_same⟩, na⟩
    · exact ⟨⟨o, by rw [upd_ne e]; exact ho⟩, n⟩
  · rw [List.length_set]; exact c.e.len
  · rcases get_set e with ⟨rfl, l, z⟩ | ⟨n, z⟩
    · cases z
    · obtain ⟨u, h1, h2⟩ := c.e.dt j x z
      exact ⟨u, h1, h2.off nk⟩
  · rcases get_set e with ⟨rfl, l2, z⟩ | ⟨n, z⟩
    · cases z
      exact ⟨a, vs, h, g2, upd_same, l, is.off nk⟩
    · obtain ⟨b, us, h1, h2, h3, h4, h5⟩ := c.e.ow j zs z
      have nb : b ≠ a := fun e => n (c.inj j i a (by rw [← e]; exact h1) h)
      exact ⟨b, us, h1, h2, by rw [upd_ne nb]; exact h3, h4, h5.off nk⟩
  · rcases get_set e with ⟨rfl, l2, z⟩ | ⟨n, z⟩
    · cases z
    · obtain ⟨b, us, h1, h2, h3, h4, h5⟩ := c.e.od j ks zs z
      have nb : b ≠ a := fun e => n (c.inj j i a (by rw [← e]; exact h1) h)
      exact ⟨b, us, h1, h2, by rw [upd_ne nb]; exact h3, h4, h5.off nk⟩
  · rcases get_set e with ⟨rfl, l2, z⟩ | ⟨n, z⟩
    · cases z
    · obtain ⟨b, us, h1, h2, ⟨dx, h3⟩, h4, h5⟩ := c.e.oi j A C ns zs z
      have nb : b ≠ a := fun e => n (c.inj j i a (by rw [← e]; exact h1) h)
      exact ⟨b, us, h1, h2, ⟨dx, by rw [upd_ne nb]; exact h3⟩, h4, h5.off nk⟩
/-- a name gets a fresh dict of its own -/
theorem Ctx.setD (c : Ctx B own H σ ρ) (i : Nat) {q : Addr} {kv : List (Key × V)} {kk : List Key} {xs : List DV} (hq : H q = none) (l : kv.length ≤ 1000000 ∧ kv.map (·.1) = kk ∧ kk.Nodup) (h : Iss (B.w own) H (kv.map (·.2)) xs) : Ctx B (owi own i q) (upd H q (.dK kv)) (σ.set i (some (.ref q))) (ρ.set i (.od kk xs)) := by
  have fr := c.ok.fresh hq
  have s := same_new (o := .dK kv) hq
  have hide : ∀ a, (B.w (owi own i q)).hid a → (B.w own).hid a ∨ a = q := fun a h => by
    rcases h with h | ⟨j, z⟩
    · exact .inl (.inl h)
    · unfold owi at z
      split at z
      · exact .inr (Option.some.inj z).symm
      · exact .inl (.inr ⟨j, z⟩)
  have is2 : ∀ {v : V} {d : DV}, Is (B.w own) H v d → Is (B.w (owi own i q)) (upd H q (.dK kv)) v d := fun h => Is.tr (W := B.w own) (W' := B.w (owi own i q)) rfl (fun b o k z => ⟨⟨k.1, fun w => (hide b w).elim k.2 fun e => ne_of_none z hq e⟩, s b o z⟩) h
  have iss2 : ∀ {v : List V} {d : List DV}, Iss (B.w own) H v d → Iss (B.w (owi own i q)) (upd H q (.dK kv)) v d := fun h => Iss.tr (W := B.w own) (W' := B.w (owi own i q)) rfl (fun b o k z => ⟨⟨k.1, fun w => (hide b w).elim k.2 fun e => ne_of_none z hq e⟩, s b o z⟩) h
  have h0 : B.H0 q = none := by
    cases e : B.H0 q with
    | none => rfl
    | some o =>
      have z := c.k.o e fr.1
      rw [hq] at z; cases z
  refine ⟨c.s0, c.k.trans (Kp.same s), ⟨c.ok.s.same s, fun a ha => ?_⟩, ⟨?_, fun j x e => ?_, fun j ys e => ?_, fun j ks ys e => ?_, fun j A C ns ys e => ?_, fun j a z => .inr ⟨j, z⟩⟩, fun j a z => ?_, fun j k a z z' => ?_⟩
  · rcases hide a ha with ha | rfl
    · obtain ⟨⟨o, ho⟩, n⟩ := c.ok.h a ha
      exact ⟨⟨o, s _ _ ho⟩, n⟩
    · exact ⟨⟨_, upd_same⟩, fr.1⟩
  · rw [List.length_set, List.length_set]; exact c.e.len
  · rcases get_set e with ⟨rfl, l, z⟩ | ⟨n, z⟩
    · cases z
    · obtain ⟨u, h1, h2⟩ := c.e.dt j x z
      exact ⟨u, by rw [List.getElem?_set_ne (Ne.symm n)]; exact h1, is2 h2⟩
  · rcases get_set e with ⟨rfl, l2, z⟩ | ⟨n, z⟩
    · cases z
    · obtain ⟨a, us, h1, h2, h3, h4, h5⟩ := c.e.ow j ys z
      exact ⟨a, us, by unfold owi; rw [if_neg n]; exact h1, by rw [List.getElem?_set_ne (Ne.symm n)]; exact h2, s _ _ h3, h4, iss2 h5⟩
  · rcases get_set e with ⟨rfl, l2, z⟩ | ⟨n, z⟩
    · cases z
      refine ⟨q, kv, if_pos rfl, ?_, upd_same, l, iss2 h⟩
      rw [List.getElem?_set_self (by rw [c.e.len]; exact l2)]
    · obtain ⟨a, us, h1, h2, h3, h4, h5⟩ := c.e.od j ks ys z
      exact ⟨a, us, by unfold owi; rw [if_neg n]; exact h1, by rw [List.getElem?_set_ne (Ne.symm n)]; exact h2, s _ _ h3, h4, iss2 h5⟩
  · rcases get_set e with ⟨rfl, l2, z⟩ | ⟨n, z⟩
    · cases z
    · obtain ⟨a, us, h1, h2, ⟨dx, h3⟩, h4, h5⟩ := c.e.oi j A C ns ys z
      exact ⟨a, us, by unfold owi; rw [if_neg n]; exact h1, by rw [List.getElem?_set_ne (Ne.symm n)]; exact h2, ⟨dx, s _ _ h3⟩, h4, iss2 h5⟩
  · unfold owi at z
    split at z
    · cases z
      exact ⟨h0, fun w => fr.2 (.inl w)⟩
    · exact c.o j a z
  · unfold owi at z z'
    split at z <;> split at z'
    · rename_i e1 e2; rw [e1, e2]
    · cases z
      obtain ⟨⟨o, ho⟩, _⟩ := c.ok.h _ (.inr ⟨k, z'⟩)
      rw [hq] at ho; cases ho
    · cases z'
      obtain ⟨⟨o, ho⟩, _⟩ := c.ok.h _ (.inr ⟨j, z⟩)
      rw [hq] at ho; cases ho
    · exact c.inj j k a z z'
/-- a dict of one's own changes -/
theorem Ctx.updD (c : Ctx B own H σ ρ) (i : Nat) {a : Addr} {kv : List (Key × V)} {kk kk' : List Key} {xs ys : List DV} (h : own i = some a) (r : ρ[i]? = some (.od kk xs)) (l : kv.length ≤ 1000000 ∧ kv.map (·.1) = kk' ∧ kk'.Nodup) (is : Iss (B.w own) H (kv.map (·.2)) ys) : Ctx B own (upd H a (.dK kv)) σ (ρ.set i (.od kk' ys)) := by
  have nk : ¬ (B.w own).ok a := fun k => k.2 (.inr ⟨i, h⟩)
  have na := (c.ok.h a (.inr ⟨i, h⟩)).2
  have h0 := (c.o i a h).1
  have hl : i < ρ.length := (List.getElem?_eq_some_iff.mp r).1
  obtain ⟨a', vs', g1, g2, g3, g4, g5⟩ := c.e.od i kk xs r
  rw [h] at g1; cases g1
  refine ⟨c.s0, c.k.own h0 na, ⟨?_, fun b hb => ?_⟩, ⟨?_, fun j x e => ?_, fun j zs e => ?_, fun j ks zs e => ?_, fun j A C ns zs e => ?_, c.e.hd⟩, c.o, c.inj⟩
  · have s := c.ok.s
    have kk := c.k
    show StoW B.st _
    have s : StoW B.st H := s
    cases e : B.st with
    | none => trivial
    | some st =>
      rw [e] at s kk
      have n1 : a ≠ st := fun z => na (by show B.st = _; rw [e, z])
      have s0 := c.s0
      rw [e] at s0
      obtain ⟨cl, ns, q1, q2, q3, q4, q5, w1, w2, w3⟩ := s0
      obtain ⟨r', hr⟩ := Keep.h kk _ _ w1
      exact Sto.own s hr n1 fun z => by rw [z, w2] at h0; cases h0
  · obtain ⟨⟨o, ho⟩, n⟩ := c.ok.h b hb
    by_cases e : b = a
    · rw [e]; exact ⟨⟨_, upd_same⟩, na⟩
    · exact ⟨⟨o, by rw [upd_ne e]; exact ho⟩, n⟩
  · rw [List.length_set]; exact c.e.len
  · rcases get_set e with ⟨rfl, l, z⟩ | ⟨n, z⟩
    · cases z
    · obtain ⟨u, h1, h2⟩ := c.e.dt j x z
      exact ⟨u, h1, h2.off nk⟩
  · rcases get_set e with ⟨rfl, l2, z⟩ | ⟨n, z⟩
    · cases z
    · obtain ⟨b, us, h1, h2, h3, h4, h5⟩ := c.e.ow j zs z
      have nb : b ≠ a := fun e => n (c.inj j i a (by rw [← e]; exact h1) h)
      exact ⟨b, us, h1, h2, by rw [upd_ne nb]; exact h3, h4, h5.off nk⟩
  · rcases get_set e with ⟨rfl, l2, z⟩ | ⟨n, z⟩
    · cases z
      exact ⟨a, kv, h, g2, upd_same, l, is.off nk⟩
    · obtain ⟨b, us, h1, h2, h3, h4, h5⟩ := c.e.od j ks zs z
      have nb : b ≠ a := fun e => n (c.inj j i a (by rw [← e]; exact h1) h)
      exact ⟨b, us, h1, h2, by rw [upd_ne nb]; exact h3, h4, h5.off nk⟩
  · rcases get_set e with ⟨rfl, l2, z⟩ | ⟨n, z⟩
    · cases z
    · obtain ⟨b, us, h1, h2, ⟨dx, h3⟩, h4, h5⟩ := c.e.oi j A C ns zs z
      have nb : b ≠ a := fun e => n (c.inj j i a (by rw [← e]; exact h1) h)
      exact ⟨b, us, h1, h2, ⟨dx, by rw [upd_ne nb]; exact h3⟩, h4, h5.off nk⟩
/-- an instance of one's own changes -/
theorem Ctx.updI (c : Ctx B own H σ ρ) (i : Nat) {a : Addr} {A C dx : Addr} {kv : List (Str × V)} {kk kk' : List Str} {xs ys : List DV} (h : own i = some a) (r : ρ[i]? = some (.oi A C kk xs)) (l : kv.length ≤ 500 ∧ kv.map (·.1) = kk' ∧ kk'.Nodup ∧ a = A) (is : Iss (B.w own) H (kv.map (·.2)) ys) : Ctx B own (upd H a (.ins C dx kv)) σ (ρ.set i (.oi A C kk' ys)) := by
  have nk : ¬ (B.w own).ok a := fun k => k.2 (.inr ⟨i, h⟩)
  have na := (c.ok.h a (.inr ⟨i, h⟩)).2
  have h0 := (c.o i a h).1
  have hl : i < ρ.length := (List.getElem?_eq_some_iff.mp r).1
  obtain ⟨a', vs', g1, g2, g3, g4, g5⟩ := c.e.oi i A C kk xs r
  rw [h] at g1; cases g1
  refine ⟨c.s0, c.k.own h0 na, ⟨?_, fun b hb => ?_⟩, ⟨?_, fun j x e => ?_, fun j zs e => ?_, fun j ks zs e => ?_, fun j A' C' ns zs e => ?_, c.e.hd⟩, c.o, c.inj⟩
  · have s := c.ok.s
    have kk := c.k
    show StoW B.st _
    have s : StoW B.st H := s
    cases e : B.st with
    | none => trivial
    | some st =>
      rw [e] at s kk
      have n1 : a ≠ st := fun z => na (by show B.st = _; rw [e, z])
      have s0 := c.s0
      rw [e] at s0
      obtain ⟨cl, ns, q1, q2, q3, q4, q5, w1, w2, w3⟩ := s0
      obtain ⟨r', hr⟩ := Keep.h kk _ _ w1
      exact Sto.own s hr n1 fun z => by rw [z, w2] at h0; cases h0
  · obtain ⟨⟨o, ho⟩, n⟩ := c.ok.h b hb
    by_cases e : b = a
    · rw [e]; exact ⟨⟨_, upd_same⟩, na⟩
    · exact ⟨⟨o, by rw [upd_ne e]; exact ho⟩, n⟩
  · rw [List.length_set]; exact c.e.len
  · rcases get_set e with ⟨rfl, l, z⟩ | ⟨n, z⟩
    · cases z
    · obtain ⟨u, h1, h2⟩ := c.e.dt j x z
      exact ⟨u, h1, h2.off nk⟩
  · rcases get_set e with ⟨rfl, l2, z⟩ | ⟨n, z⟩
    · cases z
    · obtain ⟨b, us, h1, h2, h3, h4, h5⟩ := c.e.ow j zs z
      have nb : b ≠ a := fun e => n (c.inj j i a (by rw [← e]; exact h1) h)
      exact ⟨b, us, h1, h2, by rw [upd_ne nb]; exact h3, h4, h5.off nk⟩
  · rcases get_set e with ⟨rfl, l2, z⟩ | ⟨n, z⟩
    · cases z
    · obtain ⟨b, us, h1, h2, h3, h4, h5⟩ := c.e.od j ks zs z
      have nb : b ≠ a := fun e => n (c.inj j i a (by rw [← e]; exact h1) h)
      exact ⟨b, us, h1, h2, by rw [upd_ne nb]; exact h3, h4, h5.off nk⟩
  · rcases get_set e with ⟨rfl, l2, z⟩ | ⟨n, z⟩
    · cases z
      exact ⟨a, kv, h, g2, ⟨dx, upd_same⟩, l, is.off nk⟩
    · obtain ⟨b, us, h1, h2, ⟨dx, h3⟩, h4, h5⟩ := c.e.oi j A' C' ns zs z
      have nb : b ≠ a := fun e => n (c.inj j i a (by rw [← e]; exact h1) h)
      exact ⟨b, us, h1, h2, ⟨dx, by rw [upd_ne nb]; exact h3⟩, h4, h5.off nk⟩
end
end DL
namespace DL
open PySem PySem.Spec PyProof.Rows L2 NW
def frz1 : Sl → Sl
  | .ow xs => .dt (.lst xs)
  | .od ks xs => .dt (.dic ks xs)
  | .oi _ C ns xs => .dt (.obj C ns xs)
  | s => s
def frzE (ρ : Env) : Env := ρ.map frz1
section
variable {Ex : L2.WX}
variable {B : Bs} {own : Nat → Option Addr} {H H' : Hp} {σ : L2.St} {ρ : Env}
theorem Ctx.frz (c : Ctx B own H σ ρ) : IsE B.w0 (fun _ => none) H σ (frzE ρ) := by
  refine ⟨?_, fun i d e => ?_, fun i xs e => ?_, fun i ks xs e => ?_, fun i A C ns xs e => ?_, fun _ _ z => nomatch z⟩
  · unfold frzE; rw [List.length_map]; exact c.e.len
  · unfold frzE at e
    rw [List.getElem?_map] at e
    cases z : ρ[i]? with
    | none => rw [z] at e; cases e
    | some s =>
      rw [z] at e
      have e : frz1 s = .dt d := Option.some.inj e
      cases s with
      | un => cases e
      | dt d' =>
        cases e
        obtain ⟨v, h1, h2⟩ := c.e.dt i d z
        exact ⟨v, h1, h2.w0⟩
      | ow xs =>
        cases e
        obtain ⟨a, vs, h1, h2, h3, h4, h5⟩ := c.e.ow i xs z
        exact ⟨_, h2, .lst h3 ⟨(c.ok.h a (.inr ⟨i, h1⟩)).2, (c.o i a h1).2⟩ h4 h5.w0⟩
      | od ks xs =>
        cases e
        obtain ⟨a, kvs, h1, h2, h3, h4, h5⟩ := c.e.od i ks xs z
        exact ⟨_, h2, .dic (.inl h3) ⟨(c.ok.h a (.inr ⟨i, h1⟩)).2, (c.o i a h1).2⟩ h4.1 h4.2.1 h4.2.2 h5.w0⟩
      | oi A C ns xs =>
        cases e
        obtain ⟨a, fs, h1, h2, ⟨dx, h3⟩, h4, h5⟩ := c.e.oi i A C ns xs z
        exact ⟨_, h2, .obj h3 ⟨(c.ok.h a (.inr ⟨i, h1⟩)).2, (c.o i a h1).2⟩ h4.2.1 h5.w0⟩
  · unfold frzE at e
    rw [List.getElem?_map] at e
    cases z : ρ[i]? with
    | none => rw [z] at e; cases e
    | some s =>
      rw [z] at e
      cases s <;> cases (Option.some.inj e)
  · unfold frzE at e
    rw [List.getElem?_map] at e
    cases z : ρ[i]? with
    | none => rw [z] at e; cases e
    | some s =>
      rw [z] at e
      cases s <;> cases (Option.some.inj e)
  · unfold frzE at e
    rw [List.getElem?_map] at e
    cases z : ρ[i]? with
    | none => rw [z] at e; cases e
    | some s =>
      rw [z] at e
      cases s <;> cases (Option.some.inj e)
theorem w_none : B.w (fun _ => none) = B.w0 := by
  unfold Bs.w Bs.w0
  have e : (fun a => B.hid a ∨ ∃ i : Nat, (none : Option Addr) = some a) = B.hid := by
    funext a
    exact propext ⟨fun h => h.elim (fun z => z) (fun ⟨_, z⟩ => nomatch z), fun h => Or.inl h⟩
  rw [e]
end
/-- all that stands is taken for the def's base, its own lists left out -/
noncomputable def Bs.base (B : Bs) (own : Nat → Option Addr) (H : Hp) : Bs := { B with H0 := fun b => @ite _ (∃ i, own i = some b) (Classical.propDecidable _) none (H b) }
section
variable {Ex : L2.WX}
variable {B : Bs} {own own' : Nat → Option Addr} {H H' : Hp} {σ σ' : L2.St} {ρ ρ' : Env} {E : WEnds} {D : Ends}
theorem base_get {a : Addr} {o : HO} (h : (B.w own).ok a) (e : H a = some o) : (B.base own H).H0 a = some o := by
  show @ite _ (∃ i, own i = some a) (Classical.propDecidable _) none (H a) = _
  rw [if_neg fun z => h.2 (.inr z)]; exact e
theorem Ctx.base_of (c : Ctx B own H σ ρ) {b : Addr} {o : HO} (e : B.H0 b = some o) (n : B.st ≠ some b) : (B.base own H).H0 b = some o := by
  show @ite _ (∃ i, own i = some b) (Classical.propDecidable _) none (H b) = _
  rw [if_neg fun ⟨i, z⟩ => by rw [(c.o i b z).1] at e; cases e]
  exact c.k.o e n
theorem Ctx.base (c : Ctx B own H σ ρ) : Ctx (B.base own H) own H σ ρ := by
  have sub : ∀ b o, (B.base own H).H0 b = some o → H b = some o := fun b o e => by
    have e : @ite _ (∃ i, own i = some b) (Classical.propDecidable _) none (H b) = some o := e
    split at e
    · cases e
    · exact e
  refine ⟨?_, Kp.same sub, c.ok, c.e, fun i a z => ⟨if_pos ⟨i, z⟩, (c.o i a z).2⟩, c.inj⟩
  have s0 := c.s0
  have kk := c.k
  have so := c.ok.s
  have no : ∀ i a, own i = some a → B.st ≠ some a := fun i a z => (c.ok.h a (.inr ⟨i, z⟩)).2
  show StoW B.st (B.base own H).H0
  have so : StoW B.st H := so
  cases e : B.st with
  | none => trivial
  | some st =>
    rw [e] at s0 so kk
    obtain ⟨cl, ns, q1, q2, q3, q4, q5, w1, w2, w3⟩ := so
    obtain ⟨cl0, ns0, p1, p2, p3, p4, p5, v1, v2, v3⟩ := s0
    obtain ⟨r', hr⟩ := Keep.h kk _ _ v1
    rw [w1] at hr
    have ecl : cl = cl0 := by
      injection hr with hr
      injection hr with hr
      injection hr with hr
      injection hr
    refine ⟨cl, ns, q1, q2, q3, q4, q5, ?_, ?_, w3⟩
    · show @ite _ (∃ i, own i = some st) (Classical.propDecidable _) none (H st) = _
      rw [if_neg fun ⟨i, z⟩ => no i st z e]; exact w1
    · show @ite _ (∃ i, own i = some cl) (Classical.propDecidable _) none (H cl) = _
      rw [if_neg fun ⟨i, z⟩ => by rw [ecl] at z; rw [(c.o i _ z).1] at v2; cases v2]; exact w2
theorem Ctx.kp_base (c : Ctx B own H σ ρ) (k : Kp B.st (B.base own H).H0 H') : Kp B.st B.H0 H' := by
  have s0 := c.s0
  have b0 := fun b o e n => c.base_of (b := b) (o := o) e n
  have ck := c.k
  have no : ∀ i a, own i = some a → B.st ≠ some a := fun i a z => (c.ok.h a (.inr ⟨i, z⟩)).2
  cases e : B.st with
  | none =>
    rw [e] at k b0
    exact fun b o z => k b o (b0 b o z (fun w => nomatch w))
  | some st =>
    rw [e] at k b0 ck
    refine ⟨fun b o z n => Keep.o k b o (b0 b o z fun w => n (Option.some.inj w).symm) n, fun v r z => ?_⟩
    obtain ⟨r1, h1⟩ := Keep.h ck v r z
    refine Keep.h k v r1 ?_
    show @ite _ (∃ i, own i = some st) (Classical.propDecidable _) none (H st) = _
    rw [if_neg fun ⟨i, w⟩ => no i st w e]; exact h1
theorem Ctx.of_base (c : Ctx B own H σ ρ) (c2 : Ctx (B.base own H) own' H' σ' ρ') : Ctx B own' H' σ' ρ' := by
  refine ⟨c.s0, c.kp_base c2.k, c2.ok, c2.e, fun i a z => ⟨?_, (c2.o i a z).2⟩, c2.inj⟩
  cases e : B.H0 a with
  | none => rfl
  | some o =>
    have n : B.st ≠ some a := (c2.ok.h a (.inr ⟨i, z⟩)).2
    have g := c.base_of e n
    rw [(c2.o i a z).1] at g
    cases g
theorem Dl.base (d : Dl B E D Ex) (c : Ctx B own H σ ρ) : Dl (B.base own H) E D Ex :=
  ⟨fun o r s h z cc => d.nx o r s h z (c.of_base cc), fun o r s h z cc => d.bk o r s h z (c.of_base cc), fun o r s h z cc => d.ct o r s h z (c.of_base cc), fun x v h z k o i => d.rt x v h z (c.kp_base k) o i, fun o r s h cc ns xs dd fs z c2 g1 g2 g3 g4 => d.xc o r s h cc ns xs dd fs z (c.of_base c2) g1 g2 g3 g4⟩
end
section
variable {Ex : L2.WX}
variable {X : Cx} {e a b c : Expr} {w wa wb : WE} {s s' : WS} {t : WT} {pos : Pos} {st : Stmt} {rest bs cs : List Stmt}
theorem ps_weak {t t' : TS} (h : PS X st t) (w : ∀ D σ H, t' D σ H → t D σ H) : PS X st t' := ⟨fun pins s σ H D I q => h.run pins s σ H D I (w D σ H q)⟩
theorem pss_weak {t t' : TS} (h : PSs X bs t) (w : ∀ D σ H, t' D σ H → t D σ H) : PSs X bs t' := ⟨fun pins s σ H D I q => h.run pins s σ H D I (w D σ H q)⟩
def wSeq (s s' : WS) : WS := fun E ρ => s { E with nx := fun ρ' => s' E ρ' } ρ
def wCut (s s' : WS) : WS := fun E ρ => ∃ M : Env → Prop, s { E with nx := M } ρ ∧ ∀ ρ', M ρ' → s' E ρ'
def wNx : WS := fun E ρ => E.nx ρ
theorem dss0 : PSs X [] (liftS Ex wNx) := pss_weak pss_nil fun D σ H q => by
  obtain ⟨B, own, ρ, E, c, h, d⟩ := q
  exact d.nx _ _ _ _ h c
theorem dss1 (h : PS X st (liftS Ex s)) : PSs X [st] (liftS Ex s) := pss_one h
theorem dss (h : PS X st (liftS Ex s)) (h2 : PSs X rest (liftS Ex s')) : PSs X (st :: rest) (liftS Ex (wSeq s s')) := pss_weak (pss_cons h h2) fun D σ H q => by
  obtain ⟨B, own, ρ, E, c, h, d⟩ := q
  exact ⟨B, own, ρ, _, c, h, ⟨fun own' ρ' σ' H' z c' => ⟨B, own', ρ', E, c', z, d⟩, d.bk, d.ct, d.rt, d.xc⟩⟩
theorem dsc (h : PS X st (liftS Ex s)) (h2 : PSs X rest (liftS Ex s')) : PSs X (st :: rest) (liftS Ex (wCut s s')) := pss_weak (pss_cons h h2) fun D σ H q => by
  obtain ⟨B, own, ρ, E, c, ⟨M, h, hM⟩, d⟩ := q
  exact ⟨B, own, ρ, _, c, h, ⟨fun own' ρ' σ' H' z c' => ⟨B, own', ρ', E, c', hM _ z, d⟩, d.bk, d.ct, d.rt, d.xc⟩⟩
/-- all lists of one's own are let go ahead of it -/
def wFz (s : WS) : WS := fun E ρ => s E (frzE ρ)
def wAsg (i : Nat) (w : WE) : WS := fun E ρ => w ρ fun d => E.nx (ρ.set i (.dt d))
theorem asg_tr (i : Nat) {D : Ends} {σ : L2.St} {H : Hp} (q : liftS Ex (wAsg i w) D σ H) : tAsg (lift w) (gName i) D σ H := by
  obtain ⟨B, own, ρ, E, c, h, d⟩ := q
  exact ⟨B.w own, own, ρ, _, c.ok, c.e, h, fun x v H1 r k o i1 => d.nx _ _ _ _ r ((c.mono k o).set i i1)⟩
theorem dasg (i : Nat) (h : ∀ te, PE X e te → PS X st (tAsg te (gName i))) (he : PE X e (lift w)) : PS X st (liftS Ex (wAsg i w)) := ps_weak (h _ he) fun _ _ _ => asg_tr i
def wAsgO (i : Nat) (w : WF) : WS := fun E ρ => w ρ fun xs => E.nx (ρ.set i (.ow xs))
theorem asgO_tr {w : WF} (i : Nat) {D : Ends} {σ : L2.St} {H : Hp} (q : liftS Ex (wAsgO i w) D σ H) : tAsg (liftF w) (gName i) D σ H := by
  obtain ⟨B, own, ρ, E, c, h, d⟩ := q
  exact ⟨B.w own, own, ρ, _, c.ok, c.e, h, fun xs vs q H1 r k o i1 l hq => d.nx _ _ _ _ r ((c.mono k o).setO i hq l i1)⟩
theorem dasgO {w : WF} (i : Nat) (h : ∀ te, PE X e te → PS X st (tAsg te (gName i))) (he : PE X e (liftF w)) : PS X st (liftS Ex (wAsgO i w)) := ps_weak (h _ he) fun _ _ _ => asgO_tr i
def wDrop (w : WE) : WS := fun E ρ => w ρ fun _ => E.nx ρ
def wRet (w : WE) : WS := fun E ρ => w (frzE ρ) E.rt
theorem dret (he : PE X e (lift w)) : PS X (.Return (some e) pos) (liftS Ex (wRet w)) := ps_weak (ps_ret he) fun D σ H q => by
  obtain ⟨B, own, ρ, E, c, h, d⟩ := q
  exact ⟨B.w0, _, _, _, c.ok0, c.frz, h, fun x v H1 r k o i1 => d.rt x v H1 r (c.k.trans k) o i1⟩
def wIfS (t : WT) (s s' : WS) : WS := fun E ρ => t ρ fun k => if k = true then s E ρ else s' E ρ
theorem difS (ht : PT X e (liftT t)) (ha : PSs X bs (liftS Ex s)) (hb : PSs X cs (liftS Ex s')) : PS X (.If e bs cs pos) (liftS Ex (wIfS t s s')) := ps_weak (ps_if ht ha hb) fun D σ H q => by
  obtain ⟨B, own, ρ, E, c, h, d⟩ := q
  refine ⟨B.w own, own, ρ, _, c.ok, c.e, h, fun k H1 r kk o => ?_⟩
  cases k with
  | true => exact ⟨B, own, ρ, E, c.mono kk o, r, d⟩
  | false => exact ⟨B, own, ρ, E, c.mono kk o, r, d⟩
def wPass : WS := fun E ρ => E.nx ρ
def wBk : WS := fun E ρ => E.bk ρ
def wCt : WS := fun E ρ => E.ct ρ
/-- x op= e -/
def wAug (i : Nat) (d : D2) (w : WE) : WS := fun E ρ => atV (fun x => w ρ fun y => d x y fun z => E.nx (ρ.set i (.dt z))) ρ[i]?
/-- x.append(e) of a list of one's own -/
def atO (R : List DV → Prop) : Option Sl → Prop
  | some (.ow xs) => R xs
  | _ => False
theorem atO_ex {R : List DV → Prop} {o : Option Sl} (h : atO R o) : ∃ xs, o = some (.ow xs) ∧ R xs := by
  unfold atO at h
  split at h
  · exact ⟨_, rfl, h⟩
  · exact h.elim
def wApp (i : Nat) (w : WE) : WS := fun E ρ => atO (fun xs => w ρ fun d => xs.length < 1000000 ∧ E.nx (ρ.set i (.ow (xs ++ [d])))) ρ[i]?
theorem app_tr {K : PySem.W.Frag} (i : Nat) {D : Ends} {σ : L2.St} {H : Hp} (q : liftS Ex (wApp i w) D σ H) : tDrop (tBM K "list" rAppend (tVar i) (tCons (lift w) tNil)) D σ H := by
  obtain ⟨B, own, ρ, E, c, hx, d⟩ := q
  obtain ⟨xs, hx, h1⟩ := atO_ex hx
  obtain ⟨a, vs, g1, g2, g3, g4, g5⟩ := c.e.ow i xs hx
  refine ⟨_, g2, .inl ⟨rfl, vs, SqL.of g3⟩, B.w own, own, ρ, _, c.ok, c.e, h1, fun y u H1 r1 k1 o1 i1 => ?_⟩
  have g3' := k1.o g3 (c.ok.h a (.inr ⟨i, g1⟩)).2
  have l : vs.length < 1000000 := by rw [g5.len]; exact r1.1
  refine ⟨a, vs, u, rfl, rfl, g3', lt_line l, d.nx _ _ _ _ r1.2 ((c.mono k1 o1).updO i g1 hx ?_ ((g5.mono k1).app (.cons i1 .nil)))⟩
  rw [List.length_append]; exact l
theorem dapp {K : PySem.W.Frag} (i : Nat) (h : ∀ te, PE X e te → PS X st (tDrop (tBM K "list" rAppend (tVar i) (tCons te tNil)))) (he : PE X e (lift w)) : PS X st (liftS Ex (wApp i w)) := ps_weak (h _ he) fun _ _ _ => app_tr i
/-- x.append(y.pop(e)), both lists of one's own -/
def wAppPop (i j : Nat) (w : WE) : WS := fun E ρ => atO (fun xs => atO (fun ys => w ρ fun d => i ≠ j ∧ xs.length < 1000000 ∧ ∃ k : Nat, d = .int k ∧ ∃ y, ys[k]? = some y ∧ E.nx ((ρ.set j (.ow (ys.eraseIdx k))).set i (.ow (xs ++ [y])))) ρ[j]?) ρ[i]?
theorem appPop_tr {K : PySem.W.Frag} (i j : Nat) {D : Ends} {σ : L2.St} {H : Hp} (q : liftS Ex (wAppPop i j w) D σ H) : tDrop (tBM K "list" rAppend (tVar i) (tCons (tBM K "list" rPopAt (tVar j) (tCons (lift w) tNil)) tNil)) D σ H := by
  obtain ⟨B, own, ρ, E, c, hx, d⟩ := q
  obtain ⟨xs, hx, h1⟩ := atO_ex hx
  obtain ⟨ys, hy, h1⟩ := atO_ex h1
  obtain ⟨a, vs, g1, g2, g3, g4, g5⟩ := c.e.ow i xs hx
  obtain ⟨b, us, f1, f2, f3, f4, f5⟩ := c.e.ow j ys hy
  refine ⟨_, g2, .inl ⟨rfl, vs, SqL.of g3⟩, _, f2, .inl ⟨rfl, us, SqL.of f3⟩, B.w own, own, ρ, _, c.ok, c.e, h1, fun y u H1 r1 k1 o1 i1 => ?_⟩
  obtain ⟨nij, lx, k, rfl, y, hk, r1⟩ := r1
  cases i1
  have f3' := k1.o f3 (c.ok.h b (.inr ⟨j, f1⟩)).2
  have g3' := k1.o g3 (c.ok.h a (.inr ⟨i, g1⟩)).2
  have fi := f5.mono k1
  have gi := g5.mono k1
  obtain ⟨v, hv, iv⟩ := fi.get hk
  have hkl : k < us.length := (List.getElem?_eq_some_iff.mp hv).1
  have ab : a ≠ b := fun e => nij (c.inj i j a g1 (by rw [e]; exact f1))
  have nkb : ¬ (B.w own).ok b := fun k => k.2 (.inr ⟨j, f1⟩)
  refine pop_l f3' rfl hkl f4 fun y' e => ?_
  rw [hv] at e; cases e
  have c1 := (c.mono k1 o1).updO j f1 hy (vs := us.eraseIdx k) (by rw [List.length_eraseIdx]; split <;> omega) (fi.erase k)
  have hx' : (ρ.set j (.ow (ys.eraseIdx k)))[i]? = some (.ow xs) := by rw [List.getElem?_set_ne (Ne.symm nij)]; exact hx
  have g3'' : upd H1 b (.lst (us.eraseIdx k)) a = some (.lst vs) := by rw [upd_ne ab]; exact g3'
  have l : vs.length < 1000000 := by rw [g5.len]; exact lx
  refine ⟨a, vs, v, rfl, rfl, g3'', lt_line l, d.nx _ _ _ _ r1 (c1.updO i g1 hx' ?_ ((gi.off nkb).app (.cons (iv.off nkb) .nil)))⟩
  rw [List.length_append]; exact l
theorem dappPop {K : PySem.W.Frag} (i j : Nat) (h : ∀ te, PE X e te → PS X st (tDrop (tBM K "list" rAppend (tVar i) (tCons (tBM K "list" rPopAt (tVar j) (tCons te tNil)) tNil)))) (he : PE X e (lift w)) : PS X st (liftS Ex (wAppPop i j w)) := ps_weak (h _ he) fun _ _ _ => appPop_tr i j
abbrev WG := DV → Env → (Env → Prop) → Prop
def gN (i : Nat) : WG := fun d ρ K => K (ρ.set i (.dt d))
/-- the target's reading serves the data's -/
def Tg (g : TG) (gg : WG) : Prop := ∀ (B : Bs) (own : Nat → Option Addr) (H : Hp) (σ : L2.St) (ρ : Env) (v : V) (d : DV) (K : Env → Prop) (Q : L2.St → Hp → Prop), Ctx B own H σ ρ → Is (B.w own) H v d → gg d ρ K → (∀ own' ρ' σ', K ρ' → Ctx B own' H σ' ρ' → Q σ' H) → g v σ H Q
theorem tgN (i : Nat) : Tg (gName i) (gN i) := fun B own H σ ρ v d K Q c h k q => q _ _ _ k (c.set i h)
def forL (g : WG) (s : WS) (E : WEnds) : List DV → Env → Prop
  | [], ρ => E.nx ρ
  | x :: xs, ρ => g x ρ fun ρ' => s { E with nx := forL g s E xs, ct := forL g s E xs, bk := E.nx } ρ'
end
end DL
namespace DL
open PySem PySem.Spec PyProof.Rows L2 NW
/-- the iterator gives xs, one by one, whatever else happens over the heap Hb -/
structure Wks (J : It) (W : Wd) (Hb : Hp) (xs : List DV) : Prop where
  go : ∀ n H', Kp W.st Hb H' → n < xs.length → J.go n H'
  stop : ∀ n H', Kp W.st Hb H' → n = xs.length → J.stop n H'
  yl : ∀ n H' v H2, Kp W.st Hb H' → J.yld n H' v H2 → n < xs.length → Same H' H2 ∧ ∃ x, xs[n]? = some x ∧ ∀ W2 : Wd, W2.st = W.st → W2.Ok H' → (∀ b o, W.ok b → Hb b = some o → W2.ok b) → Is W2 H2 v x
/-- the iterator makes nothing new -/
theorem Wks.old {J : It} {W : Wd} {Hb : Hp} {xs : List DV} (go : ∀ n H', Kp W.st Hb H' → n < xs.length → J.go n H') (stop : ∀ n H', Kp W.st Hb H' → n = xs.length → J.stop n H')
    (yl : ∀ n H' v H2, Kp W.st Hb H' → J.yld n H' v H2 → n < xs.length → H2 = H' ∧ ∃ x, xs[n]? = some x ∧ Is W Hb v x) : Wks J W Hb xs := ⟨go, stop, fun n H' v H2 k y l => by
  obtain ⟨rfl, x, hx, ix⟩ := yl n H' v H2 k y l
  exact ⟨fun _ _ z => z, x, hx, fun W2 e o h => ix.tr e fun b o' k' z => ⟨h b o' k' z, k.o z k'.1⟩⟩⟩
abbrev WI := Env → (List DV → Prop) → Prop
def Thr (W : Wd) (H Hb : Hp) : Prop := ∀ b o, W.ok b → H b = some o → Hb b = some o
def liftI (w : WI) : TI := fun σ H R => ∃ W own ρ Rd, W.Ok H ∧ IsE W own H σ ρ ∧ w ρ Rd ∧ ∀ J xs H1, Rd xs → Kp W.st H H1 → W.Ok H1 → (∀ Hb, Thr W H1 Hb → Wks J W Hb xs) → R J H1
section
variable {Ex : L2.WX}
variable {W : Wd} {H Hb : Hp} {K : PySem.W.Frag}
theorem wks_list {a : Addr} {vs : List V} {xs : List DV} (h1 : H a = some (.lst vs)) (h2 : W.ok a) (h4 : Iss W H vs xs) (t : Thr W H Hb) : Wks (Itl K a) W Hb xs := by
  have hb := t a _ h2 h1
  have i2 : Iss W Hb vs xs := h4.tr rfl fun b o k z => ⟨k, t b o k z⟩
  refine Wks.old (fun n H' k l => ?_) (fun n H' k l => ?_) (fun n H' v H2 k y l => ?_)
  · rw [← i2.len] at l
    exact ⟨vs, vs[n], SqL.of (k.o hb h2.1), List.getElem?_eq_getElem l⟩
  · exact ⟨vs, SqL.of (k.o hb h2.1), by rw [i2.len, l]; exact Nat.le_refl _⟩
  · obtain ⟨e, z⟩ := y
    have zz := z vs (SqL.of (k.o hb h2.1))
    obtain ⟨x, hx, ix⟩ := i2.get' zz
    exact ⟨e, x, hx, ix⟩
theorem wks_tup {a : Addr} {vs : List V} {xs : List DV} (h1 : H a = some (.tup vs)) (h2 : W.ok a) (h4 : Iss W H vs xs) (t : Thr W H Hb) : Wks (Itt K a) W Hb xs := by
  have hb := t a _ h2 h1
  have i2 : Iss W Hb vs xs := h4.tr rfl fun b o k z => ⟨k, t b o k z⟩
  refine Wks.old (fun n H' k l => ?_) (fun n H' k l => ?_) (fun n H' v H2 k y l => ?_)
  · rw [← i2.len] at l
    exact ⟨vs, vs[n], SqT.of (k.o hb h2.1), List.getElem?_eq_getElem l⟩
  · exact ⟨vs, SqT.of (k.o hb h2.1), by rw [i2.len, l]; exact Nat.le_refl _⟩
  · obtain ⟨e, z⟩ := y
    have zz := z vs (SqT.of (k.o hb h2.1))
    obtain ⟨x, hx, ix⟩ := i2.get' zz
    exact ⟨e, x, hx, ix⟩
/-- lo, lo + 1, .. -/
def intL (lo : Int) (n : Nat) : List DV := (List.range n).map fun k => .int (lo + (k : Nat))
theorem intL_len (lo : Int) (n : Nat) : (intL lo n).length = n := by unfold intL; rw [List.length_map, List.length_range]
theorem wks_rng {lo : Int} {n : Nat} : Wks (Itr lo n) W Hb (intL lo n) := by
  refine Wks.old (fun k H' _ l => by rw [intL_len] at l; exact l) (fun k H' _ l => by rw [l, intL_len]; exact Nat.le_refl _) (fun k H' v H2 _ y l => ?_)
  obtain ⟨e, z⟩ := y
  subst z
  rw [intL_len] at l
  refine ⟨e, .int (lo + k), ?_, .int _⟩
  unfold intL
  rw [List.getElem?_map, List.getElem?_range l]
  rfl
def signs (s : Str) : List DV := s.cps.toList.map fun c => .str ⟨#[c]⟩
theorem wks_str {s : Str} : Wks (Its s) W Hb (signs s) := by
  have e : (signs s).length = s.cps.size := by unfold signs; rw [List.length_map, Array.length_toList]
  refine Wks.old (fun k H' _ l => by rw [e] at l; exact l) (fun k H' _ l => by rw [l, e]; exact Nat.le_refl _) (fun k H' v H2 _ y l => ?_)
  obtain ⟨e, c, h1, h2⟩ := y
  subst h2
  refine ⟨e, .str ⟨#[c]⟩, ?_, .str _⟩
  unfold signs
  rw [List.getElem?_map, Array.getElem?_toList, h1]
  rfl
end
section
variable {Ex : L2.WX}
variable {X : Cx} {e a b c tg : Expr} {w : WE} {pos : Pos}
theorem pi_weak {t t' : TI} (h : PI X tg e t) (w : ∀ σ H Q, t' σ H Q → t σ H Q) : PI X tg e t' := ⟨fun pins s σ H Q I q => h.run pins s σ H Q I (w σ H Q q)⟩
def iL (w : WE) : WI := fun ρ R => w ρ fun d => ∃ xs, d = .lst xs ∧ R xs
theorem diL (h : PE X e (lift w)) : PI X tg e (liftI (iL w)) := pi_weak (pi_list h) fun σ H R q => by
  obtain ⟨W, own, ρ, Rd, o, i, z, f⟩ := q
  refine ⟨W, own, ρ, _, o, i, z, fun d v H1 r k o1 i1 => ?_⟩
  obtain ⟨xs, rfl, r⟩ := r
  cases i1 with
  | @lst p vs _ h1 h2 h3 h4 => exact ⟨p, rfl, ⟨vs, SqL.of h1⟩, f _ _ _ r k o1 fun Hb t => wks_list h1 h2 h4 t⟩
def iT (w : WE) : WI := fun ρ R => w ρ fun d => ∃ xs, d = .tup xs ∧ R xs
/-- a name that holds a list or a tuple -/
def iV (i : Nat) : WI := fun ρ R => atV (fun d => ∃ xs, (d = .lst xs ∨ d = .tup xs) ∧ R xs) ρ[i]?
def iS (w : WE) : WI := fun ρ R => w ρ fun d => ∃ s, d = .str s ∧ R (signs s)
theorem diS (h : PE X e (lift w)) : PI X tg e (liftI (iS w)) := pi_weak (pi_str h) fun σ H R q => by
  obtain ⟨W, own, ρ, Rd, o, i, z, f⟩ := q
  refine ⟨W, own, ρ, _, o, i, z, fun d v H1 r k o1 i1 => ?_⟩
  obtain ⟨s, rfl, r⟩ := r
  cases i1
  exact ⟨s, rfl, f _ _ _ r k o1 fun Hb t => wks_str⟩
variable {r : WA}
def iR1 (r : WA) : WI := fun ρ R => r ρ fun ds => ∃ j, ds = [.int j] ∧ -(2 ^ 62) ≤ j ∧ j < 2 ^ 62 ∧ R (intL 0 j.toNat)
theorem diR1 (hp : ∀ ta, PA X [a] ta → PI X tg e (iRng1 ta)) (h : PA X [a] (liftA r)) : PI X tg e (liftI (iR1 r)) := pi_weak (hp _ h) fun σ H R q => by
  obtain ⟨W, own, ρ, Rd, o, i, z, f⟩ := q
  refine ⟨W, own, ρ, _, o, i, z, fun ds vs H1 r k o1 i1 => ?_⟩
  obtain ⟨j, rfl, h1, h2, r⟩ := r
  cases i1 with
  | cons x y =>
    cases x; cases y
    exact ⟨j, rfl, h1, h2, f _ _ _ r k o1 fun Hb t => wks_rng⟩
def iR2 (r : WA) : WI := fun ρ R => r ρ fun ds => ∃ l j, ds = [.int l, .int j] ∧ (-(2 ^ 62) ≤ l ∧ l < 2 ^ 62 ∧ -(2 ^ 62) ≤ j ∧ j < 2 ^ 62) ∧ R (intL l (j - l).toNat)
theorem loop_wks {J : It} {g : TG} {gg : WG} {s : WS} (hg : Tg g gg) {B : Bs} {own : Nat → Option Addr} {ρ : Env} {E : WEnds} {D : Ends} {σ : L2.St} {H : Hp} {xs : List DV} (c : Ctx B own H σ ρ) (hw : Wks J (B.w own) (B.base own H).H0 xs) (hf : forL gg s E xs ρ) (d : Dl B E D Ex) : LoopI J g (liftS Ex s) D σ H := by
  have d' := d.base c
  have c' := c.base
  refine ⟨fun n m σ' H' => m = xs.length - n ∧ n ≤ xs.length ∧ ∃ own' ρ', Ctx (B.base own H) own' H' σ' ρ' ∧ forL gg s E (xs.drop n) ρ', ⟨_, rfl, Nat.zero_le _, own, ρ, c', hf⟩, ?_⟩
  rintro n m σ' H' ⟨rfl, hn, own', ρ', c2, hf⟩
  by_cases hlt : n < xs.length
  · refine .inr ⟨hw.go n H' c2.k hlt, fun σ' H' => ∃ own' ρ', Ctx (B.base own H) own' H' σ' ρ' ∧ forL gg s E (xs.drop (n + 1)) ρ', fun σ' H' z => ⟨xs.length - (n + 1), by omega, rfl, hlt, z⟩, fun x H2 y => ?_⟩
    obtain ⟨sm, y, hy, iy⟩ := hw.yl n H' x H2 c2.k y hlt
    have c3 := c2.mono (Kp.same sm) (c2.ok.same sm)
    rw [List.drop_eq_getElem_cons (List.getElem?_eq_some_iff.mp hy).1, (List.getElem?_eq_some_iff.mp hy).2] at hf
    have iy2 : Is ((B.base own H).w own') H2 x y := iy ((B.base own H).w own') rfl c2.ok fun b o k g => ⟨k.1, fun w => w.elim (fun q => k.2 (.inl q)) fun ⟨j, q⟩ => by rw [(c2.o j b q).1] at g; cases g⟩
    exact hg _ _ _ _ _ _ _ _ _ c3 iy2 hf fun own3 ρ3 σ3 h3 c3 => ⟨_, own3, ρ3, _, c3, h3, ⟨fun o r s h z cc => ⟨o, r, cc, z⟩, fun o r s h z cc => d'.nx o r s h z cc, fun o r s h z cc => ⟨o, r, cc, z⟩, d'.rt, d'.xc⟩⟩
  · have e : n = xs.length := by omega
    subst e
    rw [List.drop_length] at hf
    exact .inl ⟨hw.stop _ H' c2.k rfl, d'.nx _ _ _ _ hf c2⟩
def wFor (w : WI) (g : WG) (s : WS) : WS := fun E ρ => w ρ fun xs => forL g s E xs ρ
theorem for_tr {g : TG} {gg : WG} {s : WS} {wi : WI} (hg : Tg g gg) {D : Ends} {σ : L2.St} {H : Hp} (q : liftS Ex (wFor wi gg s) D σ H) : tFor (liftI wi) g (liftS Ex s) D σ H := by
  obtain ⟨B, own, ρ, E, c, h, d⟩ := q
  refine ⟨B.w own, own, ρ, _, c.ok, c.e, h, fun J xs H1 r k o hw => ?_⟩
  have c1 := c.mono k o
  exact loop_wks hg c1 (hw _ fun b o k z => base_get k z) r d
variable {g : TG} {gg : WG} {s : WS} {wi : WI} {body : List Stmt}
theorem dfor (hp : PassesOwn (model X.prog X.w) X.A X.env X.xe) (hc : X.calm = true) (hi : PI X tg e (liftI wi)) (hg : PG X tg g) (hgg : Tg g gg) (hb : PSs X body (liftS Ex s)) (hs : ∀ x, foldedSetIterable e X.env x = pure x := by intro _; rfl) : PS X (.For tg e body [] pos) (liftS Ex (wFor wi gg s)) := ps_weak (ps_for hp hc hi hg hb hs) fun _ _ _ => for_tr hgg
def wWhile (t : WT) (s : WS) : WS := fun E ρ => ∃ I : Nat → Env → Prop, (∃ m, I m ρ) ∧ ∀ m ρ, I m ρ → t ρ fun k => if k = true then s { nx := fun ρ' => ∃ m', m' < m ∧ I m' ρ', ct := fun ρ' => ∃ m', m' < m ∧ I m' ρ', bk := E.nx, rt := E.rt, xc := E.xc } ρ else E.nx ρ
theorem dwhile {t : WT} (hp : PassesOwn (model X.prog X.w) X.A X.env X.xe) (ht : PT X e (liftT t)) (hb : PSs X body (liftS Ex s)) : PS X (.While e body [] pos) (liftS Ex (wWhile t s)) := ps_weak (ps_while hp ht hb) fun D σ H q => by
  obtain ⟨B, own, ρ, E, c, ⟨I, ⟨m0, i0⟩, hI⟩, d⟩ := q
  refine ⟨fun m σ H => ∃ own ρ, Ctx B own H σ ρ ∧ I m ρ, ⟨m0, own, ρ, c, i0⟩, ?_⟩
  rintro m σ H ⟨own, ρ, c, im⟩
  refine ⟨B.w own, own, ρ, _, c.ok, c.e, hI m ρ im, fun k H1 r kk o => ?_⟩
  have c1 := c.mono kk o
  cases k with
  | false => exact d.nx _ _ _ _ r c1
  | true =>
    refine ⟨fun σ' H' => ∃ own' ρ', Ctx B own' H' σ' ρ' ∧ ∃ m', m' < m ∧ I m' ρ', fun σ' H' ⟨o, r, c, m', l, i⟩ => ⟨m', l, o, r, c, i⟩, B, own, ρ, _, c1, r, ⟨fun o r s h z cc => ⟨o, r, cc, z⟩, fun o r s h z cc => d.nx o r s h z cc, fun o r s h z cc => ⟨o, r, cc, z⟩, d.rt, d.xc⟩⟩
end
end DL
namespace DL
open PySem PySem.Spec PyProof.Rows L2 NW
def lcL (g : WG) (t : WT) (w : WE) : List DV → Env → List DV → (List DV → Prop) → Prop
  | [], _, acc, R => R acc
  | x :: xs, ρ, acc, R => g x ρ fun ρ' => t ρ' fun k => if k = true then w ρ' fun y => lcL g t w xs ρ (acc ++ [y]) R else lcL g t w xs ρ acc R
def wiL (ρ : Env) : List Nat → Env
  | [] => ρ
  | v :: vs => (wiL ρ vs).set v .un
/-- a comprehension's target: it stores the names vs alone -/
def Tc (g : TG) (gg : WG) (vs : List Nat) : Prop := ∀ (W : Wd) (own : Nat → Option Addr) (H : Hp) (σ : L2.St) (ρ : Env) (v : V) (d : DV) (K : Env → Prop) (Q : L2.St → Hp → Prop), W.Ok H → IsE W own H (wipe σ vs) (wiL ρ vs) → Is W H v d → gg d (wiL ρ vs) K → (∀ ρ' σ', K ρ' → IsE W own H σ' ρ' → wipe σ' vs = wipe σ vs → Q σ' H) → g v (wipe σ vs) H Q
section
variable {W : Wd} {own : Nat → Option Addr} {H H' : Hp} {σ : L2.St} {ρ : Env}
theorem IsE.un (h : IsE W own H σ ρ) (i : Nat) : IsE W own H (σ.set i none) (ρ.set i .un) := by
  refine ⟨?_, fun j x e => ?_, fun j xs e => ?_, fun j ks xs e => ?_, fun j A C ns xs e => ?_, h.hd⟩
  · rw [List.length_set, List.length_set]; exact h.len
  · rcases get_set e with ⟨rfl, l, z⟩ | ⟨n, z⟩
    · cases z
    · obtain ⟨u, h1, h2⟩ := h.dt j x z
      exact ⟨u, by rw [List.getElem?_set_ne (Ne.symm n)]; exact h1, h2⟩
  · rcases get_set e with ⟨rfl, l, z⟩ | ⟨n, z⟩
    · cases z
    · obtain ⟨a, vs, h1, h2, h3⟩ := h.ow j xs z
      exact ⟨a, vs, h1, by rw [List.getElem?_set_ne (Ne.symm n)]; exact h2, h3⟩
  · rcases get_set e with ⟨rfl, l, z⟩ | ⟨n, z⟩
    · cases z
    · obtain ⟨a, vs, h1, h2, h3⟩ := h.od j ks xs z
      exact ⟨a, vs, h1, by rw [List.getElem?_set_ne (Ne.symm n)]; exact h2, h3⟩
  · rcases get_set e with ⟨rfl, l, z⟩ | ⟨n, z⟩
    · cases z
    · obtain ⟨a, vs, h1, h2, h3⟩ := h.oi j A C ns xs z
      exact ⟨a, vs, h1, by rw [List.getElem?_set_ne (Ne.symm n)]; exact h2, h3⟩
theorem IsE.set (h : IsE W own H σ ρ) (i : Nat) {v : V} {d : DV} (x : Is W H v d) : IsE W own H (σ.set i (some v)) (ρ.set i (.dt d)) := by
  refine ⟨?_, fun j x e => ?_, fun j xs e => ?_, fun j ks xs e => ?_, fun j A C ns xs e => ?_, h.hd⟩
  · rw [List.length_set, List.length_set]; exact h.len
  · rcases get_set e with ⟨rfl, l, z⟩ | ⟨n, z⟩
    · cases z
      exact ⟨v, by rw [List.getElem?_set_self (by rw [h.len]; exact l)], x⟩
    · obtain ⟨u, h1, h2⟩ := h.dt j _ z
      exact ⟨u, by rw [List.getElem?_set_ne (Ne.symm n)]; exact h1, h2⟩
  · rcases get_set e with ⟨rfl, l, z⟩ | ⟨n, z⟩
    · cases z
    · obtain ⟨a, vs, h1, h2, h3⟩ := h.ow j xs z
      exact ⟨a, vs, h1, by rw [List.getElem?_set_ne (Ne.symm n)]; exact h2, h3⟩
  · rcases get_set e with ⟨rfl, l, z⟩ | ⟨n, z⟩
    · cases z
    · obtain ⟨a, vs, h1, h2, h3⟩ := h.od j ks xs z
      exact ⟨a, vs, h1, by rw [List.getElem?_set_ne (Ne.symm n)]; exact h2, h3⟩
  · rcases get_set e with ⟨rfl, l, z⟩ | ⟨n, z⟩
    · cases z
    · obtain ⟨a, vs, h1, h2, h3⟩ := h.oi j A C ns xs z
      exact ⟨a, vs, h1, by rw [List.getElem?_set_ne (Ne.symm n)]; exact h2, h3⟩
theorem IsE.wipe : ∀ vs : List Nat, IsE W own H σ ρ → IsE W own H (wipe σ vs) (wiL ρ vs)
  | [], h => h
  | v :: vs, h => (IsE.wipe vs h).un v
theorem tcN (i : Nat) : Tc (gName i) (gN i) [i] := fun W own H σ ρ v d K Q o e h k q => by
  refine q _ _ k (e.set i h) ?_
  show (((σ.set i none).set i (some v)).set i none) = σ.set i none
  rw [List.set_set, List.set_set]
end
noncomputable def mns (H : Hp) (D : Addr) : Hp := fun b => if b = D then none else H b
section
variable {H H1 : Hp} {D b : Addr} {o : HO} {st : Option Addr}
theorem mns_same : mns H D D = none := if_pos rfl
theorem mns_ne (h : b ≠ D) : mns H D b = H b := if_neg h
theorem mns_upd (h : H D = some o) : upd (mns H D) D o = H := by
  funext b
  by_cases e : b = D
  · rw [e, upd_same, h]
  · rw [upd_ne e, mns_ne e]
theorem Kp.mns (k : Kp st H1 H) (h : H1 D = none) (n : st ≠ some D) : Kp st H1 (DL.mns H D) := by
  cases st with
  | none => exact fun b o z => by rw [mns_ne fun e => by rw [e, h] at z; cases z]; exact k b o z
  | some a => exact ⟨fun b o z q => by rw [mns_ne fun e => by rw [e, h] at z; cases z]; exact Keep.o k b o z q, fun v r z => by
      obtain ⟨r', h'⟩ := Keep.h k v r z
      exact ⟨r', by rw [mns_ne fun e => n (by rw [e])]; exact h'⟩⟩
theorem StoW.cl (s0 : StoW st H1) (k : Kp st H1 H) (s : StoW st H) (h : H1 D = none) (a : Addr) (e : st = some a) : ∃ (cl : Addr) (r : List V), H a = some (.lst (.ref cl :: r)) ∧ cl ≠ D ∧ Sto H a := by
  subst e
  obtain ⟨cl, ns, q1, q2, q3, q4, q5, w1, w2, w3⟩ := s0
  obtain ⟨r', hr⟩ := Keep.h k _ _ w1
  exact ⟨cl, r', hr, (fun z => by rw [z, h] at w2; cases w2), s⟩
theorem StoW.own (s0 : StoW st H1) (k : Kp st H1 H) (s : StoW st H) (h : H1 D = none) (n : st ≠ some D) : StoW st (upd H D o) := by
  cases e : st with
  | none => trivial
  | some a =>
    obtain ⟨cl, r, h1, h2, h3⟩ := StoW.cl s0 k s h a e
    exact Sto.own h3 h1 (fun z => n (by rw [e, z])) (Ne.symm h2)
theorem StoW.mns (s0 : StoW st H1) (k : Kp st H1 H) (s : StoW st H) (h : H1 D = none) (n : st ≠ some D) : StoW st (DL.mns H D) := by
  cases e : st with
  | none => trivial
  | some a =>
    obtain ⟨cl, r, h1, h2, h3⟩ := StoW.cl s0 k s h a e
    obtain ⟨cl', ns, q1, q2, q3, q4, q5, w1, w2, w3⟩ := h3
    have ec : cl' = cl := by
      rw [w1] at h1
      injection h1 with h1
      injection h1 with h1
      injection h1 with h1
      injection h1
    exact ⟨cl', ns, q1, q2, q3, q4, q5, by rw [mns_ne fun z => n (by rw [e, z])]; exact w1, by rw [mns_ne (by rw [ec]; exact h2)]; exact w2, w3⟩
end
def wYes : WT := fun _ R => R true
section
variable {X : Cx} {e : Expr} {wi : WI} {t : WT} {w : WE} {g : TG} {gg : WG} {vs : List Nat}
/-- [w for .. in wi if t] -/
def fLc (wi : WI) (gg : WG) (t : WT) (w : WE) (vs : List Nat) : WF := fun ρ R => wi ρ fun xs => xs.length ≤ 1000000 ∧ lcL gg t w xs (wiL ρ vs) [] R
theorem lc_wks (hg : Tc g gg vs) {tt : TT} (ht : ∀ σ H Q, liftT t σ H Q → tt σ H Q) {σ : L2.St} {H1 : Hp} {Q : VK} {W : Wd} {own : Nat → Option Addr} {ρ : Env} {R : List DV → Prop} {J : It} {xs : List DV} (o1 : W.Ok H1) (i1 : IsE W own H1 σ ρ) (wk : Wks J W H1 xs) (lx : xs.length ≤ 1000000)
    (r : lcL gg t w xs (wiL ρ vs) [] R) (f : FinF W H1 R Q) : tLc (fun _ H R => R J H) g tt (lift w) vs σ H1 Q := by
  intro D hD
  have sD := same_new (o := .lst []) hD
  have okD := o1.fresh hD
  -- the world in which the new list is hidden
  let W2 : Wd := ⟨W.st, fun a => W.hid a ∨ a = D⟩
  have e2 : IsE W own H1 (wipe σ vs) (wiL ρ vs) := i1.wipe vs
  have hideI : ∀ {v : V} {d : DV}, Is W H1 v d → Is W2 H1 v d := fun {v d} h => Is.tr (W := W) (W' := W2) rfl (fun b o k z => ⟨⟨k.1, fun w => w.elim k.2 fun e => ne_of_none z hD e⟩, z⟩) h
  have hideL : ∀ {v : List V} {d : List DV}, Iss W H1 v d → Iss W2 H1 v d := fun {v d} h => Iss.tr (W := W) (W' := W2) rfl (fun b o k z => ⟨⟨k.1, fun w => w.elim k.2 fun e => ne_of_none z hD e⟩, z⟩) h
  have e3 : ∀ {H' : Hp}, Kp W.st H1 H' → IsE W2 own H' (wipe σ vs) (wiL ρ vs) := fun {H'} k => ⟨e2.len, fun i d z => by
    obtain ⟨v, a, b⟩ := e2.dt i d z
    exact ⟨v, a, Is.mono (W := W2) k (hideI b)⟩, fun i xs z => by
    obtain ⟨a, us, h1, h2, h3, h4, h5⟩ := e2.ow i xs z
    exact ⟨a, us, h1, h2, k.o h3 (o1.h a (e2.hd i a h1)).2, h4, Iss.mono (W := W2) k (hideL h5)⟩, fun i ks xs z => by
    obtain ⟨a, us, h1, h2, h3, h4, h5⟩ := e2.od i ks xs z
    exact ⟨a, us, h1, h2, k.o h3 (o1.h a (e2.hd i a h1)).2, h4, Iss.mono (W := W2) k (hideL h5)⟩, fun i A C ns xs z => by
    obtain ⟨a, us, h1, h2, ⟨dx, h3⟩, h4, h5⟩ := e2.oi i A C ns xs z
    exact ⟨a, us, h1, h2, ⟨dx, k.o h3 (o1.h a (e2.hd i a h1)).2⟩, h4, Iss.mono (W := W2) k (hideL h5)⟩, fun i a z => .inl (e2.hd i a z)⟩
  have nD : W.st ≠ some D := okD.1
  have nkD : ¬ W2.ok D := fun k => k.2 (.inr rfl)
  have ok2 : ∀ {H' : Hp}, W2.Ok H' → W.Ok H' := fun h => ⟨h.s, fun a z => h.h a (.inl z)⟩
  refine ⟨fun n m H' => m = xs.length - n ∧ n ≤ xs.length ∧ ∃ (acc : List DV) (us : List V), H' D = some (.lst us) ∧ Kp W.st H1 H' ∧ W2.Ok H' ∧ Iss W2 H' us acc ∧ acc.length ≤ n ∧ lcL gg t w (xs.drop n) (wiL ρ vs) acc R, ?_, ?_⟩
  · refine ⟨_, rfl, Nat.zero_le _, [], [], upd_same, Kp.same sD, ⟨o1.s.same sD, fun a ha => ?_⟩, .nil, Nat.le_refl _, r⟩
    rcases ha with ha | rfl
    · obtain ⟨⟨o, ho⟩, n⟩ := o1.h a ha
      exact ⟨⟨o, sD _ _ ho⟩, n⟩
    · exact ⟨⟨_, upd_same⟩, nD⟩
  · rintro n m H' ⟨rfl, hn, acc, us, hus, kH, oH, iH, ln, hf⟩
    by_cases hlt : n < xs.length
    · refine .inr ⟨wk.go n H' kH hlt, fun H' => n + 1 ≤ xs.length ∧ ∃ (acc : List DV) (us : List V), H' D = some (.lst us) ∧ Kp W.st H1 H' ∧ W2.Ok H' ∧ Iss W2 H' us acc ∧ acc.length ≤ n + 1 ∧ lcL gg t w (xs.drop (n + 1)) (wiL ρ vs) acc R, fun H' z => ⟨xs.length - (n + 1), by omega, rfl, z⟩, fun v H2 y => ?_⟩
      obtain ⟨sm, x, hx, ix⟩ := wk.yl n H' v H2 kH y hlt
      have kH := kH.trans (Kp.same sm)
      have oH0 := oH
      have oH := oH.same sm
      have hus := sm _ _ hus
      have iH := iH.mono (Kp.same sm)
      rw [List.drop_eq_getElem_cons (List.getElem?_eq_some_iff.mp hx).1, (List.getElem?_eq_some_iff.mp hx).2] at hf
      refine hg W2 own H2 σ ρ v x _ _ oH (e3 kH) (ix W2 rfl oH0 fun b o k z => ⟨k.1, fun w => w.elim k.2 fun e => ne_of_none z hD e⟩) hf fun ρ' σ' h3 ie ew => ⟨ew, ht _ _ _ ⟨W2, own, ρ', _, oH, ie, h3, fun k H3 r3 k3 o3 => ?_⟩⟩
      have us3 := k3.o hus nD
      cases k with
      | false => exact ⟨hlt, acc, us, us3, kH.trans k3, o3, iH.mono k3, by omega, r3⟩
      | true =>
        refine ⟨W2, own, ρ', _, o3, ie.mono oH k3, r3, fun y u H4 r4 k4 o4 i4 => ?_⟩
        have k34 := k3.trans k4
        have kH4 : Kp W.st H1 H4 := kH.trans k34
        have us4 := k34.o hus nD
        have il := iH.mono k34
        have lu : us.length < 1000000 := by rw [il.len]; omega
        refine ⟨us, us4, lt_line lu, hlt, acc ++ [y], us ++ [u], upd_same, kH4.own hD nD, ⟨StoW.own o1.s kH4 o4.s hD nD, fun a ha => ?_⟩, ?_, by rw [List.length_append]; exact Nat.succ_le_succ ln, r4⟩
        · obtain ⟨⟨o, ho⟩, na⟩ := o4.h a ha
          by_cases e : a = D
          · rw [e]; exact ⟨⟨_, upd_same⟩, nD⟩
          · exact ⟨⟨o, by rw [upd_ne e]; exact ho⟩, na⟩
        · exact (il.off nkD).app (.cons (i4.off nkD) .nil)
    · have e : n = xs.length := by omega
      subst e
      rw [List.drop_length] at hf
      refine .inl ⟨wk.stop _ H' kH rfl, ?_⟩
      have z := f acc us D (mns H' D) hf (kH.mns hD nD) ⟨StoW.mns o1.s kH oH.s hD nD, fun a ha => ?_⟩ (Iss.tr (W := W2) (W' := W) rfl (fun b o k z => ⟨⟨k.1, fun w => k.2 (.inl w)⟩, by rw [mns_ne fun e => k.2 (.inr e)]; exact z⟩) iH) (by rw [iH.len]; omega) mns_same
      · rw [mns_upd hus] at z
        exact z
      · obtain ⟨⟨o, ho⟩, na⟩ := o1.h a ha
        exact ⟨⟨o, by rw [mns_ne fun e => by rw [e, hD] at ho; cases ho]; exact kH.o ho na⟩, na⟩
theorem lc_tr (hg : Tc g gg vs) {tt : TT} (ht : ∀ σ H Q, liftT t σ H Q → tt σ H Q) {σ : L2.St} {H : Hp} {Q : VK} (q : liftF (fLc wi gg t w vs) σ H Q) : tLc (liftI wi) g tt (lift w) vs σ H Q := by
  obtain ⟨W, own, ρ, R, o, i, z, f⟩ := q
  exact ⟨W, own, ρ, _, o, i, z, fun J xs H1 r k1 o1 hw => lc_wks hg ht o1 (i.mono o k1) (hw H1 fun _ _ _ z => z) r.1 r.2 (f.mono k1)⟩
theorem yes_tr : ∀ σ H Q, liftT wYes σ H Q → tYes σ H Q := fun σ H Q q => by
  obtain ⟨W, own, ρ, R, o, i, z, f⟩ := q
  exact f _ _ z (Kp.refl _ _) o
end
end DL
namespace DL
open PySem PySem.Spec PyProof.Rows L2 NW
abbrev DS1 := List DV → (DV → Prop) → Prop
/-- called with data, a def gives data -/
def dsp (s : DS1) : Sp := fun vs H Q _ => ∃ W ds R, W.Ok H ∧ Iss W H vs ds ∧ s ds R ∧ Fin W H R Q
def startD (n : Nat) (ds : List DV) : Env := ds.map Sl.dt ++ List.replicate (n - ds.length) Sl.un
theorem isE_start {W : Wd} {H : Hp} {N : List Str} {vs : List V} {ds : List DV} (h : Iss W H vs ds) : IsE W (fun _ => none) H (L2.start N vs) (startD N.length ds) := by
  have l := h.len
  refine ⟨?_, fun i d e => ?_, fun i xs e => ?_, fun i ks xs e => ?_, fun i A C ns xs e => ?_, fun _ _ z => nomatch z⟩
  · unfold L2.start startD
    rw [List.length_append, List.length_append, List.length_map, List.length_map, List.length_replicate, List.length_replicate, l]
  · unfold startD at e
    by_cases hi : i < ds.length
    · rw [List.getElem?_append_left (by rw [List.length_map]; exact hi), List.getElem?_map] at e
      cases z : ds[i]? with
      | none => rw [z] at e; cases e
      | some d' =>
        rw [z] at e
        cases e
        obtain ⟨v, h1, h2⟩ := h.get z
        refine ⟨v, ?_, h2⟩
        unfold L2.start
        rw [List.getElem?_append_left (by rw [List.length_map, l]; exact hi), List.getElem?_map, h1]
        rfl
    · rw [List.getElem?_append_right (by rw [List.length_map]; omega)] at e
      have := List.mem_of_getElem? e
      rw [List.mem_replicate] at this
      cases this.2
  · unfold startD at e
    have := List.mem_of_getElem? e
    rw [List.mem_append, List.mem_map, List.mem_replicate] at this
    rcases this with ⟨_, _, z⟩ | ⟨_, z⟩ <;> cases z
  · unfold startD at e
    have := List.mem_of_getElem? e
    rw [List.mem_append, List.mem_map, List.mem_replicate] at this
    rcases this with ⟨_, _, z⟩ | ⟨_, z⟩ <;> cases z
  · unfold startD at e
    have := List.mem_of_getElem? e
    rw [List.mem_append, List.mem_map, List.mem_replicate] at this
    rcases this with ⟨_, _, z⟩ | ⟨_, z⟩ <;> cases z
/-- what a body owes -/
def Owes (n : Nat) (s : DS1) (w : WS) : Prop := ∀ ds R, s ds R → w { nx := fun _ => R .non, rt := R } (startD n ds)
theorem dl_start {Ex : L2.WX} {s : DS1} {w : WS} {N : List Str} (o : Owes N.length s w) (vs : List V) (H : Hp) (Q : VK) (E : XK) (h : dsp s vs H Q E) : liftS Ex w { nx := fun _ H' => Q .non H', rt := Q } (L2.start N vs) H := by
  obtain ⟨W, ds, R, ok, i, hs, f⟩ := h
  refine ⟨⟨W.st, W.hid, H⟩, fun _ => none, _, _, ⟨ok.s, Kp.refl _ _, by rw [w_none]; exact ok, by rw [w_none]; exact isE_start i, (fun _ _ z => nomatch z), (fun _ _ _ z => nomatch z)⟩, o ds R hs, ⟨fun own ρ σ H' r c => ?_, fun _ _ _ _ z => z.elim, fun _ _ _ _ z => z.elim, fun d v H' r k o i => f d v H' r k o i, fun _ _ _ _ _ _ _ _ _ z => z.elim⟩⟩
  exact f _ _ _ r c.k c.ok0 .non
def wCall (s : DS1) (r : WA) : WE := fun ρ R => r ρ fun ds => s ds R
theorem call_tr {s : DS1} {r : WA} {E : XK} : ∀ σ H Q, lift (wCall s r) σ H Q → tCall (dsp s) [] E (liftA r) σ H Q := fun σ H Q q => by
  obtain ⟨W, own, ρ, R, o, i, z, f⟩ := q
  refine ⟨W, own, ρ, _, o, i, z, fun ds vs H1 r1 k1 o1 i1 => ?_⟩
  show dsp s (vs ++ []) H1 Q E
  rw [List.append_nil]
  exact ⟨W, ds, R, o1, i1, r1, f.mono k1⟩
section
variable {Ex : L2.WX}
variable {X : Cx} {e a b c : Expr} {es : List Expr} {w wa : WE} {s : DS1} {r : WA} {pos p : Pos}
theorem dcall (h : PE X e (tCall (dsp s) [] E0 (liftA r))) : PE X e (lift (wCall s r)) := pe_weak h call_tr
theorem dcb {d : DA} {rr : List V → Hp → VK → Prop} (hc : Cl rr d) (h : PE X e (tCB rr (liftB r))) : PE X e (lift (wCB d r)) := pe_weak h (cb_tr hc)
theorem pair1 {W : Wd} {own : Nat → Option Addr} {H : Hp} {vs : List V} {d : DV} (h : Paired (IsP W own H) vs [d]) : ∃ v, vs = [v] ∧ IsP W own H v d := by
  cases h with
  | cons x t => cases t; exact ⟨_, rfl, x⟩
theorem pair2 {W : Wd} {own : Nat → Option Addr} {H : Hp} {vs : List V} {d d2 : DV} (h : Paired (IsP W own H) vs [d, d2]) : ∃ v v2, vs = [v, v2] ∧ IsP W own H v d ∧ IsP W own H v2 d2 := by
  cases h with
  | cons x t =>
    cases t with
    | cons y t => cases t; exact ⟨_, _, rfl, x, y⟩
def dLen : DA := fun ds R => match ds with
  | [.str s] => s.length ≤ 1000000 ∧ R (.int (s.length : Nat))
  | [.lst xs] => R (.int (xs.length : Nat))
  | [.tup xs] => R (.int (xs.length : Nat))
  | _ => False
theorem clLen {K : PySem.W.Frag} : Cl (aLen K) dLen := by
  intro W own H vs ds R Q o h hd f
  unfold dLen at hd
  split at hd
  · obtain ⟨v, rfl, i⟩ := pair1 h
    cases i.str
    exact ⟨_, _, rfl, ⟨le_line hd.1, rfl⟩, f.int o hd.2⟩
  · obtain ⟨v, rfl, i⟩ := pair1 h
    obtain ⟨p, us, rfl, h1, h2, h3⟩ := i.lst
    exact ⟨_, _, rfl, .inl ⟨us, SqL.of h1, rfl⟩, by rw [h3.len]; exact f.int o hd⟩
  · obtain ⟨v, rfl, i⟩ := pair1 h
    obtain ⟨p, us, rfl, h1, h2, h3⟩ := i.tup
    exact ⟨_, _, rfl, .inr ⟨us, SqT.of h1, rfl⟩, by rw [h3.len]; exact f.int o hd⟩
  · exact hd.elim
def dInt : DA := fun ds R => match ds with
  | [.int i] => R (.int i)
  | _ => False
theorem clInt : Cl aInt dInt := by
  intro W own H vs ds R Q o h hd f
  unfold dInt at hd
  split at hd
  · obtain ⟨v, rfl, i⟩ := pair1 h
    cases i.int
    exact .inl (.inl ⟨_, rfl, f.int o hd⟩)
  · exact hd.elim
def dAbs : DA := fun ds R => match ds with
  | [.int i] => R (.int (if i < 0 then -i else i))
  | _ => False
def dMax : DA := fun ds R => match ds with
  | [.int i, .int j] => R (.int (if j > i then j else i))
  | _ => False
theorem clMax : Cl aMax dMax := by
  intro W own H vs ds R Q o h hd f
  unfold dMax at hd
  split at hd
  · obtain ⟨v, u, rfl, i, j⟩ := pair2 h
    cases i.int; cases j.int
    exact ⟨_, _, rfl, f.int o hd⟩
  · exact hd.elim
def dMin : DA := fun ds R => match ds with
  | [.int i, .int j] => R (.int (if j < i then j else i))
  | _ => False
theorem clMin : Cl aMin dMin := by
  intro W own H vs ds R Q o h hd f
  unfold dMin at hd
  split at hd
  · obtain ⟨v, u, rfl, i, j⟩ := pair2 h
    cases i.int; cases j.int
    exact ⟨_, _, rfl, f.int o hd⟩
  · exact hd.elim
/-- list(x): a new list -/
def dList : DA := fun ds R => match ds with
  | [.lst xs] => R (.lst xs)
  | [.tup xs] => R (.lst xs)
  | _ => False
theorem clList {K : PySem.W.Frag} : Cl (aList K) dList := by
  intro W own H vs ds R Q o h hd f
  unfold dList at hd
  split at hd
  · obtain ⟨v, rfl, i⟩ := pair1 h
    obtain ⟨p, us, rfl, h1, h2, h3⟩ := i.lst
    exact ⟨_, us, rfl, .inl (SqL.of h1), f.f.new o h2 h3 hd⟩
  · obtain ⟨v, rfl, i⟩ := pair1 h
    obtain ⟨p, us, rfl, h1, h2, h3⟩ := i.tup
    exact ⟨_, us, rfl, .inr (SqT.of h1), f.f.new o h2 h3 hd⟩
  · exact hd.elim
def fList (w : WE) : WF := fun ρ R => w ρ fun d => match d with
  | .lst xs => R xs
  | .tup xs => R xs
  | _ => False
def dTup : DA := fun ds R => match ds with
  | [.lst xs] => R (.tup xs)
  | [.tup xs] => R (.tup xs)
  | _ => False
theorem clTup {K : PySem.W.Frag} : Cl (aTup K) dTup := by
  intro W own H vs ds R Q o h hd f
  unfold dTup at hd
  split at hd
  · obtain ⟨v, rfl, i⟩ := pair1 h
    obtain ⟨p, us, rfl, h1, h2, h3⟩ := i.lst
    exact tup_l h1 (f.tup o h2 h3 hd)
  · obtain ⟨v, rfl, i⟩ := pair1 h
    have i' := i.is (fun _ e => nomatch e)
    cases i' with
    | tup h1 h2 h3 h4 => exact tup_t h1 (f.at o (.tup h1 h2 h3 h4) hd)
  · exact hd.elim
def dStr : DA := fun ds R => match ds with
  | [.int i] => i.natAbs < 2 ^ 300 ∧ R (.str (toString i))
  | _ => False
theorem clStr : Cl aStr dStr := by
  intro W own H vs ds R Q o h hd f
  unfold dStr at hd
  split at hd
  · obtain ⟨v, rfl, i⟩ := pair1 h
    cases i.int
    exact str_i hd.1 (f.str o hd.2)
  · exact hd.elim
def dAll : DA := fun ds R => match ds with
  | [.lst xs] => ∃ bs : List Bool, xs = bs.map DV.bl ∧ R (.bl (bs.all id))
  | _ => False
theorem clAll {K : PySem.W.Frag} : Cl (rAll K) dAll := by
  intro W own H vs ds R Q o h hd f
  unfold dAll at hd
  split at hd
  · obtain ⟨v, rfl, i⟩ := pair1 h
    obtain ⟨ns, rfl, r⟩ := hd
    obtain ⟨p, us, rfl, h1, h2, h3⟩ := i.lst
    obtain rfl := iss_bl h3
    exact ⟨p, ns, rfl, SqL.of h1, f.bl o r⟩
  · exact hd.elim
def tyS : DV → Option String
  | .non => some "NoneType"
  | .bl _ => some "bool"
  | .int _ => some "int"
  | .str _ => some "str"
  | .lst _ => some "list"
  | .tup _ => some "tuple"
  | .dic _ _ => some "dict"
  | _ => none
theorem ty_of {K : PySem.W.Frag} {W : Wd} {own : Nat → Option Addr} {H : Hp} {v : V} {d : DV} {a : String} (h : IsP W own H v d) (e : tyS d = some a) : TyX K H v (.type a) := by
  cases d with
  | non => cases h.non; cases e; exact .base .non
  | bl b => cases h.bl; cases e; exact .base (.bl _)
  | int b => cases h.int; cases e; exact .base (.int _)
  | str b => cases h.str; cases e; exact .base (.str _)
  | lst xs =>
    obtain ⟨p, us, rfl, h1, _⟩ := h.lst
    cases e; exact .base (.lst h1)
  | tup xs =>
    obtain ⟨p, us, rfl, h1, _⟩ := h.tup
    cases e; exact .base (.tup h1)
  | dic ks xs =>
    cases h.is (fun _ e => nomatch e) with
    | dic h1 => cases e; exact h1.elim (fun h => .base (.dK h)) fun ⟨o, h⟩ => .fDict h
  | _ => cases e
def isiB (T : String) (d : DV) : Option Bool := (tyS d).bind fun a => kitB a T
def wIsi (T : String) (w : WE) : WE := fun ρ R => w ρ fun d => ∃ b, isiB T d = some b ∧ R (.bl b)
theorem isiB_ty {T : String} {d : DV} {b : Bool} (h : isiB T d = some b) : ∃ a, tyS d = some a ∧ kitB a T = some b := by
  unfold isiB at h
  cases e : tyS d with
  | none => rw [e] at h; cases h
  | some a => rw [e] at h; exact ⟨a, rfl, h⟩
theorem disi {K : PySem.W.Frag} {T : String} (h : PE X e (tCB (aIsi K) (tCons (liftP w) (tCons (tC (.ty T)) tNil)))) : PE X e (lift (wIsi T w)) := pe_weak h fun σ H Q q => by
  obtain ⟨W, own, ρ, R, o, i, z, f⟩ := q
  refine ⟨W, own, ρ, _, o, i, z, fun d v H1 r k1 o1 i1 => ?_⟩
  obtain ⟨b, h1, r⟩ := r
  obtain ⟨t, h2, h3⟩ := isiB_ty h1
  exact isi_of (ty_of i1 h2) h3 ((f.mono k1).bl o1 r)
def wIsi2 (T U : String) (w : WE) : WE := fun ρ R => w ρ fun d => ∃ b c, isiB T d = some b ∧ isiB U d = some c ∧ R (.bl (b || c))
theorem isi_non_bool  : isiB "bool" .non = some false := by show kitB "NoneType" "bool" = some false; decide +kernel
theorem isi_non_int  : isiB "int" .non = some false := by show kitB "NoneType" "int" = some false; decide +kernel
theorem isi_bl_bool {k : Bool} : isiB "bool" (.bl k) = some true := by show kitB "bool" "bool" = some true; decide +kernel
theorem isi_bl_int {k : Bool} : isiB "int" (.bl k) = some true := by show kitB "bool" "int" = some true; decide +kernel
theorem isi_int_bool {k : Int} : isiB "bool" (.int k) = some false := by show kitB "int" "bool" = some false; decide +kernel
theorem isi_int_int {k : Int} : isiB "int" (.int k) = some true := by show kitB "int" "int" = some true; decide +kernel
theorem isi_str_bool {k : Str} : isiB "bool" (.str k) = some false := by show kitB "str" "bool" = some false; decide +kernel
theorem isi_str_int {k : Str} : isiB "int" (.str k) = some false := by show kitB "str" "int" = some false; decide +kernel
theorem isi_str_str {k : Str} : isiB "str" (.str k) = some true := by show kitB "str" "str" = some true; decide +kernel
theorem isi_lst_list {k : List DV} : isiB "list" (.lst k) = some true := by show kitB "list" "list" = some true; decide +kernel
theorem isi_tup_tuple {k : List DV} : isiB "tuple" (.tup k) = some true := by show kitB "tuple" "tuple" = some true; decide +kernel
theorem isi_dic_bool {k : List Key} {l : List DV} : isiB "bool" (.dic k l) = some false := by show kitB "dict" "bool" = some false; decide +kernel
theorem isi_dic_int {k : List Key} {l : List DV} : isiB "int" (.dic k l) = some false := by show kitB "dict" "int" = some false; decide +kernel
theorem isi_dic_str {k : List Key} {l : List DV} : isiB "str" (.dic k l) = some false := by show kitB "dict" "str" = some false; decide +kernel
theorem isi_dic_dict {k : List Key} {l : List DV} : isiB "dict" (.dic k l) = some true := by show kitB "dict" "dict" = some true; decide +kernel
end
end DL
namespace DL
open PySem PySem.Spec PyProof.Rows L2 NW
abbrev DS2 := List DV → (DV → Prop) → (DV → Prop) → Prop
def FinX (W : Wd) (H : Hp) (RX : DV → Prop) (E : XK) : Prop := ∀ C ns xs dd H' fs, RX (.err C ns xs) → Kp W.st H H' → W.Ok H' → H' dd = some (.xd fs) → W.ok dd → fs.map (·.1) = ns → Iss W H' (fs.map (·.2)) xs → E (.ref C) (some dd) H'
/-- a def that may raise -/
def dspX (s : DS2) : Sp := fun vs H Q E => ∃ W ds R RX, W.Ok H ∧ Iss W H vs ds ∧ s ds R RX ∧ Fin W H R Q ∧ FinX W H RX E
def OwesX (n : Nat) (s : DS2) (w : WS) : Prop := ∀ ds R RX, s ds R RX → w { nx := fun _ => R .non, rt := R, xc := fun e _ => RX e } (startD n ds)
theorem dl_startX {s : DS2} {w : WS} {N : List Str} (o : OwesX N.length s w) (vs : List V) (H : Hp) (Q : VK) (E : XK) (h : dspX s vs H Q E) : liftS (fun cls d _ H => E cls d H) w { nx := fun _ H' => Q .non H', rt := Q } (L2.start N vs) H := by
  obtain ⟨W, ds, R, RX, ok, i, hs, f, g⟩ := h
  refine ⟨⟨W.st, W.hid, H⟩, fun _ => none, _, _, ⟨ok.s, Kp.refl _ _, by rw [w_none]; exact ok, by rw [w_none]; exact isE_start i, (fun _ _ z => nomatch z), (fun _ _ _ z => nomatch z)⟩, o ds R RX hs, ⟨fun own ρ σ H' r c => ?_, fun _ _ _ _ z => z.elim, fun _ _ _ _ z => z.elim, fun d v H' r k o i => f d v H' r k o i, fun own ρ σ H' C ns xs dd fs r c h1 h2 h3 h4 => ?_⟩⟩
  · exact f _ _ _ r c.k c.ok0 .non
  · exact g C ns xs dd H' fs r c.k c.ok0 h1 ⟨h2.1, fun z => h2.2 (.inl z)⟩ h3 h4.w0
/-- a call that raises nothing -/
def wCallN (s : DS2) (r : WA) : WE := fun ρ R => r ρ fun ds => s ds R fun _ => False
theorem callN_tr {s : DS2} {r : WA} {E : XK} : ∀ σ H Q, lift (wCallN s r) σ H Q → tCall (dspX s) [] E (liftA r) σ H Q := fun σ H Q q => by
  obtain ⟨W, own, ρ, R, o, i, z, f⟩ := q
  refine ⟨W, own, ρ, _, o, i, z, fun ds vs H1 r1 k1 o1 i1 => ?_⟩
  show dspX s (vs ++ []) H1 Q E
  rw [List.append_nil]
  exact ⟨W, ds, R, _, o1, i1, r1, f.mono k1, fun _ _ _ _ _ _ z => z.elim⟩
section
variable {Ex : L2.WX}
variable {X : Cx} {e a b c : Expr} {es : List Expr} {w wa : WE} {s : DS2} {r : WA} {pos p : Pos} {st : Stmt}
theorem dcallN (h : PE X e (tCall (dspX s) [] E0 (liftA r))) : PE X e (lift (wCallN s r)) := pe_weak h callN_tr
theorem fx_of {B : Bs} {own : Nat → Option Addr} {H H1 : Hp} {σ : L2.St} {ρ : Env} {E : WEnds} {D : Ends} (c : Ctx B own H σ ρ) (d : Dl B E D Ex) (k : Kp B.st H H1) : FinX (B.w own) H1 (fun x => E.xc x ρ) (L2.WE Ex σ) := fun C ns xs dd H' fs r k' o h1 h2 h3 h4 =>
  d.xc own ρ σ H' C ns xs dd fs r (c.mono (k.trans k') o) h1 h2 h3 h4
/-- x = f(..), f(..), return f(..), where what f raises is wished for -/
def wAsgX (i : Nat) (s : DS2) (r : WA) : WS := fun E ρ => r ρ fun ds => s ds (fun d => E.nx (ρ.set i (.dt d))) fun x => E.xc x ρ
theorem dasgX (i : Nat) (h : ∀ te, PE X e te → PS X st (tAsg te (gName i))) (he : PE X e (tCallS (dspX s) (L2.WE Ex) (liftA r))) : PS X st (liftS Ex (wAsgX i s r)) := ps_weak (h _ he) fun D σ H q => by
  obtain ⟨B, own, ρ, E, c, h, d⟩ := q
  refine ⟨B.w own, own, ρ, _, c.ok, c.e, h, fun ds vs H1 r1 k1 o1 i1 => ⟨B.w own, ds, _, _, o1, i1, r1, fun x v H2 r2 k2 o2 i2 => ?_, fx_of c d k1⟩⟩
  exact d.nx _ _ _ _ r2 ((c.mono (k1.trans k2) o2).set i i2)
def wDropX (s : DS2) (r : WA) : WS := fun E ρ => r ρ fun ds => s ds (fun _ => E.nx ρ) fun x => E.xc x ρ
theorem ddropX (h : ∀ te, PE X e te → PS X st (tDrop te)) (he : PE X e (tCallS (dspX s) (L2.WE Ex) (liftA r))) : PS X st (liftS Ex (wDropX s r)) := ps_weak (h _ he) fun D σ H q => by
  obtain ⟨B, own, ρ, E, c, h, d⟩ := q
  refine ⟨B.w own, own, ρ, _, c.ok, c.e, h, fun ds vs H1 r1 k1 o1 i1 => ⟨B.w own, ds, _, _, o1, i1, r1, fun x v H2 r2 k2 o2 i2 => ?_, fx_of c d k1⟩⟩
  exact d.nx _ _ _ _ r2 (c.mono (k1.trans k2) o2)
/-- raise C(e), one field -/
def wRaise1 (K : PySem.W.Frag) (cn fl : Str) (w : WE) : WS := fun E ρ => w ρ fun d => E.xc (.err (He.ga K cn) [fl] [d]) ρ
theorem draise1 {K : PySem.W.Frag} {E0' : XK} {cn fl : Str} (he : PS X st (tRaise E0' (tMkO (He.ga K cn) (sp_init1 K (He.ga K cn) fl) [] (tCons (lift w) tNil)))) : PS X st (liftS (fun cls d _ H => E0' cls d H) (wRaise1 K cn fl w)) := ps_weak he fun D σ H q => by
  obtain ⟨B, own, ρ, E, c, h, d⟩ := q
  refine s_raise1 ⟨B.w own, own, ρ, _, c.ok, c.e, h, fun x v H1 r1 k1 o1 i1 => mk_r fun dd hd => ?_⟩
  have s := same_new (o := .xd [(fl, v)]) hd
  have c1 := (c.mono k1 o1).mono (Kp.same s) (o1.same s)
  exact d.xc own ρ σ _ _ _ _ dd [(fl, v)] r1 c1 upd_same (o1.fresh hd) rfl (.cons (i1.mono (Kp.same s)) .nil)
/-- what an error class has to do with the handler -/
def liftH (w : Addr → Value → Option Addr → WS) (a : Addr) (cls : Value) (d : Option Addr) : TS := liftS (fun _ _ _ _ => False) (w a cls d)
def wTry (K : PySem.W.Frag) (i : Nat) (L : List Str) (s : WS) (h : Addr → Value → Option Addr → WS) : WS := fun E ρ => s { E with xc := fun x ρ' => ∃ (cn : Str) (ns : List Str) (xs : List DV), x = .err (He.ga K cn) ns xs ∧ cn ∈ L ∧ ∀ a dd, h a (.ref (He.ga K cn)) (some dd) { nx := fun _ => False, rt := fun v => E.rt v } (ρ'.set i (.dt (.hote a (He.ga K cn) dd ns xs))) } ρ
def selD (c : Str) : List DV := (kindsOf c).map DV.str
def wKd (K : PySem.W.Frag) (L : List Str) (a : Addr) (cls : Value) (d : Option Addr) (i : Nat) : WE := fun ρ R => atV (fun e => ∃ (cn : Str) (dd : Addr) (ns : List Str) (xs : List DV), e = .hote a (He.ga K cn) dd ns xs ∧ cls = .ref (He.ga K cn) ∧ d = some dd ∧ cn ∈ L ∧ R (.lst (selD cn))) ρ[i]?
/-- a field of the handled error -/
def lkD : List Str → List DV → Str → Option DV
  | n :: ns, x :: xs, m => if m = n then some x else lkD ns xs m
  | _, _, _ => none
theorem lk_ok {W : Wd} {H : Hp} {m : Str} : ∀ {fs : List (Str × V)} {ns : List Str} {xs : List DV} {x : DV}, fs.map (·.1) = ns → Iss W H (fs.map (·.2)) xs → lkD ns xs m = some x → ∃ v, fs.lookup m = some v ∧ Is W H v x
  | [], ns, xs, x, e, i, h => by
    subst e
    cases i
    cases h
  | (n, v) :: fs, ns, xs, x, e, i, h => by
    subst e
    cases i with
    | @cons _ _ y ys a t =>
      have h : (if m = n then some y else lkD (fs.map (·.1)) ys m) = some x := h
      rw [List.lookup_cons]
      by_cases z : m = n
      · have z' : (m == n) = true := beq_iff_eq.mpr z
        rw [if_pos z] at h
        rw [z']
        cases h
        exact ⟨v, rfl, a⟩
      · have z' : (m == n) = false := beq_eq_false_iff_ne.mpr z
        rw [if_neg z] at h
        rw [z']
        exact lk_ok rfl t h
def wXf (K : PySem.W.Frag) (L : List (Str × Str)) (a : Addr) (cls : Value) (d : Option Addr) (f : Str) (i : Nat) : WE := fun ρ R => atV (fun e => ∃ (cn : Str) (dd : Addr) (ns : List Str) (xs : List DV) (x : DV), e = .hote a (He.ga K cn) dd ns xs ∧ cls = .ref (He.ga K cn) ∧ d = some dd ∧ (cn, f) ∈ L ∧ lkD ns xs f = some x ∧ R x) ρ[i]?
theorem xf_tr {K : PySem.W.Frag} {L : List (Str × Str)} {a : Addr} {cls : Value} {d : Option Addr} {f : Str} {i : Nat} (F : ∀ c ∈ L, XfC K (He.ga K c.1) ∧ PySem.W.findIn K (.ref (He.ga K c.1)) c.2 = some none) : ∀ σ H Q, lift (wXf K L a cls d f i) σ H Q → tXfE K a cls d f (tVar i) σ H Q := fun σ H Q q => by
  obtain ⟨W, own, ρ, R, o, ie, z, g⟩ := q
  obtain ⟨_, z2, cn, dd, ns, xs, x, rfl, rfl, rfl, hm, hx, r⟩ := atV_ex z
  obtain ⟨v, hv, hi⟩ := ie.dt _ _ z2
  cases hi with
  | hot h1 h2 h3 h4 =>
    obtain ⟨u, hu, iu⟩ := lk_ok h3 h4 hx
    exact c_xf (F _ hm).1 (F _ hm).2 ⟨_, hv, rfl, dd, _, u, rfl, h1, hu, g.at o iu r⟩ ⟨i, rfl⟩
theorem dxf {K : PySem.W.Frag} {L : List (Str × Str)} {aa : Addr} {cls : Value} {d : Option Addr} {f : Str} {i : Nat} (F : ∀ c ∈ L, XfC K (He.ga K c.1) ∧ PySem.W.findIn K (.ref (He.ga K c.1)) c.2 = some none) (h : PE X e (tXfE K aa cls d f (tVar i))) : PE X e (lift (wXf K L aa cls d f i)) := pe_weak h (xf_tr F)
end
end DL
namespace DL
open PySem PySem.Spec PyProof.Rows L2 NW
section
variable {Ex : L2.WX}
variable {X : Cx} {e a b c : Expr} {es : List Expr} {w wa wb wc : WE} {pos p : Pos} {st : Stmt}
def dNeg (d : DV) (R : DV → Prop) : Prop := match d with
  | .int i => R (.int (-i))
  | _ => False
def wNeg (w : WE) : WE := fun ρ R => w ρ fun d => dNeg d R
theorem dneg (ha : PE X a (lift w)) : PE X (.UnaryOp .USub a pos) (lift (wNeg w)) := pe_weak (pe_un un_neg ha) fun σ H Q q => by
  obtain ⟨W, own, ρ, R, o, i, z, f⟩ := q
  refine ⟨W, own, ρ, _, o, i, z, fun d v H1 r k o1 i1 => ?_⟩
  unfold dNeg at r
  split at r
  · cases i1
    exact ⟨_, rfl, (f.mono k).int o1 r⟩
  · exact r.elim
theorem dchain {op op' : CmpOp} {r r' : R2} {d d' : D2} (ho : OpR X (compareOp op) r) (ho' : OpR X (compareOp op') r') (h : Op r d) (h' : Op r' d') (ha : PE X a (liftP wa)) (hb : PE X b (liftP wb)) (hc : PE X c (liftP wc))
    (hm : ∀ ta tb tc, PE X a ta → PE X b tb → PE X c tc → PE X e (tChain r r' ta tb tc)) : PE X e (lift (wChain d d' wa wb wc)) := pe_weak (hm _ _ _ ha hb hc) (chain_tr h h')
theorem dtchain {r r' : R2} {d d' : D2} (h : Op r d) (h' : Op r' d') (hm : PT X e (tTest (tChain r r' (liftP wa) (liftP wb) (liftP wc)))) : PT X e (liftT (wTB (wChain d d' wa wb wc))) := pt_weak hm fun σ H Q q => by
  obtain ⟨W, own, ρ, R, o, i, z, f⟩ := q
  refine chain_tr h h' σ H _ ⟨W, own, ρ, _, o, i, z, fun d v H' r k o' i' => ?_⟩
  split at r
  · cases i'
    exact ⟨_, rfl, f _ _ r k o'⟩
  · exact r.elim
abbrev WP := Env → (Option Int → Prop) → Prop
def liftO (w : WP) : TO := fun σ H Q => ∃ W own ρ R, W.Ok H ∧ IsE W own H σ ρ ∧ w ρ R ∧ ∀ o H', R o → Kp W.st H H' → W.Ok H' → Q o H'
def pN : WP := fun _ R => R none
def pP (w : WE) : WP := fun ρ R => w ρ fun d => match d with
  | .int i => R (some i)
  | _ => False
theorem po_weak {e : Option Expr} {t t' : TO} (h : PO X e t) (w : ∀ σ H Q, t' σ H Q → t σ H Q) : PO X e t' := ⟨fun pins s σ H Q I q => h.run pins s σ H Q I (w σ H Q q)⟩
theorem dpo0 : PO X none (liftO pN) := po_weak po_none fun σ H Q q => by
  obtain ⟨W, own, ρ, R, o, i, z, f⟩ := q
  exact f _ _ z (Kp.refl _ _) o
theorem dpo (h : PE X a (liftP w)) : PO X (some a) (liftO (pP w)) := po_weak (po_some h) fun σ H Q q => by
  obtain ⟨W, own, ρ, R, o, i, z, f⟩ := q
  refine ⟨W, own, ρ, _, o, i, z, fun d v H1 r k o1 i1 => ?_⟩
  split at r
  · cases i1.int
    exact ⟨_, rfl, f _ _ r k o1⟩
  · exact r.elim
def cutG {α : Type} (xs : List α) (lo hi : Option Int) : List α := (xs.drop (HT.sIx xs.length 0 lo)).take (HT.sIx xs.length xs.length hi - HT.sIx xs.length 0 lo)
theorem iss_cut {W : Wd} {H : Hp} {vs : List V} {xs : List DV} {lo hi : Option Int} (h : Iss W H vs xs) : Iss W H (cutV vs lo hi) (cutG xs lo hi) := by
  unfold cutV cutG
  rw [h.len]
  exact (h.drop _).take _
def dSl (d : DV) (lo hi : Option Int) (R : DV → Prop) : Prop := match d with
  | .lst xs => R (.lst (cutG xs lo hi))
  | .str s => s.length ≤ 1000000 ∧ R (.str (cutS s lo hi))
  | _ => False
def wSl (w : WE) (l h : WP) : WE := fun ρ R => w ρ fun d => l ρ fun lo => h ρ fun hi => dSl d lo hi R
def rSlB (K : PySem.W.Frag) : V → Option Int → Option Int → Hp → VK → Prop := fun x lo hi H Q => rSlL K x lo hi H Q ∨ rSlS x lo hi H Q
theorem slB : SlR X (rSlB X.K) := sl_list.or sl_str
theorem dsl {lo hi : Option Expr} {l h : WP} {p2 : Pos} (ha : PE X a (liftP w)) (hl : PO X lo (liftO l)) (hh : PO X hi (liftO h)) : PE X (.Subscript a (.Slice lo hi none p2) pos) (lift (wSl w l h)) := pe_weak (pe_slice slB ha hl hh) fun σ H Q q => by
  obtain ⟨W, own, ρ, R, o, i, z, f⟩ := q
  refine ⟨W, own, ρ, _, o, i, z, fun d v H1 r k o1 i1 => ⟨W, own, ρ, _, o1, i.mono o k, r, fun lo H2 r2 k2 o2 => ⟨W, own, ρ, _, o2, i.mono o (k.trans k2), r2, fun hi H3 r3 k3 o3 => ?_⟩⟩⟩
  have i3 := i1.mono o1 (k2.trans k3)
  have f3 := f.mono (k.trans (k2.trans k3))
  unfold dSl at r3
  split at r3
  · obtain ⟨p, vs, rfl, h1, h2, h3⟩ := i3.lst
    exact .inl ⟨p, vs, rfl, SqL.of h1, f3.f.new o3 (Nat.le_trans (cutV_length vs _ _) h2) (iss_cut h3) r3⟩
  · cases i3.str
    exact .inr ⟨_, rfl, le_line r3.1, f3.str o3 r3.2⟩
  · exact r3.elim
theorem dlistF {K : PySem.W.Frag} (h : ∀ t, PE X a t → PE X e (tCB (aList K) (tCons t tNil))) (ha : PE X a (liftP w)) : PE X e (liftF (fList w)) := pe_weak (h _ ha) fun σ H Q q => by
  obtain ⟨W, own, ρ, R, o, i, z, f⟩ := q
  refine ⟨W, own, ρ, _, o, i, z, fun d v H1 r k o1 i1 => ?_⟩
  split at r
  · obtain ⟨p, us, rfl, h1, h2, h3⟩ := i1.lst
    exact ⟨_, us, rfl, .inl (SqL.of h1), (f.mono k).new o1 h2 h3 r⟩
  · obtain ⟨p, us, rfl, h1, h2, h3⟩ := i1.tup
    exact ⟨_, us, rfl, .inr (SqT.of h1), (f.mono k).new o1 h2 h3 r⟩
  · exact r.elim
variable {wi : WI} {t : WT} {g : TG} {gg : WG} {vs : List Nat} {tt : TT} {tg iter elt : Expr} {ifs : List Expr} {Y : (Hp → Shared → Addr → List (Str × Addr) → List Addr → Cx)}
theorem one_tr {t : WT} : ∀ σ H Q, liftT t σ H Q → (liftT t) σ H Q := fun _ _ _ q => q
theorem dlc {t : WT} {tt : TT} (hg : Tc g gg vs) (ht : ∀ σ H Q, liftT t σ H Q → tt σ H Q) (h : PE X e (tLc (liftI wi) g tt (lift w) vs)) : PE X e (liftF (fLc wi gg t w vs)) := pe_weak h fun σ H Q q => lc_tr hg ht q
theorem dsetLc (i : Nat) {t : WT} {tt : TT} (hg : Tc g gg vs) (ht : ∀ σ H Q, liftT t σ H Q → tt σ H Q) (h : PS X st (tAsg (tLc (liftI wi) g tt (lift w) vs) (gName i))) : PS X st (liftS Ex (wAsg i (wF (fLc wi gg t w vs)))) := ps_weak h fun D σ H q => by
  obtain ⟨B, own, ρ, E, c, h, d⟩ := q
  refine lc_tr hg ht ⟨B.w own, own, ρ, _, c.ok, c.e, h, fun xs us q H1 r k o i1 l hq => ?_⟩
  have s := same_new (o := .lst us) hq
  exact d.nx _ _ _ _ r (((c.mono k o).mono (Kp.same s) (o.same s)).set i (.lst upd_same (o.fresh hq) l (i1.mono (Kp.same s))))
def dLrev (d : DV) (R : DV → Prop) : Prop := match d with
  | .lst xs => R (.lst xs.reverse)
  | _ => False
def wLrev (w : WE) : WE := fun ρ R => w ρ fun d => dLrev d R
def wPop (j : Nat) (w : WE) : WS := fun E ρ => atO (fun ys => w ρ fun d => ∃ k : Nat, d = .int k ∧ k < ys.length ∧ E.nx (ρ.set j (.ow (ys.eraseIdx k)))) ρ[j]?
/-- x op= e for whole numbers -/
def dIAdd : D2 := fun a b R => match a, b with
  | .int i, .int j => R (.int (i + j))
  | _, _ => False
theorem opIAdd : Op iAdd dIAdd := by
  intro W own H x y a b R Q o hx hy hd f
  unfold dIAdd at hd
  split at hd
  · cases hx.int; cases hy.int
    exact ⟨_, _, rfl, rfl, f.int o hd⟩
  · exact hd.elim
end
section
variable {P : Program} {w : World} {K : PySem.W.Frag} {mg : Str → Option Value} {base : Heap} {x : Str} {k : Nat} {ps : List Str} {sp sp' : Sp} {p : Addr × Obj}
theorem Has.weak (h : Has P w K mg base x k ps sp) (z : ∀ vs H Q E, sp' vs H Q E → sp vs H Q E) : Has P w K mg base x k ps sp' := by
  obtain ⟨f, fd, F⟩ := h
  exact ⟨f, fd, F.g, F.kp, F.b, ⟨fun vs H Q E q => F.ok.len vs H Q E (z _ _ _ _ q), fun A outer s H args us vs Q E r e b v q => F.ok.run A outer s H args us vs Q E r e b v (z _ _ _ _ q)⟩⟩
end
theorem len_dsp {s : DS1} {n : Nat} (h : ∀ ds R, s ds R → ds.length = n) : ∀ vs H Q E, dsp s vs H Q E → vs.length = n := fun vs H Q E q => by
  obtain ⟨W, ds, R, o, i, z, f⟩ := q
  rw [i.len]; exact h ds R z
theorem len_dspX {s : DS2} {n : Nat} (h : ∀ ds R RX, s ds R RX → ds.length = n) : ∀ vs H Q E, dspX s vs H Q E → vs.length = n := fun vs H Q E q => by
  obtain ⟨W, ds, R, RX, o, i, z, f⟩ := q
  rw [i.len]; exact h ds R RX z
def s_take : DS1 := fun ds R => match ds with
  | [.sto, .int n] => n < 2 ^ 300 ∧ ∀ r : Int, 0 ≤ r → (r < n ∨ r = 0) → R (.int r)
  | _ => False
theorem take_weak : ∀ vs H Q E, dsp s_take vs H Q E → sp_take vs H Q E := fun vs H Q E q => by
  obtain ⟨W, ds, R, o, i, z, f⟩ := q
  unfold s_take at z
  split at z
  · cases i with
    | cons a t =>
      cases t with
      | cons b t =>
        cases t; cases b
        cases a with
        | sto e =>
          rename_i st
          have so := o.s
          rw [e] at so
          refine ⟨st, _, rfl, so, z.1, fun r H' s k h0 h1 => ?_⟩
          have kk : Kp W.st H H' := by rw [e]; exact k
          exact f _ _ _ (z.2 r h0 h1) kk (o.mono kk (by rw [e]; exact s)) (.int _)
  · exact z.elim
end DL
namespace DL
open PySem PySem.Spec PyProof.Rows L2 NW
theorem forL_ind {g : WG} {s : WS} {E : WEnds} {xs : List DV} {ρ : Env} (P : Nat → Env → Prop) (h0 : P 0 ρ) (hs : ∀ i x ρ (K : Env → Prop), xs[i]? = some x → P i ρ → (∀ ρ', P (i + 1) ρ' → K ρ') → g x ρ fun ρ' => s { E with nx := K, ct := K, bk := E.nx } ρ') (hd : ∀ ρ, P xs.length ρ → E.nx ρ) : forL g s E xs ρ := by
  induction xs generalizing P ρ with
  | nil => exact hd _ h0
  | cons x xs ih =>
    refine hs 0 x ρ _ rfl h0 fun ρ' p => ?_
    exact ih (fun i => P (i + 1)) p (fun i y ρ K hy p k => hs (i + 1) y ρ K hy p k) hd
theorem lcL_ind {g : WG} {t : WT} {w : WE} {xs : List DV} {ρ : Env} {acc : List DV} {R : List DV → Prop} (P : Nat → List DV → Prop) (h0 : P 0 acc) (hs : ∀ i x acc (K : List DV → Prop), xs[i]? = some x → P i acc → (∀ acc', P (i + 1) acc' → K acc') → g x ρ fun ρ' => t ρ' fun k => if k = true then w ρ' fun y => K (acc ++ [y]) else K acc) (hd : ∀ acc, P xs.length acc → R acc) : lcL g t w xs ρ acc R := by
  induction xs generalizing P acc with
  | nil => exact hd _ h0
  | cons x xs ih =>
    refine hs 0 x acc (fun acc' => lcL g t w xs ρ acc' R) rfl h0 fun acc' p => ?_
    exact ih (fun i => P (i + 1)) p (fun i y ρ K hy p k => hs (i + 1) y ρ K hy p k) hd
theorem atI_lit {α : Type} {xs : List α} {i : Int} {x : α} (h0 : 0 ≤ i) (h : xs[i.toNat]? = some x) : atI xs i = some x := by
  have e : i = ((i.toNat : Nat) : Int) := by omega
  rw [e]; exact atI_nat h
theorem intL_at {lo : Int} {n i : Nat} {x : DV} (h : (intL lo n)[i]? = some x) : x = .int (lo + (i : Nat)) ∧ i < n := by
  have l : i < (intL lo n).length := (List.getElem?_eq_some_iff.mp h).1
  rw [intL_len] at l
  unfold intL at h
  rw [List.getElem?_map, List.getElem?_range l] at h
  exact ⟨(Option.some.inj h).symm, l⟩
theorem Str.ext' {a b : Str} (h : a.cps.toList = b.cps.toList) : a = b := by
  obtain ⟨x⟩ := a
  obtain ⟨y⟩ := b
  simp only at h
  rw [Array.toList_inj.mp h]
theorem app_cps (a b : Str) : (a ++ b).cps.toList = a.cps.toList ++ b.cps.toList := by
  show (a.cps ++ b.cps).toList = _
  rw [Array.toList_append]
theorem len_cps (a : Str) : a.length = a.cps.toList.length := by
  show a.cps.size = _
  rw [Array.length_toList]
theorem one_cps (c : Nat) : (⟨#[c]⟩ : Str).cps.toList = [c] := rfl
theorem cut_cps (z : Str) (lo hi : Option Int) : (cutS z lo hi).cps.toList = cutG z.cps.toList lo hi := by
  unfold cutS cutG
  rw [len_cps]
theorem cutG_to {α : Type} (xs : List α) (k : Nat) : cutG xs none (some (k : Int)) = xs.take k := by
  unfold cutG
  rw [HT.sIx_none, HT.sIx_nat, List.drop_zero, Nat.sub_zero, List.take_eq_take_iff]
  omega
theorem cutG_from {α : Type} (xs : List α) (k : Nat) : cutG xs (some (k : Int)) none = xs.drop k := by
  unfold cutG
  rw [HT.sIx_none, HT.sIx_nat]
  by_cases h : k ≤ xs.length
  · rw [Nat.min_eq_left h, List.take_of_length_le (by rw [List.length_drop]; exact Nat.le_refl _)]
  · rw [Nat.min_eq_right (by omega), List.drop_eq_nil_of_le (Nat.le_refl _), List.drop_eq_nil_of_le (show xs.length ≤ k by omega), List.take_nil]
local macro_rules | `(tactic| walk_at "dl1") => `(tactic| simp only [wTry, wAsgX, wDropX, wKd, wXf, wSeq, wAsg, wAsgO, wRet, wIfS, wNx, wPass, wBk, wCt, wDrop, wAug, wApp, wAppPop, wPop, wFor, wFz, wV, wVP, atV, atP, atO, wC, wOp, wCall, wCallN, wCB, aC, aN, wL, wTu, fL, wF, fCat, fList, wTB, wTru, wAnd, wOr, wNot, wAndV, wOrV, wNotV, wIf, wChain, wIsN, wNeg, dNeg, wSl, pN, pP, dSl, wLrev, dLrev, wIsi, wIsi2, iL, iT, iV, iS, iR1, iR2, gN, fLc, wYes, wiL,
  dAdd, dSub, dMul, dMulS, dMulL, dDiv, dMod, dLt, dLe, dGt, dGe, dEq, dNe, eqD, dIn, dNi, dIx, dTru, isNon, dLen, dInt, dAbs, dMax, dMin, dList, dTup, dStr, dIAdd, frzE, frz1, startD, List.map_cons, List.map_nil, List.length_cons, List.length_nil, List.replicate_succ, List.replicate_zero, List.cons_append, List.nil_append, List.append_nil, List.getElem?_cons_zero, List.getElem?_cons_succ, List.set_cons_zero, List.set_cons_succ, Nat.reduceSub, Nat.reduceAdd, if_true, if_false, ite_true, ite_false, reduceIte, Bool.false_eq_true, decide_true, decide_false, Bool.not_true, Bool.not_false, Bool.not_eq_true', decide_eq_true_eq, decide_eq_false_iff_not, isi_int_int, isi_int_bool, isi_bl_int, isi_bl_bool, isi_non_int, isi_non_bool, isi_str_int, isi_str_bool, isi_str_str, isi_lst_list, isi_tup_tuple, Option.some.injEq, exists_eq_left', exists_eq_left, DV.int.injEq, DV.str.injEq, DV.bl.injEq, List.cons.injEq, and_true, true_and])
local macro_rules | `(tactic| walk_at "dl") => `(tactic| try walk_at "dl1")
local macro_rules | `(tactic| walk_at "go") => `(tactic| repeat' (first
  | (intro _)
  | walk_at "dl1"
  | (refine ⟨by first | decide | omega, ?_⟩)
  | split))
def w_number : WS :=
  (wSeq (wAsg 3 (wCall s_take (aC (wV 0) (aC (wC (.int 6)) aN))))
    (wSeq (wIfS (wOr (wTB (wOp dEq (wVP 3) (wC (.int 0)))) (wTB (wOp dLe (wVP 2) (wVP 1)))) (wRet (wV 1)) wNx)
    (wSeq (wIfS (wTB (wOp dEq (wVP 3) (wC (.int 1)))) (wRet (wV 2)) wNx)
    (wSeq (wIfS (wTB (wOp dEq (wVP 3) (wC (.int 2)))) (wRet (wCB dMin (aC (wVP 2) (aC (wOp dAdd (wOp dAdd (wVP 1) (wC (.int 1))) (wCall s_take (aC (wV 0) (aC (wC (.int 2)) aN)))) aN)))) wNx)
    (wSeq (wIfS (wTB (wOp dEq (wVP 3) (wC (.int 3)))) (wRet (wCB dMax (aC (wVP 1) (aC (wOp dSub (wOp dSub (wVP 2) (wC (.int 1))) (wCall s_take (aC (wV 0) (aC (wC (.int 2)) aN)))) aN)))) wNx)
    (wRet (wOp dAdd (wVP 1) (wCall s_take (aC (wV 0) (aC (wOp dAdd (wOp dSub (wVP 2) (wVP 1)) (wC (.int 1))) aN))))))))))
def s_number : DS1 := fun ds R => match ds with
  | [.sto, .int lo, .int hi] => hi - lo + 1 < 2 ^ 300 ∧ ∀ r : Int, lo ≤ r → (r ≤ hi ∨ r = lo) → R (.int r)
  | _ => False
theorem l_number : ∀ ds R, s_number ds R → ds.length = 3 := by
  intro ds R h
  unfold s_number at h
  split at h
  · rfl
  · exact h.elim
theorem o_number : Owes 4 s_number w_number := by
  intro ds R h
  unfold s_number at h
  split at h
  · unfold w_number
    walk_at "dl"
    simp only [s_take]
    obtain ⟨h1, h⟩ := h
    walk_at "go"
    all_goals apply h <;> omega
  · exact h.elim
def w_pick : WS :=
  (wRet (wOp dIx (wVP 1) (wCall s_take (aC (wV 0) (aC (wCB dLen (aC (wVP 1) aN)) aN)))))
def s_pick : DS1 := fun ds R => match ds with
  | [.sto, .lst xs] => 0 < xs.length ∧ xs.length ≤ 1000000 ∧ ∀ x ∈ xs, R x
  | [.sto, .str s] => 0 < s.length ∧ s.length ≤ 1000000 ∧ ∀ c ∈ s.cps.toList, R (.str ⟨#[c]⟩)
  | _ => False
theorem l_pick : ∀ ds R, s_pick ds R → ds.length = 2 := by
  intro ds R h
  unfold s_pick at h
  split at h
  · rfl
  · rfl
  · exact h.elim
theorem o_pick : Owes 2 s_pick w_pick := by
  intro ds R h
  unfold s_pick at h
  split at h
  · unfold w_pick
    walk_at "dl"
    simp only [s_take]
    rename_i xs
    obtain ⟨h0, h1, h⟩ := h
    refine ⟨by omega, fun r r0 r1 => ?_⟩
    walk_at "dl"
    have l : r.toNat < xs.length := by omega
    exact ⟨_, atI_lit r0 (List.getElem?_eq_getElem l), h _ (List.getElem_mem l)⟩
  · unfold w_pick
    walk_at "dl"
    simp only [s_take]
    rename_i s
    obtain ⟨h0, h1, h⟩ := h
    refine ⟨h1, by omega, fun r r0 r1 => ?_⟩
    walk_at "dl"
    rw [len_cps] at h0 r1
    have l : r.toNat < s.cps.toList.length := by omega
    exact ⟨h1, _, atI_lit r0 (List.getElem?_eq_getElem l), h _ (List.getElem_mem l)⟩
  · exact h.elim
def sg (k : Nat) : Nat := if k < 26 then 97 + k else 22 + k
theorem sg_at : ∀ k < 36, ("abcdefghijklmnopqrstuvwxyz0123456789" : Str).cps.toList[k]? = some (sg k) := by decide +kernel
def letB (c : Nat) : Bool := decide (97 ≤ c) && decide (c ≤ 122)
def lodB (c : Nat) : Bool := letB c || (decide (48 ≤ c) && decide (c ≤ 57))
theorem sg_let {k : Nat} (h : k < 26) : letB (sg k) = true := by
  unfold letB sg
  rw [if_pos h]
  simp only [Bool.and_eq_true, decide_eq_true_eq]
  omega
theorem sg_lod {k : Nat} (h : k < 36) : lodB (sg k) = true := by
  unfold lodB letB sg
  split <;> simp only [Bool.or_eq_true, Bool.and_eq_true, decide_eq_true_eq] <;> omega
/-- what a name is -/
def nmL : List Nat → Bool
  | [] => false
  | c :: cs => letB c && cs.all lodB && decide (cs.length ≤ 7)
def nmB (s : Str) : Bool := nmL s.cps.toList
theorem nm_len {s : Str} (h : nmB s = true) : 1 ≤ s.length ∧ s.length ≤ 8 := by
  rw [len_cps]
  unfold nmB nmL at h
  split at h
  · cases h
  · simp only [Bool.and_eq_true, decide_eq_true_eq] at h
    rename_i e
    rw [e, List.length_cons]
    omega
theorem nm_of {s : Str} {c : Nat} {cs : List Nat} (e : s.cps.toList = c :: cs) (h1 : letB c = true) (h2 : cs.all lodB = true) (h3 : cs.length ≤ 7) : nmB s = true := by
  unfold nmB
  rw [e]
  show (letB c && cs.all lodB && decide (cs.length ≤ 7)) = true
  rw [h1, h2, decide_eq_true h3]
  rfl
def w_sign : WS :=
  (wRet (wOp dIx (wC (.str "abcdefghijklmnopqrstuvwxyz0123456789")) (wOp dMod (wCB dInt (aC (wVP 0) aN)) (wC (.int 36)))))
def s_sign : DS1 := fun ds R => match ds with
  | [.int n] => R (.str ⟨#[sg (n % 36).toNat]⟩)
  | _ => False
theorem l_sign : ∀ ds R, s_sign ds R → ds.length = 1 := by
  intro ds R h
  unfold s_sign at h
  split at h
  · rfl
  · exact h.elim
theorem o_sign : Owes 1 s_sign w_sign := by
  intro ds R h
  unfold s_sign at h
  split at h
  · unfold w_sign
    walk_at "dl"
    rename_i n
    have h0 : 0 ≤ n % 36 := Int.emod_nonneg _ (by decide)
    have h1 : n % 36 < 36 := Int.emod_lt_of_pos _ (by decide)
    exact ⟨by decide, by decide +kernel, _, atI_lit h0 (sg_at _ (by omega)), h⟩
  · exact h.elim
def w_name_of : WS :=
  (wSeq (wAsg 1 (wOp dMod (wCB dInt (aC (wVP 0) aN)) (wC (.int 8))))
    (wSeq (wAsg 2 (wOp dDiv (wCB dInt (aC (wVP 0) aN)) (wC (.int 8))))
    (wSeq (wAsg 3 (wCall s_sign (aC (wOp dMod (wVP 2) (wC (.int 26))) aN)))
    (wSeq (wAsg 2 (wOp dDiv (wVP 2) (wC (.int 26))))
    (wSeq (wFor (iR1 (aC (wV 1) aN)) (gN 4) (wSeq (wAsg 3 (wOp dAdd (wVP 3) (wCall s_sign (aC (wOp dMod (wVP 2) (wC (.int 36))) aN))))
    (wAsg 2 (wOp dDiv (wVP 2) (wC (.int 36))))))
    (wRet (wV 3)))))))
def s_name_of : DS1 := fun ds R => match ds with
  | [.int n] => 0 ≤ n ∧ n < 2 ^ 299 ∧ ∀ s, nmB s = true → R (.str s)
  | _ => False
theorem l_name_of : ∀ ds R, s_name_of ds R → ds.length = 1 := by
  intro ds R h
  unfold s_name_of at h
  split at h
  · rfl
  · exact h.elim
theorem o_name_of : Owes 5 s_name_of w_name_of := by
  intro ds R h
  unfold s_name_of at h
  split at h
  · unfold w_name_of
    walk_at "dl"
    simp only [s_sign]
    rename_i n
    obtain ⟨h0, h1, h⟩ := h
    walk_at "go"
    rename_i hh
    have a0 : 0 ≤ n % 8 := Int.emod_nonneg _ (by decide)
    have a1 : n % 8 < 8 := Int.emod_lt_of_pos _ (by decide)
    have b0 : 0 ≤ n / 8 := Int.ediv_nonneg h0 (by decide)
    have e26 : n / 8 % 26 % 36 = n / 8 % 26 := Int.emod_eq_of_lt (Int.emod_nonneg _ (by decide)) (Int.lt_trans (Int.emod_lt_of_pos _ (by decide)) (by decide))
    have lt26 : (n / 8 % 26).toNat < 26 := by have := Int.emod_lt_of_pos (n / 8) (show (0 : Int) < 26 by decide); omega
    refine forL_ind (fun i ρ => ∃ (m : Int) (s : Str) (c : Nat) (cs : List Nat) (kk : Sl), ρ = [.dt (.int n), .dt (.int (n % 8)), .dt (.int m), .dt (.str s), kk] ∧ s.cps.toList = c :: cs ∧ letB c = true ∧ cs.all lodB = true ∧ cs.length = i) ⟨_, _, _, [], .un, rfl, rfl, ?_, rfl, rfl⟩ ?_ ?_
    · rw [e26]; exact sg_let lt26
    · rintro i x ρ K hx ⟨m, s, c, cs, kk, rfl, e, hc, ha, hl⟩ hK
      obtain ⟨rfl, hi⟩ := intL_at hx
      walk_at "dl"
      refine ⟨by decide, ?_, by decide, hK _ ⟨_, _, c, cs ++ [sg (m % 36 % 36).toNat], _, rfl, ?_, hc, ?_, ?_⟩⟩
      · rw [len_cps, e, List.length_cons, hl]
        show i + 1 + 1 ≤ 1000000
        omega
      · rw [app_cps, e, one_cps, List.cons_append]
      · rw [List.all_append, ha]
        have z : m % 36 % 36 < 36 := Int.emod_lt_of_pos _ (by decide)
        have z0 : 0 ≤ m % 36 % 36 := Int.emod_nonneg _ (by decide)
        simp only [List.all_cons, List.all_nil, sg_lod (show (m % 36 % 36).toNat < 36 by omega), Bool.and_true, Bool.true_and]
      · rw [List.length_append, hl]; rfl
    · rintro ρ ⟨m, s, c, cs, kk, rfl, e, hc, ha, hl⟩
      rw [intL_len] at hl
      walk_at "dl"
      exact h _ (nm_of e hc ha (by omega))
  · exact h.elim
end DL
namespace DL
open PySem PySem.Spec PyProof.Rows L2 NW
section
variable {X : Cx} {e a : Expr} {w : WE}
def dUp (d : DV) (R : DV → Prop) : Prop := match d with
  | .str s => s.length ≤ 1000000 ∧ R (.str (Txt.upper s))
  | _ => False
def wUpper (w : WE) : WE := fun ρ R => w ρ fun d => dUp d R
theorem dupper {apos pos : Pos} (ha : PE X a (liftP w)) (hbase : attributeBase a "upper" X.env (eval a X.env) = eval a X.env := by rfl) (hline : (apos.endLine == pos.line) = true := by rfl) : PE X (.Call (.Attribute a "upper" apos) [] [] pos) (lift (wUpper w)) := pe_weak (pe_upper ha hbase hline) fun σ H Q q => by
  obtain ⟨W, own, ρ, R, o, i, z, f⟩ := q
  refine ⟨W, own, ρ, _, o, i, z, fun d v H1 r k o1 i1 => ?_⟩
  unfold dUp at r
  split at r
  · cases i1.str
    exact ⟨⟨_, rfl⟩, _, rfl, rfl, Nat.le_trans r.1 (by decide), (f.mono k).str o1 r.2⟩
  · exact r.elim
end
theorem map_mapIdx' {α β γ : Type} (f : β → γ) (g : Nat → α → β) : ∀ l : List α, (l.mapIdx g).map f = l.mapIdx fun i x => f (g i x) := fun l => by
  apply List.ext_getElem?
  intro i
  rw [List.getElem?_map, List.getElem?_mapIdx, List.getElem?_mapIdx]
  cases l[i]? <;> rfl
theorem upper_cps (s : Str) : (Txt.upper s).cps.toList = (s.cps.toList.map Unicode.upperOf).flatten := by
  have e : (Txt.upper s).cps = (s.cps.mapIdx fun _ c => (Unicode.upperOf c).toArray).flatten := rfl
  rw [e, Array.toList_flatten]
  congr 1
  rw [Array.toList_mapIdx, map_mapIdx']
  first | done | (apply List.ext_getElem?; intro i; rw [List.getElem?_mapIdx, List.getElem?_map])
theorem up_letter : ∀ c < 123, 97 ≤ c → Unicode.upperOf c = [c - 32] := by decide +kernel
/-- what is no name -/
def wrongs : List Nat := ("ABCDEFGHIJKLMNOPQRSTUVWXYZ !\"#$&'()*+,-./:;<=>?\x40[\\]^_`{|}~\n" : Str).cps.toList
theorem wrong_lod : ∀ c ∈ wrongs, lodB c = false := by decide +kernel
theorem nm_len8 {s : Str} (h : 8 < s.length) : nmB s = false := by
  cases e : nmB s with
  | false => rfl
  | true => have := nm_len e; omega
theorem nm_bad {s : Str} {c : Nat} (h : c ∈ s.cps.toList) (hc : lodB c = false) : nmB s = false := by
  unfold nmB nmL
  split
  · rfl
  · rename_i c' cs e
    rw [e] at h
    cases hl : letB c' with
    | false => rfl
    | true =>
      rcases List.mem_cons.mp h with rfl | h
      · have z : lodB c = true := by unfold lodB; rw [hl]; rfl
        rw [hc] at z; cases z
      · have z : cs.all lodB = false := by
          rw [List.all_eq_false]
          exact ⟨c, h, by rw [hc]; decide⟩
        rw [z]; rfl
theorem nm_head {s : Str} {c : Nat} {cs : List Nat} (e : s.cps.toList = c :: cs) (hc : letB c = false) : nmB s = false := by
  unfold nmB nmL
  rw [e]
  show (letB c && cs.all lodB && decide (cs.length ≤ 7)) = false
  rw [hc]; rfl
theorem nm_split {s : Str} (h : nmB s = true) : ∃ c cs, s.cps.toList = c :: cs ∧ letB c = true ∧ cs.all lodB = true ∧ cs.length ≤ 7 := by
  unfold nmB nmL at h
  split at h
  · cases h
  · rename_i c cs e
    simp only [Bool.and_eq_true, decide_eq_true_eq] at h
    exact ⟨c, cs, e, h.1.1, h.1.2, h.2⟩
theorem dig_str : ∀ r < 10, (toString ((r : Nat) : Int) : Str).cps.toList = [48 + r] := by decide +kernel
local macro_rules | `(tactic| walk_at "dl1") => `(tactic| simp only [wTry, wAsgX, wDropX, wKd, wXf, wSeq, wAsg, wAsgO, wRet, wIfS, wNx, wPass, wBk, wCt, wDrop, wAug, wApp, wAppPop, wPop, wFor, wFz, wV, wVP, atV, atP, atO, wC, wOp, wCall, wCallN, wCB, aC, aN, wL, wTu, fL, wF, fCat, fList, wTB, wTru, wAnd, wOr, wNot, wAndV, wOrV, wNotV, wIf, wChain, wIsN, wNeg, dNeg, wSl, pN, pP, dSl, wLrev, dLrev, wIsi, wIsi2, iL, iT, iV, iS, iR1, iR2, gN, fLc, wYes, wiL,
  dAdd, dSub, dMul, dMulS, dMulL, dDiv, dMod, dLt, dLe, dGt, dGe, dEq, dNe, eqD, dIn, dNi, dIx, dTru, isNon, dLen, dInt, dAbs, dMax, dMin, dList, dTup, dStr, dIAdd, frzE, frz1, startD, List.map_cons, List.map_nil, List.length_cons, List.length_nil, List.replicate_succ, List.replicate_zero, List.cons_append, List.nil_append, List.append_nil, List.getElem?_cons_zero, List.getElem?_cons_succ, List.set_cons_zero, List.set_cons_succ, Nat.reduceSub, Nat.reduceAdd, if_true, if_false, ite_true, ite_false, reduceIte, Bool.false_eq_true, decide_true, decide_false, Bool.not_true, Bool.not_false, Bool.not_eq_true', decide_eq_true_eq, decide_eq_false_iff_not, isi_int_int, isi_int_bool, isi_bl_int, isi_bl_bool, isi_non_int, isi_non_bool, isi_str_int, isi_str_bool, isi_str_str, isi_lst_list, isi_tup_tuple, Option.some.injEq, exists_eq_left', exists_eq_left, DV.int.injEq, DV.str.injEq, DV.bl.injEq, List.cons.injEq, and_true, true_and])
local macro_rules | `(tactic| walk_at "dl") => `(tactic| try walk_at "dl1")
local macro_rules | `(tactic| walk_at "go") => `(tactic| repeat' (first
  | (intro _)
  | walk_at "dl1"
  | (refine ⟨by first | decide | omega, ?_⟩)
  | split))
def w_name : WS :=
  (wRet (wCall s_name_of (aC (wCall s_take (aC (wV 0) (aC (wC (.int 16299746131968)) aN))) aN)))
def s_name : DS1 := fun ds R => match ds with
  | [.sto] => ∀ s, nmB s = true → R (.str s)
  | _ => False
theorem l_name : ∀ ds R, s_name ds R → ds.length = 1 := by
  intro ds R h
  unfold s_name at h
  split at h
  · rfl
  · exact h.elim
theorem o_name : Owes 1 (s_name) (w_name) := by
  intro ds R h
  unfold s_name at h
  split at h
  · unfold w_name
    walk_at "dl"
    simp only [s_take, s_name_of]
    refine ⟨by decide, fun r r0 r1 => ⟨r0, by omega, h⟩⟩
  · exact h.elim
def w_not_name : WS :=
  (wSeq (wAsg 1 (wCall s_name (aC (wV 0) aN)))
    (wSeq (wAsg 2 (wC (.str "ABCDEFGHIJKLMNOPQRSTUVWXYZ !\"#$&'()*+,-./:;<=>?\x40[\\]^_`{|}~\n")))
    (wSeq (wAsg 3 (wCall s_pick (aC (wV 0) (aC (wV 2) aN))))
    (wSeq (wAsg 4 (wCall s_take (aC (wV 0) (aC (wC (.int 7)) aN))))
    (wSeq (wAsg 5 (wCall s_take (aC (wV 0) (aC (wCB dLen (aC (wVP 1) aN)) aN))))
    (wSeq (wIfS (wTB (wOp dEq (wVP 4) (wC (.int 0)))) (wRet (wC (.str ""))) wNx)
    (wSeq (wIfS (wTB (wOp dEq (wVP 4) (wC (.int 1)))) (wRet (wOp dAdd (wOp dMulS (wSl (wOp dAdd (wVP 1) (wC (.str "aaaaaaaa"))) pN (pP (wC (.int 8)))) (wOp dAdd (wC (.int 1)) (wCall s_take (aC (wV 0) (aC (wC (.int 3)) aN))))) (wCall s_sign (aC (wCall s_take (aC (wV 0) (aC (wC (.int 36)) aN))) aN)))) wNx)
    (wSeq (wIfS (wTB (wOp dEq (wVP 4) (wC (.int 2)))) (wRet (wOp dAdd (wCB dStr (aC (wCall s_take (aC (wV 0) (aC (wC (.int 10)) aN))) aN)) (wSl (wVP 1) (pP (wC (.int 1))) pN))) wNx)
    (wSeq (wIfS (wTB (wOp dEq (wVP 4) (wC (.int 3)))) (wRet (wOp dAdd (wOp dAdd (wSl (wVP 1) pN (pP (wVP 5))) (wVP 3)) (wSl (wVP 1) (pP (wOp dAdd (wVP 5) (wC (.int 1)))) pN))) wNx)
    (wSeq (wIfS (wTB (wOp dEq (wVP 4) (wC (.int 4)))) (wRet (wOp dAdd (wSl (wVP 1) pN (pP (wC (.int 7)))) (wVP 3))) wNx)
    (wSeq (wIfS (wTB (wOp dEq (wVP 4) (wC (.int 5)))) (wRet (wOp dAdd (wVP 3) (wSl (wVP 1) pN (pP (wC (.int 7)))))) wNx)
    (wRet (wUpper (wVP 1))))))))))))))
def s_not_name : DS1 := fun ds R => match ds with
  | [.sto] => ∀ s, nmB s = false → s.length ≤ 60 → R (.str s)
  | _ => False
theorem l_not_name : ∀ ds R, s_not_name ds R → ds.length = 1 := by
  intro ds R h
  unfold s_not_name at h
  split at h
  · rfl
  · exact h.elim
theorem o_not_name : Owes 6 (s_not_name) (w_not_name) := by
  intro ds R h
  unfold s_not_name at h
  split at h
  · unfold w_not_name
    walk_at "dl"
    simp only [s_take, s_name, s_pick, s_sign]
    intro s hs
    have hn := nm_len hs
    obtain ⟨c, cs, e, hc, ha, hl⟩ := nm_split hs
    have hle := len_cps s
    rw [e, List.length_cons] at hle
    refine ⟨by decide +kernel, by decide +kernel, fun g hg => ⟨by decide, fun m m0 m1 => ⟨by omega, by omega, fun at_ a0 a1 => ?_⟩⟩⟩
    have hg := wrong_lod g hg
    have o1 : ∀ g : Nat, (⟨#[g]⟩ : Str).length = 1 := fun _ => rfl
    walk_at "dl"
    have k7 : ∀ k : Nat, (s.cps.toList.take k).length ≤ 8 := fun k => by rw [List.length_take, ← len_cps]; omega
    have k8 : ∀ k : Nat, (s.cps.toList.drop k).length ≤ 8 := fun k => by rw [List.length_drop, ← len_cps]; omega
    have c1 : ∀ k : Nat, (cutS s none (some (k : Int))).cps.toList = s.cps.toList.take k := fun k => by rw [cut_cps, cutG_to]
    have c2 : ∀ k : Nat, (cutS s (some (k : Int)) none).cps.toList = s.cps.toList.drop k := fun k => by rw [cut_cps, cutG_from]
    have l1 : ∀ k : Nat, (cutS s none (some (k : Int))).length ≤ 8 := fun k => by rw [len_cps, c1]; exact k7 k
    have l2 : ∀ k : Nat, (cutS s (some (k : Int)) none).length ≤ 8 := fun k => by rw [len_cps, c2]; exact k8 k
    obtain ⟨at_, rfl⟩ : ∃ k : Nat, at_ = (k : Int) := ⟨at_.toNat, by omega⟩
    have dg : ∀ r : Int, 0 ≤ r → (r < 10 ∨ r = 0) → (toString r : Str).cps.toList = [48 + r.toNat] := fun r h0 h1 => by
      obtain ⟨k, rfl⟩ : ∃ k : Nat, r = (k : Int) := ⟨r.toNat, by omega⟩
      exact dig_str k (by omega)
    have one7 : ∀ a b : Str, (a ++ b).length = a.length + b.length := fun a b => by rw [len_cps, app_cps, List.length_append, ← len_cps, ← len_cps]
    split
    · exact h _ rfl (by decide)
    split
    · have e8 : (cutS (s ++ "aaaaaaaa") none (some 8)).length = 8 := by
        rw [len_cps, cut_cps, show (some (8 : Int)) = some (((8 : Nat) : Int)) from rfl, cutG_to, List.length_take, ← len_cps, one7]
        show min 8 (s.length + 8) = 8
        omega
      refine ⟨by show s.length + 8 ≤ 1000000; omega, by rw [one7]; show s.length + 8 ≤ 1000000; omega, by decide, fun r r0 r1 => ⟨by omega, by omega, ?_, by decide, fun q q0 q1 => ?_⟩⟩
      · show (cutS (s ++ "aaaaaaaa") none (some 8)).length * _ ≤ _
        rw [e8]; omega
      · have lr : (repS (cutS (s ++ "aaaaaaaa") none (some 8)) (1 + r).toNat).length = (1 + r).toNat * 8 := by
          rw [len_cps]
          show (((List.replicate (1 + r).toNat (cutS (s ++ "aaaaaaaa") none (some 8)).cps.toList).flatten).toArray).toList.length = _
          rw [List.length_flatten, List.map_replicate, List.sum_replicate_nat, ← len_cps, e8]
        refine ⟨?_, h _ (nm_len8 ?_) ?_⟩
        · show (repS (cutS (s ++ "aaaaaaaa") none (some 8)) (1 + r).toNat).length + _ ≤ _
          rw [lr, o1]; omega
        · show 8 < (repS (cutS (s ++ "aaaaaaaa") none (some 8)) (1 + r).toNat ++ _).length
          rw [one7, lr, o1]; omega
        · show (repS (cutS (s ++ "aaaaaaaa") none (some 8)) (1 + r).toNat ++ _).length ≤ 60
          rw [one7, lr, o1]; omega
    split
    · refine ⟨by decide, fun r r0 r1 => ?_⟩
      have e1 := dg r r0 r1
      have e2 : (toString r : Str).length = 1 := by rw [len_cps, e1]; rfl
      have e3 := l2 1
      refine ⟨by omega, by omega, ?_, h _ (nm_head (c := 48 + r.toNat) (cs := s.cps.toList.drop 1) ?_ ?_) ?_⟩
      · show (toString r : Str).length + (cutS s (some ((1 : Nat) : Int)) none).length ≤ _
        omega
      · show ((toString r : Str) ++ cutS s (some ((1 : Nat) : Int)) none).cps.toList = _
        rw [app_cps, e1, c2]; rfl
      · unfold letB
        simp only [Bool.and_eq_false_iff, decide_eq_false_iff_not]
        omega
      · show ((toString r : Str) ++ cutS s (some ((1 : Nat) : Int)) none).length ≤ _
        rw [one7]; omega
    have mem : ∀ a b : Str, g ∈ (a ++ (⟨#[g]⟩ : Str) ++ b).cps.toList := fun a b => by rw [app_cps, app_cps, one_cps]; simp
    split
    · have e3 := l1 at_
      have e4 := l2 (at_ + 1)
      refine ⟨by omega, by rw [o1]; omega, by omega, ?_, h _ (nm_bad (mem _ _) hg) ?_⟩
      · rw [one7, o1]
        show _ + (cutS s (some ((at_ + 1 : Nat) : Int)) none).length ≤ _
        omega
      · rw [one7, one7, o1]
        show _ + (cutS s (some ((at_ + 1 : Nat) : Int)) none).length ≤ _
        omega
    have e7 := l1 7
    split
    · refine ⟨by omega, ?_, h _ (nm_bad (c := g) ?_ hg) ?_⟩
      · rw [o1]; show (cutS s none (some ((7 : Nat) : Int))).length + 1 ≤ _; omega
      · rw [app_cps, one_cps]; simp
      · rw [one7, o1]; show (cutS s none (some ((7 : Nat) : Int))).length + 1 ≤ _; omega
    split
    · refine ⟨by omega, ?_, h _ (nm_bad (c := g) ?_ hg) ?_⟩
      · rw [o1]; show 1 + (cutS s none (some ((7 : Nat) : Int))).length ≤ _; omega
      · rw [app_cps, one_cps]; simp
      · rw [one7, o1]; show 1 + (cutS s none (some ((7 : Nat) : Int))).length ≤ _; omega
    have uc : (Txt.upper s).cps.toList = (c - 32) :: (cs.map Unicode.upperOf).flatten := by
      rw [upper_cps, e, List.map_cons, List.flatten_cons]
      unfold letB at hc
      simp only [Bool.and_eq_true, decide_eq_true_eq] at hc
      rw [up_letter c (by omega) hc.1]; rfl
    have ul : (Txt.upper s).length ≤ 3 * 8 := Nat.le_trans (PyProof.Rows.len_upper s) (by omega)
    show s.length ≤ 1000000 ∧ R (.str (Txt.upper s))
    refine ⟨by omega, h _ (nm_head uc ?_) (by omega)⟩
    unfold letB at hc ⊢
    simp only [Bool.and_eq_true, decide_eq_true_eq] at hc
    simp only [Bool.and_eq_false_iff, decide_eq_false_iff_not]
    omega
  · exact h.elim
end DL
namespace DL
open PySem PySem.Spec PyProof.Rows L2 NW
local macro_rules | `(tactic| walk_at "dl1") => `(tactic| simp only [wTry, wAsgX, wDropX, wKd, wXf, wSeq, wAsg, wAsgO, wRet, wIfS, wNx, wPass, wBk, wCt, wDrop, wAug, wApp, wAppPop, wPop, wFor, wFz, wV, wVP, atV, atP, atO, wC, wOp, wCall, wCallN, wCB, aC, aN, wL, wTu, fL, wF, fCat, fList, wTB, wTru, wAnd, wOr, wNot, wAndV, wOrV, wNotV, wIf, wChain, wIsN, wNeg, dNeg, wSl, pN, pP, dSl, wLrev, dLrev, wIsi, wIsi2, iL, iT, iV, iS, iR1, iR2, gN, fLc, wYes, wiL,
  dAdd, dSub, dMul, dMulS, dMulL, dDiv, dMod, dLt, dLe, dGt, dGe, dEq, dNe, eqD, dIn, dNi, dIx, dTru, isNon, dLen, dInt, dAbs, dMax, dMin, dList, dTup, dStr, dIAdd, frzE, frz1, startD, List.map_cons, List.map_nil, List.length_cons, List.length_nil, List.replicate_succ, List.replicate_zero, List.cons_append, List.nil_append, List.append_nil, List.getElem?_cons_zero, List.getElem?_cons_succ, List.set_cons_zero, List.set_cons_succ, Nat.reduceSub, Nat.reduceAdd, if_true, if_false, ite_true, ite_false, reduceIte, Bool.false_eq_true, decide_true, decide_false, Bool.not_true, Bool.not_false, Bool.not_eq_true', decide_eq_true_eq, decide_eq_false_iff_not, isi_int_int, isi_int_bool, isi_bl_int, isi_bl_bool, isi_non_int, isi_non_bool, isi_str_int, isi_str_bool, isi_str_str, isi_lst_list, isi_tup_tuple, Option.some.injEq, exists_eq_left', exists_eq_left, DV.int.injEq, DV.str.injEq, DV.bl.injEq, List.cons.injEq, and_true, true_and])
local macro_rules | `(tactic| walk_at "dl") => `(tactic| try walk_at "dl1")
local macro_rules | `(tactic| walk_at "go") => `(tactic| repeat' (first
  | (intro _)
  | walk_at "dl1"
  | (refine ⟨by first | decide | omega, ?_⟩)
  | split))
theorem one_len (g : Nat) : (⟨#[g]⟩ : Str).length = 1 := rfl
theorem app_len (a b : Str) : (a ++ b).length = a.length + b.length := by rw [len_cps, app_cps, List.length_append, ← len_cps, ← len_cps]
theorem lets_mem : ∀ c, (c ∈ ("abcdefghijklmnopqrstuvwxyz" : Str).cps.toList) ↔ letB c = true := by
  intro c
  have e : ("abcdefghijklmnopqrstuvwxyz" : Str).cps.toList = (List.range 26).map (97 + ·) := by decide +kernel
  rw [e]
  unfold letB
  simp only [List.mem_map, List.mem_range, Bool.and_eq_true, decide_eq_true_eq]
  constructor
  · rintro ⟨k, h, rfl⟩; omega
  · intro h; exact ⟨c - 97, by omega, by omega⟩
theorem digs_mem : ∀ c, (c ∈ ("0123456789" : Str).cps.toList) ↔ (48 ≤ c ∧ c ≤ 57) := by
  intro c
  have e : ("0123456789" : Str).cps.toList = (List.range 10).map (48 + ·) := by decide +kernel
  rw [e]
  simp only [List.mem_map, List.mem_range]
  constructor
  · rintro ⟨k, h, rfl⟩; omega
  · intro h; exact ⟨c - 48, by omega, by omega⟩
theorem in_lets (c : Nat) : decide (c ∈ ("abcdefghijklmnopqrstuvwxyz" : Str).cps.toList) = letB c := by rw [Bool.eq_iff_iff, decide_eq_true_iff, lets_mem]
theorem in_digs (c : Nat) : decide (c ∈ ("0123456789" : Str).cps.toList) = (decide (48 ≤ c) && decide (c ≤ 57)) := by rw [Bool.eq_iff_iff, decide_eq_true_iff, digs_mem, Bool.and_eq_true, decide_eq_true_iff, decide_eq_true_iff]
theorem nmB_cons {s : Str} {c : Nat} {cs : List Nat} (e : s.cps.toList = c :: cs) : nmB s = (letB c && cs.all lodB && decide (cs.length ≤ 7)) := by unfold nmB nmL; rw [e]
theorem nmB_nil {s : Str} (e : s.cps.toList = []) : nmB s = false := by unfold nmB nmL; rw [e]
theorem lod_of {c : Nat} (h : letB c = true) : lodB c = true := by unfold lodB; rw [h]; rfl
def w_Pis_name : WS :=
  (wSeq (wIfS (wOr (wNot (wTB (wChain dLe dLe (wC (.int 1)) (wCB dLen (aC (wVP 0) aN)) (wC (.int 8))))) (wTB (wOp dNi (wOp dIx (wVP 0) (wC (.int 0))) (wC (.str "abcdefghijklmnopqrstuvwxyz"))))) (wRet (wC (.bl false))) wNx)
    (wRet (wCB dAll (aC (wF (fLc (iS (wV 0)) (gN 1) wYes (wOrV (wOp dIn (wVP 1) (wC (.str "abcdefghijklmnopqrstuvwxyz"))) (wOp dIn (wVP 1) (wC (.str "0123456789")))) [1])) aN))))
def s_Pis_name : DS1 := fun ds R => match ds with
  | [.str s] => s.length ≤ 1000000 ∧ R (.bl (nmB s))
  | _ => False
theorem l_Pis_name : ∀ ds R, s_Pis_name ds R → ds.length = 1 := by
  intro ds R h
  unfold s_Pis_name at h
  split at h
  · rfl
  · exact h.elim
theorem o_Pis_name : Owes 2 (s_Pis_name) (w_Pis_name) := by
  intro ds R h
  unfold s_Pis_name at h
  split at h
  · unfold w_Pis_name
    walk_at "dl"
    rename_i s
    obtain ⟨hl, h⟩ := h
    refine ⟨hl, ?_⟩
    cases e : s.cps.toList with
    | nil =>
      rw [nmB_nil e] at h
      rw [if_neg (show ¬ (1 : Int) ≤ (s.length : Nat) by rw [len_cps, e]; decide)]
      exact h
    | cons c cs =>
      have l1 : s.length = cs.length + 1 := by rw [len_cps, e]; rfl
      rw [nmB_cons e] at h
      rw [if_pos (show (1 : Int) ≤ (s.length : Nat) by omega)]
      by_cases l8 : (s.length : Nat) ≤ (8 : Int)
      · rw [if_neg (fun z => z l8)]
        rw [decide_eq_true (show cs.length ≤ 7 by omega), Bool.and_true] at h
        refine ⟨hl, c, atI_lit (by decide) rfl, c, rfl, ?_⟩
        rw [in_lets]
        cases hc : letB c with
        | false =>
          rw [hc] at h
          exact h
        | true =>
          rw [hc, Bool.true_and] at h
          rw [if_neg (by decide)]
          have e2 : signs s = (c :: cs).map fun c => .str ⟨#[c]⟩ := by unfold signs; rw [e]
          rw [e2]
          refine ⟨by rw [List.length_map, List.length_cons]; omega, ?_⟩
          refine lcL_ind (fun i acc => acc = ((c :: cs).take i).map fun c => .bl (lodB c)) rfl ?_ ?_
          · rintro i x acc K hx rfl hK
            rw [List.getElem?_map] at hx
            obtain ⟨k, hk, rfl⟩ : ∃ k, (c :: cs)[i]? = some k ∧ x = .str ⟨#[k]⟩ := by
              cases z : (c :: cs)[i]? with
              | none => rw [z] at hx; cases hx
              | some k => rw [z] at hx; exact ⟨k, rfl, (Option.some.inj hx).symm⟩
            have ht : (c :: cs).take (i + 1) = (c :: cs).take i ++ [k] := by rw [List.take_add_one, hk]; rfl
            walk_at "dl"
            refine ⟨k, rfl, ?_⟩
            rw [in_lets]
            cases hl : letB k with
            | true =>
              refine hK _ ?_
              rw [ht, List.map_append, List.map_cons, lod_of hl]; rfl
            | false =>
              rw [if_neg (by decide)]
              refine ⟨k, rfl, hK _ ?_⟩
              rw [ht, List.map_append, List.map_cons, in_digs]
              unfold lodB
              rw [hl, Bool.false_or]; rfl
          · rintro acc rfl
            rw [List.length_map, List.take_length]
            refine ⟨(c :: cs).map lodB, by rw [List.map_map]; rfl, ?_⟩
            have z : ((c :: cs).map lodB).all id = cs.all lodB := by
              rw [List.all_map, List.all_cons]
              show (lodB c && _) = _
              rw [lod_of hc, Bool.true_and]; rfl
            rw [z]; exact h
      · rw [if_pos l8]
        rw [decide_eq_false (show ¬ cs.length ≤ 7 by omega), Bool.and_false] at h
        exact h
  · exact h.elim
end DL
namespace DL
open PySem PySem.Spec PyProof.Rows L2 NW
def flD : Nat → DV → Prop
  | _, .non => True
  | _, .bl _ => True
  | _, .int _ => True
  | _, .str _ => True
  | n + 1, .lst xs => ∀ x ∈ xs, flD n x
  | n + 1, .tup xs => ∀ x ∈ xs, flD n x
  | _, _ => False
mutual
theorem is_dt {W : Wd} {H : Hp} : ∀ {v : V} {x : DV} {n : Nat}, Is W H v x → flD n x → ∃ d : DT, d.dep ≤ n ∧ NW.Is H v d ∧ ∀ {H' : Hp} {v' : V}, Is W H' v' x → NW.Is H' v' d
  | _, _, _, .non, _ => ⟨.non, Nat.zero_le _, .non, fun h => by cases h; exact .non⟩
  | _, _, _, .bl b, _ => ⟨.bl b, Nat.zero_le _, .bl b, fun h => by cases h; exact .bl _⟩
  | _, _, _, .int b, _ => ⟨.int b, Nat.zero_le _, .int b, fun h => by cases h; exact .int _⟩
  | _, _, _, .str b, _ => ⟨.str b, Nat.zero_le _, .str b, fun h => by cases h; exact .str _⟩
  | _, _, 0, .lst _ _ _ _, h => h.elim
  | _, _, n + 1, .lst h1 h2 h3 h4, h => by
    obtain ⟨ds, e, i, f⟩ := iss_dt h4 h
    exact ⟨.lst ds, Nat.succ_le_succ e, .lst h1 i h3, fun z => by
      cases z with
      | lst g1 g2 g3 g4 => exact .lst g1 (f g4) g3⟩
  | _, _, 0, .tup _ _ _ _, h => h.elim
  | _, _, n + 1, .tup h1 h2 h3 h4, h => by
    obtain ⟨ds, e, i, f⟩ := iss_dt h4 h
    exact ⟨.tup ds, Nat.succ_le_succ e, .tup h1 i h3, fun z => by
      cases z with
      | tup g1 g2 g3 g4 => exact .tup g1 (f g4) g3⟩
  | _, _, 0, .dic _ _ _ _ _ _, h => h.elim
  | _, _, _ + 1, .dic _ _ _ _ _ _, h => h.elim
  | _, _, 0, .obj _ _ _ _, h => h.elim
  | _, _, _ + 1, .obj _ _ _ _, h => h.elim
  | _, _, 0, .err _ _ _ _ _ _, h => h.elim
  | _, _, _ + 1, .err _ _ _ _ _ _, h => h.elim
  | _, _, 0, .err0 _ _, h => h.elim
  | _, _, _ + 1, .err0 _ _, h => h.elim
  | _, _, 0, .hot _ _ _ _, h => h.elim
  | _, _, _ + 1, .hot _ _ _ _, h => h.elim
  | _, _, 0, .sto _, h => h.elim
  | _, _, _ + 1, .sto _, h => h.elim
  | _, _, 0, .ktu _, h => h.elim
  | _, _, 0, .cls, h => h.elim
  | _, _, _ + 1, .ktu _, h => h.elim
  | _, _, _ + 1, .cls, h => h.elim
theorem iss_dt {W : Wd} {H : Hp} : ∀ {vs : List V} {xs : List DV} {n : Nat}, Iss W H vs xs → (∀ x ∈ xs, flD n x) → ∃ ds : List DT, depL ds ≤ n ∧ NW.Iss H vs ds ∧ ∀ {H' : Hp} {vs' : List V}, Iss W H' vs' xs → NW.Iss H' vs' ds
  | _, _, _, .nil, _ => ⟨[], Nat.zero_le _, .nil, fun h => by cases h; exact .nil⟩
  | _, _, n, .cons a t, h => by
    obtain ⟨d, e1, i1, f1⟩ := is_dt a (h _ List.mem_cons_self)
    obtain ⟨ds, e2, i2, f2⟩ := iss_dt t fun x hx => h x (List.mem_cons_of_mem _ hx)
    exact ⟨d :: ds, Nat.max_le.mpr ⟨e1, e2⟩, .cons i1 i2, fun z => by
      cases z with
      | cons b u => exact .cons (f1 b) (f2 u)⟩
end
/-- one and other are the same, of depth at most n -/
def s_same (n : Nat) : DS1 := fun ds R => match ds with
  | [x, y] => x = y ∧ flD (n - 1) x ∧ R (.bl true)
  | _ => False
theorem same_weak (n : Nat) : ∀ vs H Q E, dsp (s_same (n + 1)) vs H Q E → sp_same (n + 1) vs H Q E := fun vs H Q E q => by
  obtain ⟨W, ds, R, o, i, z, f⟩ := q
  unfold s_same at z
  split at z
  · obtain ⟨rfl, hf, r⟩ := z
    cases i with
    | cons a t =>
      cases t with
      | cons b t =>
        cases t
        obtain ⟨d, e, i1, g⟩ := is_dt a hf
        refine ⟨_, _, d, d, rfl, i1, g b, e, fun k H' s hk => ?_⟩
        obtain rfl : k = true := hk.mpr rfl
        exact f _ _ _ r (Kp.same s) (o.same s) (.bl true)
  · exact z.elim
theorem sel_plain {c : Str} (h : decide (c ∈ (["Same", "Inside", "Unlike", "Nailed", "Sealed", "Idle"] : List Str)) = false) : selD c = [.str "ValueError", .str "NestError", .str c] := by
  unfold selD kindsOf
  rw [if_neg (of_decide_eq_false h)]
  rfl
theorem sel_ref {c : Str} (h : decide (c ∈ (["Same", "Inside", "Unlike", "Nailed", "Sealed", "Idle"] : List Str)) = true) : selD c = [.str "ValueError", .str "NestError", .str "Refusal", .str c] := by
  unfold selD kindsOf
  rw [if_pos (of_decide_eq_true h)]
  rfl
theorem fl_strs (n : Nat) (ss : List Str) : flD (n + 1) (.lst (ss.map DV.str)) := by
  intro x hx
  obtain ⟨s, _, rfl⟩ := List.mem_map.mp hx
  cases n <;> trivial
local macro_rules | `(tactic| walk_at "dl1") => `(tactic| simp only [wTry, wAsgX, wDropX, wKd, wXf, wSeq, wAsg, wAsgO, wRet, wIfS, wNx, wPass, wBk, wCt, wDrop, wAug, wApp, wAppPop, wPop, wFor, wFz, wV, wVP, atV, atP, atO, wC, wOp, wCall, wCallN, wCB, aC, aN, wL, wTu, fL, wF, fCat, fList, wTB, wTru, wAnd, wOr, wNot, wAndV, wOrV, wNotV, wIf, wChain, wIsN, wNeg, dNeg, wSl, pN, pP, dSl, wLrev, dLrev, wIsi, wIsi2, iL, iT, iV, iS, iR1, iR2, gN, fLc, wYes, wiL,
  dAdd, dSub, dMul, dMulS, dMulL, dDiv, dMod, dLt, dLe, dGt, dGe, dEq, dNe, eqD, dIn, dNi, dIx, dTru, isNon, dLen, dInt, dAbs, dMax, dMin, dList, dTup, dStr, dIAdd, frzE, frz1, startD, List.map_cons, List.map_nil, List.length_cons, List.length_nil, List.replicate_succ, List.replicate_zero, List.cons_append, List.nil_append, List.append_nil, List.getElem?_cons_zero, List.getElem?_cons_succ, List.set_cons_zero, List.set_cons_succ, Nat.reduceSub, Nat.reduceAdd, if_true, if_false, ite_true, ite_false, reduceIte, Bool.false_eq_true, decide_true, decide_false, Bool.not_true, Bool.not_false, Bool.not_eq_true', decide_eq_true_eq, decide_eq_false_iff_not, isi_int_int, isi_int_bool, isi_bl_int, isi_bl_bool, isi_non_int, isi_non_bool, isi_str_int, isi_str_bool, isi_str_str, isi_lst_list, isi_tup_tuple, Option.some.injEq, exists_eq_left', exists_eq_left, DV.int.injEq, DV.str.injEq, DV.bl.injEq, List.cons.injEq, and_true, true_and])
local macro_rules | `(tactic| walk_at "dl") => `(tactic| try walk_at "dl1")
local macro_rules | `(tactic| walk_at "go") => `(tactic| repeat' (first
  | (intro _)
  | walk_at "dl1"
  | (refine ⟨by first | decide | omega, ?_⟩)
  | split))
def w_Pvalid_name (K : PySem.W.Frag) : WS :=
  (wSeq (wIfS (wNot (wTru (wCall s_Pis_name (aC (wV 0) aN)))) (wRaise1 K "BadName" "name" (wV 0)) wNx)
    (wRet (wV 0)))
def s_Pvalid_name (K : PySem.W.Frag) : DS2 := fun ds R RX => match ds with
  | [.str s] => s.length ≤ 1000000 ∧ (nmB s = true → R (.str s)) ∧ (nmB s = false → RX (.err (He.ga K "BadName") ["name"] [.str s]))
  | _ => False
theorem l_Pvalid_name (K : PySem.W.Frag) : ∀ ds R RX, s_Pvalid_name K ds R RX → ds.length = 1 := by
  intro ds R RX h
  unfold s_Pvalid_name at h
  split at h
  · rfl
  · exact h.elim
theorem o_Pvalid_name (K : PySem.W.Frag) : OwesX 1 (s_Pvalid_name K) (w_Pvalid_name K) := by
  intro ds R RX h
  unfold s_Pvalid_name at h
  split at h
  · rename_i s
    obtain ⟨h0, h1, h2⟩ := h
    unfold w_Pvalid_name wRaise1
    walk_at "dl"
    simp only [s_Pis_name]
    refine ⟨h0, ?_⟩
    cases e : nmB s with
    | true => exact h1 e
    | false => exact h2 e
  · exact h.elim
end DL
namespace DL
open PySem PySem.Spec PyProof.Rows L2 NW
def sp_initE (K : PySem.W.Frag) (C : Addr) (fls : List Str) : Sp := fun vs H Q _ => ∃ (a : Addr) (ys : List V), vs = .ref a :: ys ∧ ys.length = fls.length ∧ H a = some (exo a C none) ∧
  ∀ dx H', H dx = none → dx ≠ a → H' a = some (exo a C (some dx)) → H' dx = some (exd dx (fls.zip ys).reverse) → (∀ b, b ≠ a → b ≠ dx → H' b = H b) → Q .non H'
def tIn (K : PySem.W.Frag) : List Str → Nat → TS
  | [], _ => tNext
  | f :: fs, k => tSeq (tOst K f (tVar 0) (tVar k)) (tIn K fs (k + 1))
structure ErrN (K : PySem.W.Frag) (C : Addr) (q : Str) (fls : List Str) (params : Arguments) (body : List Stmt) (scope : Scope) : Prop where
  o : OexC K C
  n : ∀ f ∈ fls, PySem.W.findIn K (.ref C) f = some none
  ex : ∃ fI fd, PySem.W.findIn K (.ref C) "__init__" = some (some (.ref fI)) ∧ PySem.W.typeIn K (.ref fI) = some (.type "function") ∧ FunD K "__init__" q params body scope [] [] fI fd
theorem in_more {K : PySem.W.Frag} {C a dx : Addr} (o : OexC K C) {D : Ends} {σ : L2.St} (h0 : σ[0]? = some (some (.ref a))) (ne : dx ≠ a) : ∀ (fs : List Str) (ys : List V) (k : Nat) (done : List (Str × V)) (H : Hp), (∀ f ∈ fs, PySem.W.findIn K (.ref C) f = some none) → fs.length = ys.length → (∀ i y, ys[i]? = some y → σ[k + i]? = some (some y)) →
    H a = some (exo a C (some dx)) → H dx = some (exd dx done) → done.length + fs.length ≤ 900 → (∀ H', H' a = some (exo a C (some dx)) → H' dx = some (exd dx ((fs.zip ys).reverse ++ done)) → (∀ b, b ≠ a → b ≠ dx → H' b = H b) → D.nx σ H') → tIn K fs k D σ H
  | [], ys, k, done, H, _, l, _, ha, hd, _, q => by
    cases ys with
    | nil => exact q H ha hd fun _ _ _ => rfl
    | cons y ys => cases l
  | f :: fs, [], k, done, H, _, l, _, _, _, _, _ => by cases l
  | f :: fs, y :: ys, k, done, H, n, l, s, ha, hd, b, q => by
    rw [List.length_cons] at b
    refine ⟨y, s 0 y rfl, _, h0, a, C, rfl, o, n f List.mem_cons_self, .inr ⟨dx, done, ha, hd, by omega, ?_⟩⟩
    refine in_more o h0 ne fs ys (k + 1) ((f, y) :: done) _ (fun f' hf => n f' (List.mem_cons_of_mem _ hf)) (Nat.succ.inj l) (fun i y' hy => ?_) ?_ upd_same (by rw [List.length_cons]; omega) fun H' h1 h2 h3 => ?_
    · have z := s (i + 1) y' hy
      rw [show k + 1 + i = k + (i + 1) by omega]; exact z
    · rw [upd_ne (Ne.symm ne)]; exact ha
    · refine q H' h1 ?_ fun b b1 b2 => by rw [h3 b b1 b2, upd_ne b2]
      rw [h2, List.zip_cons_cons, List.reverse_cons, List.append_assoc]
      rfl
theorem in_all {K : PySem.W.Frag} {C : Addr} {fls : List Str} (hl : fls ≠ []) (l9 : fls.length ≤ 100) (o : OexC K C) (n : ∀ f ∈ fls, PySem.W.findIn K (.ref C) f = some none) (vs : List V) (H : Hp) (Q : VK) (E : XK) (h : sp_initE K C fls vs H Q E) :
    tIn K fls 1 { nx := fun _ H' => Q .non H', rt := Q } (L2.start ("self" :: fls) vs) H := by
  obtain ⟨a, ys, rfl, l, ha, q⟩ := h
  cases fls with
  | nil => exact absurd rfl hl
  | cons f fs =>
    cases ys with
    | nil => cases l
    | cons y ys =>
      have es : L2.start ("self" :: f :: fs) (.ref a :: y :: ys) = some (.ref a) :: some y :: ys.map some := by
        unfold L2.start
        rw [List.length_cons, List.length_cons] at l
        rw [List.length_cons, List.length_cons, List.length_cons, List.length_cons, show fs.length + 1 + 1 - (ys.length + 1 + 1) = 0 by omega, List.replicate_zero, List.append_nil]
        rfl
      rw [es]
      refine ⟨y, rfl, .ref a, rfl, a, C, rfl, o, n f List.mem_cons_self, .inl ⟨ha, fun dx h1 h2 => ?_⟩⟩
      refine in_more (dx := dx) o rfl h2 fs ys 2 [(f, y)] _ (fun f' hf => n f' (List.mem_cons_of_mem _ hf)) ?_ (fun i y' hy => ?_) upd_same ?_ ?_ fun H' g1 g2 g3 => ?_
      · rw [List.length_cons, List.length_cons] at l; omega
      · rw [show 2 + i = i + 1 + 1 by omega, List.getElem?_cons_succ, List.getElem?_cons_succ, List.getElem?_map, hy]; rfl
      · rw [upd_ne h2, upd_same]
      · rw [List.length_cons] at l9
        show 1 + fs.length ≤ 900
        omega
      · refine q dx H' h1 h2 g1 ?_ fun b b1 b2 => ?_
        · rw [g2, List.zip_cons_cons, List.reverse_cons]
        · rw [g3 b b1 b2, upd_ne b1, upd_ne b2]
section
variable {P : Program} {w : World} {K : PySem.W.Frag} {mg : Str → Option Value} {base : Heap} {params : Arguments} {body : List Stmt} {scope : Scope}
theorem initN {C : Addr} {q : Str} {fls : List Str} (hl : fls ≠ []) (l9 : fls.length ≤ 100) (h : ErrN K C q fls params body scope) (S : FnScope (("self" : Str) :: fls) (("self" : Str) :: fls) scope)
    (bn : ∀ (kV doc pm : Value) (an : Option Addr) (cdv ct : Value) (us : List Value), us.length = (("self" : Str) :: fls).length → bindArgs (PySem.W.fnOf "__init__" q params body scope .none kV doc pm an cdv ct) ⟨us, []⟩ = pure ((("self" : Str) :: fls).zip us))
    (dv : ∀ (fI : Addr) (cdv : Value) (A : Around) (outer : List PySem.Env) (s : Shared) (H : Hp) (E : XK), PSs (cxOf (L2N.CX P w) P w K mg base (("self" : Str) :: fls) q scope fI cdv A outer s H E) body (tIn K fls 1)) : InitOk P w K mg base C 1 (("self" : Str) :: fls) (sp_initE K C fls) := by
  obtain ⟨fI, fd, h1, h2, F⟩ := h.ex
  refine ⟨h.o, fI, fd, h1, h2, F.bindsN bn, F.ok S (fun vs H Q E z => by
    obtain ⟨a, ys, e, l, _⟩ := z
    rw [e, List.length_cons, List.length_cons, l]) fun cdv A outer s H vs Q E hr z => ⟨_, dv fI cdv A outer s H E, in_all hl l9 h.o h.n vs H Q E z⟩⟩
end
section
variable {X : Cx} {e : Expr} {r : WA} {w : WE}
def wEf (K : PySem.W.Frag) (L : List (Addr × Str)) (f : Str) (w : WE) : WE := fun ρ R => w ρ fun d => ∃ C ns xs x, d = .err C ns xs ∧ (C, f) ∈ L ∧ lkD ns xs f = some x ∧ R x
theorem def_ {K : PySem.W.Frag} {L : List (Addr × Str)} {f : Str} (F : ∀ c ∈ L, XfC K c.1 ∧ PySem.W.findIn K (.ref c.1) c.2 = some none) (h : PE X e (tXv K f (lift w))) : PE X e (lift (wEf K L f w)) := pe_weak h fun σ H Q q => by
  obtain ⟨W, own, ρ, R, o, i, z, g⟩ := q
  refine ⟨W, own, ρ, _, o, i, z, fun d v H1 r1 k1 o1 i1 => ?_⟩
  obtain ⟨C, ns, xs, x, rfl, hm, hx, r⟩ := r1
  cases i1 with
  | err h1 h2 h3 h4 h5 h6 =>
    obtain ⟨u, hu, iu⟩ := lk_ok h5 h6 hx
    exact ⟨_, _, C, _, u, rfl, h1, h2, hu, (F _ hm).1, (F _ hm).2, (g.mono k1).at o1 iu r⟩
  | err0 h1 h2 => cases hx
end
end DL
namespace DL
open PySem PySem.Spec PyProof.Rows L2 NW
local macro_rules | `(tactic| walk_at "dl1") => `(tactic| simp only [wTry, wAsgX, wDropX, wKd, wXf, wSeq, wAsg, wAsgO, wRet, wIfS, wNx, wPass, wBk, wCt, wDrop, wAug, wApp, wAppPop, wPop, wFor, wFz, wV, wVP, atV, atP, atO, wC, wOp, wCall, wCallN, wCB, aC, aN, wL, wTu, fL, wF, fCat, fList, wTB, wTru, wAnd, wOr, wNot, wAndV, wOrV, wNotV, wIf, wChain, wIsN, wNeg, dNeg, wSl, pN, pP, dSl, wLrev, dLrev, wIsi, wIsi2, iL, iT, iV, iS, iR1, iR2, gN, fLc, wYes, wiL,
  dAdd, dSub, dMul, dMulS, dMulL, dDiv, dMod, dLt, dLe, dGt, dGe, dEq, dNe, eqD, dIn, dNi, dIx, dTru, isNon, dLen, dInt, dAbs, dMax, dMin, dList, dTup, dStr, dIAdd, frzE, frz1, startD, List.map_cons, List.map_nil, List.length_cons, List.length_nil, List.replicate_succ, List.replicate_zero, List.cons_append, List.nil_append, List.append_nil, List.getElem?_cons_zero, List.getElem?_cons_succ, List.set_cons_zero, List.set_cons_succ, Nat.reduceSub, Nat.reduceAdd, if_true, if_false, ite_true, ite_false, reduceIte, Bool.false_eq_true, decide_true, decide_false, Bool.not_true, Bool.not_false, Bool.not_eq_true', decide_eq_true_eq, decide_eq_false_iff_not, isi_int_int, isi_int_bool, isi_bl_int, isi_bl_bool, isi_non_int, isi_non_bool, isi_str_int, isi_str_bool, isi_str_str, isi_lst_list, isi_tup_tuple, Option.some.injEq, exists_eq_left', exists_eq_left, DV.int.injEq, DV.str.injEq, DV.bl.injEq, List.cons.injEq, and_true, true_and])
local macro_rules | `(tactic| walk_at "dl") => `(tactic| try walk_at "dl1")
local macro_rules | `(tactic| walk_at "go") => `(tactic| repeat' (first
  | (intro _)
  | walk_at "dl1"
  | (refine ⟨by first | decide | omega, ?_⟩)
  | split))
def s_kinds (K : PySem.W.Frag) (L : List Str) : DS1 := fun ds R => match ds with
  | [.err C ns xs] => ∃ cn, cn ∈ L ∧ C = He.ga K cn ∧ R (.lst (selD cn))
  | _ => False
theorem sel_BadName : selD "BadName" = [.str "ValueError", .str "NestError", .str "BadName"] := sel_plain (by decide +kernel)
theorem in_BadName : ("BadName" : Str) ∈ allErr := by decide +kernel
theorem sel_BadWeight : selD "BadWeight" = [.str "ValueError", .str "NestError", .str "BadWeight"] := sel_plain (by decide +kernel)
theorem in_BadWeight : ("BadWeight" : Str) ∈ allErr := by decide +kernel
theorem sel_BadNumber : selD "BadNumber" = [.str "ValueError", .str "NestError", .str "BadNumber"] := sel_plain (by decide +kernel)
theorem in_BadNumber : ("BadNumber" : Str) ∈ allErr := by decide +kernel
theorem sel_BadCount : selD "BadCount" = [.str "ValueError", .str "NestError", .str "BadCount"] := sel_plain (by decide +kernel)
theorem in_BadCount : ("BadCount" : Str) ∈ allErr := by decide +kernel
theorem sel_Twice : selD "Twice" = [.str "ValueError", .str "NestError", .str "Twice"] := sel_plain (by decide +kernel)
theorem in_Twice : ("Twice" : Str) ∈ allErr := by decide +kernel
theorem sel_Short : selD "Short" = [.str "ValueError", .str "NestError", .str "Short"] := sel_plain (by decide +kernel)
theorem in_Short : ("Short" : Str) ∈ allErr := by decide +kernel
theorem sel_BadText : selD "BadText" = [.str "ValueError", .str "NestError", .str "BadText"] := sel_plain (by decide +kernel)
theorem in_BadText : ("BadText" : Str) ∈ allErr := by decide +kernel
theorem sel_Unbalanced : selD "Unbalanced" = [.str "ValueError", .str "NestError", .str "Unbalanced"] := sel_plain (by decide +kernel)
theorem in_Unbalanced : ("Unbalanced" : Str) ∈ allErr := by decide +kernel
theorem sel_Broken : selD "Broken" = [.str "ValueError", .str "NestError", .str "Broken"] := sel_plain (by decide +kernel)
theorem in_Broken : ("Broken" : Str) ∈ allErr := by decide +kernel
theorem sel_NotComing : selD "NotComing" = [.str "ValueError", .str "NestError", .str "NotComing"] := sel_plain (by decide +kernel)
theorem in_NotComing : ("NotComing" : Str) ∈ allErr := by decide +kernel
theorem sel_TooMany : selD "TooMany" = [.str "ValueError", .str "NestError", .str "TooMany"] := sel_plain (by decide +kernel)
theorem in_TooMany : ("TooMany" : Str) ∈ allErr := by decide +kernel
theorem sel_BadWish : selD "BadWish" = [.str "ValueError", .str "NestError", .str "BadWish"] := sel_plain (by decide +kernel)
theorem in_BadWish : ("BadWish" : Str) ∈ allErr := by decide +kernel
theorem sel_Clash : selD "Clash" = [.str "ValueError", .str "NestError", .str "Clash"] := sel_plain (by decide +kernel)
theorem in_Clash : ("Clash" : Str) ∈ allErr := by decide +kernel
theorem sel_OtherDoors : selD "OtherDoors" = [.str "ValueError", .str "NestError", .str "OtherDoors"] := sel_plain (by decide +kernel)
theorem in_OtherDoors : ("OtherDoors" : Str) ∈ allErr := by decide +kernel
theorem sel_NoStory : selD "NoStory" = [.str "ValueError", .str "NestError", .str "NoStory"] := sel_plain (by decide +kernel)
theorem in_NoStory : ("NoStory" : Str) ∈ allErr := by decide +kernel
theorem sel_BadOrder : selD "BadOrder" = [.str "ValueError", .str "NestError", .str "BadOrder"] := sel_plain (by decide +kernel)
theorem in_BadOrder : ("BadOrder" : Str) ∈ allErr := by decide +kernel
theorem sel_OrderRefused : selD "OrderRefused" = [.str "ValueError", .str "NestError", .str "OrderRefused"] := sel_plain (by decide +kernel)
theorem in_OrderRefused : ("OrderRefused" : Str) ∈ allErr := by decide +kernel
theorem sel_OutOfSteps : selD "OutOfSteps" = [.str "ValueError", .str "NestError", .str "OutOfSteps"] := sel_plain (by decide +kernel)
theorem in_OutOfSteps : ("OutOfSteps" : Str) ∈ allErr := by decide +kernel
theorem sel_NotEmpty : selD "NotEmpty" = [.str "ValueError", .str "NestError", .str "NotEmpty"] := sel_plain (by decide +kernel)
theorem in_NotEmpty : ("NotEmpty" : Str) ∈ allErr := by decide +kernel
theorem sel_NoChange : selD "NoChange" = [.str "ValueError", .str "NestError", .str "NoChange"] := sel_plain (by decide +kernel)
theorem in_NoChange : ("NoChange" : Str) ∈ allErr := by decide +kernel
theorem sel_NothingDone : selD "NothingDone" = [.str "ValueError", .str "NestError", .str "NothingDone"] := sel_plain (by decide +kernel)
theorem in_NothingDone : ("NothingDone" : Str) ∈ allErr := by decide +kernel
theorem sel_BadClaim : selD "BadClaim" = [.str "ValueError", .str "NestError", .str "BadClaim"] := sel_plain (by decide +kernel)
theorem in_BadClaim : ("BadClaim" : Str) ∈ allErr := by decide +kernel
theorem sel_OtherYard : selD "OtherYard" = [.str "ValueError", .str "NestError", .str "OtherYard"] := sel_plain (by decide +kernel)
theorem in_OtherYard : ("OtherYard" : Str) ∈ allErr := by decide +kernel
theorem sel_Unknown : selD "Unknown" = [.str "ValueError", .str "NestError", .str "Unknown"] := sel_plain (by decide +kernel)
theorem in_Unknown : ("Unknown" : Str) ∈ allErr := by decide +kernel
theorem sel_NoHolder : selD "NoHolder" = [.str "ValueError", .str "NestError", .str "NoHolder"] := sel_plain (by decide +kernel)
theorem in_NoHolder : ("NoHolder" : Str) ∈ allErr := by decide +kernel
theorem sel_Loop : selD "Loop" = [.str "ValueError", .str "NestError", .str "Loop"] := sel_plain (by decide +kernel)
theorem in_Loop : ("Loop" : Str) ∈ allErr := by decide +kernel
theorem sel_Same : selD "Same" = [.str "ValueError", .str "NestError", .str "Refusal", .str "Same"] := sel_ref (by decide +kernel)
theorem in_Same : ("Same" : Str) ∈ allErr := by decide +kernel
theorem sel_Inside : selD "Inside" = [.str "ValueError", .str "NestError", .str "Refusal", .str "Inside"] := sel_ref (by decide +kernel)
theorem in_Inside : ("Inside" : Str) ∈ allErr := by decide +kernel
theorem sel_Unlike : selD "Unlike" = [.str "ValueError", .str "NestError", .str "Refusal", .str "Unlike"] := sel_ref (by decide +kernel)
theorem in_Unlike : ("Unlike" : Str) ∈ allErr := by decide +kernel
theorem sel_Nailed : selD "Nailed" = [.str "ValueError", .str "NestError", .str "Refusal", .str "Nailed"] := sel_ref (by decide +kernel)
theorem in_Nailed : ("Nailed" : Str) ∈ allErr := by decide +kernel
theorem sel_Sealed : selD "Sealed" = [.str "ValueError", .str "NestError", .str "Refusal", .str "Sealed"] := sel_ref (by decide +kernel)
theorem in_Sealed : ("Sealed" : Str) ∈ allErr := by decide +kernel
theorem sel_Idle : selD "Idle" = [.str "ValueError", .str "NestError", .str "Refusal", .str "Idle"] := sel_ref (by decide +kernel)
theorem in_Idle : ("Idle" : Str) ∈ allErr := by decide +kernel
theorem kd_call {K : PySem.W.Frag} {cn : Str} {ns : List Str} {xs : List DV} {R : DV → Prop} (h : cn ∈ allErr) (r : R (.lst (selD cn))) : s_kinds K allErr [.err (He.ga K cn) ns xs] R := ⟨cn, h, rfl, r⟩
local macro_rules | `(tactic| walk_at "mk") => `(tactic| repeat' (first
  | walk_at "dl1"
  | (refine ⟨by decide, ?_⟩)
  | (refine kd_call in_BadName ?_; rw [sel_BadName])
  | (refine kd_call in_BadWeight ?_; rw [sel_BadWeight])
  | (refine kd_call in_BadNumber ?_; rw [sel_BadNumber])
  | (refine kd_call in_BadCount ?_; rw [sel_BadCount])
  | (refine kd_call in_Twice ?_; rw [sel_Twice])
  | (refine kd_call in_Short ?_; rw [sel_Short])
  | (refine kd_call in_BadText ?_; rw [sel_BadText])
  | (refine kd_call in_Unbalanced ?_; rw [sel_Unbalanced])
  | (refine kd_call in_Broken ?_; rw [sel_Broken])
  | (refine kd_call in_NotComing ?_; rw [sel_NotComing])
  | (refine kd_call in_TooMany ?_; rw [sel_TooMany])
  | (refine kd_call in_BadWish ?_; rw [sel_BadWish])
  | (refine kd_call in_Clash ?_; rw [sel_Clash])
  | (refine kd_call in_OtherDoors ?_; rw [sel_OtherDoors])
  | (refine kd_call in_NoStory ?_; rw [sel_NoStory])
  | (refine kd_call in_BadOrder ?_; rw [sel_BadOrder])
  | (refine kd_call in_OrderRefused ?_; rw [sel_OrderRefused])
  | (refine kd_call in_OutOfSteps ?_; rw [sel_OutOfSteps])
  | (refine kd_call in_NotEmpty ?_; rw [sel_NotEmpty])
  | (refine kd_call in_NoChange ?_; rw [sel_NoChange])
  | (refine kd_call in_NothingDone ?_; rw [sel_NothingDone])
  | (refine kd_call in_BadClaim ?_; rw [sel_BadClaim])
  | (refine kd_call in_OtherYard ?_; rw [sel_OtherYard])
  | (refine kd_call in_Unknown ?_; rw [sel_Unknown])
  | (refine kd_call in_NoHolder ?_; rw [sel_NoHolder])
  | (refine kd_call in_Loop ?_; rw [sel_Loop])
  | (refine kd_call in_Same ?_; rw [sel_Same])
  | (refine kd_call in_Inside ?_; rw [sel_Inside])
  | (refine kd_call in_Unlike ?_; rw [sel_Unlike])
  | (refine kd_call in_Nailed ?_; rw [sel_Nailed])
  | (refine kd_call in_Sealed ?_; rw [sel_Sealed])
  | (refine kd_call in_Idle ?_; rw [sel_Idle])
  ))
theorem lcL_map {g : WG} {w : WE} {ρ : Env} {R : List DV → Prop} (f : DV → DV) : ∀ (xs acc : List DV), (∀ x ∈ xs, ∀ K : DV → Prop, K (f x) → g x ρ fun ρ' => w ρ' K) → R (acc ++ xs.map f) → lcL g wYes w xs ρ acc R
  | [], acc, _, h => by
    unfold lcL
    simpa using h
  | x :: xs, acc, hw, h => by
    unfold lcL wYes
    refine hw x List.mem_cons_self _ ?_
    refine lcL_map f xs _ (fun y hy => hw y (List.mem_cons_of_mem _ hy)) ?_
    rw [List.append_assoc]
    exact h
mutual
def flB : Nat → DV → Bool
  | _, .non => true
  | _, .bl _ => true
  | _, .int _ => true
  | _, .str _ => true
  | n + 1, .lst xs => flBs n xs
  | n + 1, .tup xs => flBs n xs
  | _, _ => false
def flBs : Nat → List DV → Bool
  | _, [] => true
  | n, x :: xs => flB n x && flBs n xs
end
mutual
theorem fl_of : ∀ {n : Nat} {x : DV}, flB n x = true → flD n x
  | 0, .non, _ => trivial
  | _ + 1, .non, _ => trivial
  | 0, .bl _, _ => trivial
  | _ + 1, .bl _, _ => trivial
  | 0, .int _, _ => trivial
  | _ + 1, .int _, _ => trivial
  | 0, .str _, _ => trivial
  | _ + 1, .str _, _ => trivial
  | n + 1, .lst xs, h => fls_of (by unfold flB at h; exact h)
  | n + 1, .tup xs, h => fls_of (by unfold flB at h; exact h)
  | 0, .lst _, h => by unfold flB at h; cases h
  | 0, .tup _, h => by unfold flB at h; cases h
  | 0, .dic _ _, h => by unfold flB at h; cases h
  | _ + 1, .dic _ _, h => by unfold flB at h; cases h
  | 0, .obj _ _ _, h => by unfold flB at h; cases h
  | _ + 1, .obj _ _ _, h => by unfold flB at h; cases h
  | 0, .err _ _ _, h => by unfold flB at h; cases h
  | _ + 1, .err _ _ _, h => by unfold flB at h; cases h
  | 0, .hote _ _ _ _ _, h => by unfold flB at h; cases h
  | _ + 1, .hote _ _ _ _ _, h => by unfold flB at h; cases h
  | 0, .sto, h => by unfold flB at h; cases h
  | _ + 1, .sto, h => by unfold flB at h; cases h
theorem fls_of : ∀ {n : Nat} {xs : List DV}, flBs n xs = true → ∀ x ∈ xs, flD n x
  | _, [], _, x, hx => by cases hx
  | n, y :: ys, h, x, hx => by
    unfold flBs at h
    rw [Bool.and_eq_true] at h
    rcases List.mem_cons.mp hx with e | hx
    · rw [e]; exact fl_of h.1
    · exact fls_of h.2 x hx
end
def fldA (K : PySem.W.Frag) : List (Addr × Str) := allFld.map fun p => (He.ga K p.1, p.2)
theorem fld_in {K : PySem.W.Frag} {c f : Str} (h : (c, f) ∈ allFld) : (He.ga K c, f) ∈ fldA K := List.mem_map.mpr ⟨(c, f), h, rfl⟩
theorem same_run {n : Nat} {x y : DV} {R : DV → Prop} (e : x = y) (h : flB n x = true) (r : R (.bl true)) : s_same (n + 1) [x, y] R := ⟨e, fl_of h, r⟩
theorem fld_run {K : PySem.W.Frag} {c f : Str} {ns : List Str} {xs : List DV} {x : DV} {R : DV → Prop} (h : (c, f) ∈ allFld) (e : lkD ns xs f = some x) (r : R x) : ∃ C ns' xs' x, DV.err (He.ga K c) ns xs = .err C ns' xs' ∧ (C, f) ∈ fldA K ∧ lkD ns' xs' f = some x ∧ R x := ⟨_, _, _, _, rfl, fld_in h, e, r⟩
theorem fi_BadName_name : (("BadName" : Str), ("name" : Str)) ∈ allFld := by decide +kernel
theorem fi_Twice_name : (("Twice" : Str), ("name" : Str)) ∈ allFld := by decide +kernel
theorem fi_Unknown_name : (("Unknown" : Str), ("name" : Str)) ∈ allFld := by decide +kernel
theorem fi_NoHolder_name : (("NoHolder" : Str), ("name" : Str)) ∈ allFld := by decide +kernel
theorem fi_Loop_name : (("Loop" : Str), ("name" : Str)) ∈ allFld := by decide +kernel
theorem fi_Same_name : (("Same" : Str), ("name" : Str)) ∈ allFld := by decide +kernel
theorem fi_Nailed_name : (("Nailed" : Str), ("name" : Str)) ∈ allFld := by decide +kernel
theorem fi_Sealed_name : (("Sealed" : Str), ("name" : Str)) ∈ allFld := by decide +kernel
theorem fi_Idle_name : (("Idle" : Str), ("name" : Str)) ∈ allFld := by decide +kernel
theorem fi_Unbalanced_name : (("Unbalanced" : Str), ("name" : Str)) ∈ allFld := by decide +kernel
theorem fi_Clash_name : (("Clash" : Str), ("name" : Str)) ∈ allFld := by decide +kernel
theorem fi_NotEmpty_name : (("NotEmpty" : Str), ("name" : Str)) ∈ allFld := by decide +kernel
theorem fi_NoChange_name : (("NoChange" : Str), ("name" : Str)) ∈ allFld := by decide +kernel
theorem fi_BadWeight_weight : (("BadWeight" : Str), ("weight" : Str)) ∈ allFld := by decide +kernel
theorem fi_BadNumber_number : (("BadNumber" : Str), ("number" : Str)) ∈ allFld := by decide +kernel
theorem fi_Short_number : (("Short" : Str), ("number" : Str)) ∈ allFld := by decide +kernel
theorem fi_BadWish_at : (("BadWish" : Str), ("at" : Str)) ∈ allFld := by decide +kernel
theorem fi_BadClaim_claim : (("BadClaim" : Str), ("claim" : Str)) ∈ allFld := by decide +kernel
theorem fi_NotComing_bar : (("NotComing" : Str), ("bar" : Str)) ∈ allFld := by decide +kernel
theorem fi_OrderRefused_line : (("OrderRefused" : Str), ("line" : Str)) ∈ allFld := by decide +kernel
theorem fi_OrderRefused_reason : (("OrderRefused" : Str), ("reason" : Str)) ∈ allFld := by decide +kernel
theorem fi_OrderRefused_deeds : (("OrderRefused" : Str), ("deeds" : Str)) ∈ allFld := by decide +kernel
theorem fi_OutOfSteps_line : (("OutOfSteps" : Str), ("line" : Str)) ∈ allFld := by decide +kernel
theorem fi_OutOfSteps_deeds : (("OutOfSteps" : Str), ("deeds" : Str)) ∈ allFld := by decide +kernel
theorem fi_Unlike_first : (("Unlike" : Str), ("first" : Str)) ∈ allFld := by decide +kernel
theorem fi_Unlike_second : (("Unlike" : Str), ("second" : Str)) ∈ allFld := by decide +kernel
theorem fi_Unlike_first_weight : (("Unlike" : Str), ("first_weight" : Str)) ∈ allFld := by decide +kernel
theorem fi_Unlike_second_weight : (("Unlike" : Str), ("second_weight" : Str)) ∈ allFld := by decide +kernel
theorem fi_Inside_inner : (("Inside" : Str), ("inner" : Str)) ∈ allFld := by decide +kernel
theorem fi_Inside_outer : (("Inside" : Str), ("outer" : Str)) ∈ allFld := by decide +kernel
theorem fi_TooMany_many : (("TooMany" : Str), ("many" : Str)) ∈ allFld := by decide +kernel
theorem fi_TooMany_limit : (("TooMany" : Str), ("limit" : Str)) ∈ allFld := by decide +kernel
theorem fi_Broken_at : (("Broken" : Str), ("at" : Str)) ∈ allFld := by decide +kernel
theorem fi_Broken_reason : (("Broken" : Str), ("reason" : Str)) ∈ allFld := by decide +kernel
theorem fi_BadCount_what : (("BadCount" : Str), ("what" : Str)) ∈ allFld := by decide +kernel
theorem fi_BadCount_many : (("BadCount" : Str), ("many" : Str)) ∈ allFld := by decide +kernel
theorem fi_BadText_line : (("BadText" : Str), ("line" : Str)) ∈ allFld := by decide +kernel
theorem fi_BadText_fault : (("BadText" : Str), ("fault" : Str)) ∈ allFld := by decide +kernel
theorem fi_BadOrder_line : (("BadOrder" : Str), ("line" : Str)) ∈ allFld := by decide +kernel
theorem fi_BadOrder_fault : (("BadOrder" : Str), ("fault" : Str)) ∈ allFld := by decide +kernel
local macro_rules | `(tactic| walk_at "fd") => `(tactic| repeat' (first
  | walk_at "dl1"
  | (refine ⟨by decide, ?_⟩)
  | (refine ⟨Nat.le_of_ble_eq_true rfl, ?_⟩)
  | (refine same_run rfl rfl ?_)
  | (rw [if_neg (by decide)])
  | refine fld_run fi_BadName_name rfl ?_
  | refine fld_run fi_Twice_name rfl ?_
  | refine fld_run fi_Unknown_name rfl ?_
  | refine fld_run fi_NoHolder_name rfl ?_
  | refine fld_run fi_Loop_name rfl ?_
  | refine fld_run fi_Same_name rfl ?_
  | refine fld_run fi_Nailed_name rfl ?_
  | refine fld_run fi_Sealed_name rfl ?_
  | refine fld_run fi_Idle_name rfl ?_
  | refine fld_run fi_Unbalanced_name rfl ?_
  | refine fld_run fi_Clash_name rfl ?_
  | refine fld_run fi_NotEmpty_name rfl ?_
  | refine fld_run fi_NoChange_name rfl ?_
  | refine fld_run fi_BadWeight_weight rfl ?_
  | refine fld_run fi_BadNumber_number rfl ?_
  | refine fld_run fi_Short_number rfl ?_
  | refine fld_run fi_BadWish_at rfl ?_
  | refine fld_run fi_BadClaim_claim rfl ?_
  | refine fld_run fi_NotComing_bar rfl ?_
  | refine fld_run fi_OrderRefused_line rfl ?_
  | refine fld_run fi_OrderRefused_reason rfl ?_
  | refine fld_run fi_OrderRefused_deeds rfl ?_
  | refine fld_run fi_OutOfSteps_line rfl ?_
  | refine fld_run fi_OutOfSteps_deeds rfl ?_
  | refine fld_run fi_Unlike_first rfl ?_
  | refine fld_run fi_Unlike_second rfl ?_
  | refine fld_run fi_Unlike_first_weight rfl ?_
  | refine fld_run fi_Unlike_second_weight rfl ?_
  | refine fld_run fi_Inside_inner rfl ?_
  | refine fld_run fi_Inside_outer rfl ?_
  | refine fld_run fi_TooMany_many rfl ?_
  | refine fld_run fi_TooMany_limit rfl ?_
  | refine fld_run fi_Broken_at rfl ?_
  | refine fld_run fi_Broken_reason rfl ?_
  | refine fld_run fi_BadCount_what rfl ?_
  | refine fld_run fi_BadCount_many rfl ?_
  | refine fld_run fi_BadText_line rfl ?_
  | refine fld_run fi_BadText_fault rfl ?_
  | refine fld_run fi_BadOrder_line rfl ?_
  | refine fld_run fi_BadOrder_fault rfl ?_
  ))
end DL
namespace DL
open PySem PySem.Spec PyProof.Rows L2 NW
local macro_rules | `(tactic| walk_at "dl1") => `(tactic| simp only [wTry, wAsgX, wDropX, wKd, wXf, wSeq, wAsg, wAsgO, wRet, wIfS, wNx, wPass, wBk, wCt, wDrop, wAug, wApp, wAppPop, wPop, wFor, wFz, wV, wVP, atV, atP, atO, wC, wOp, wCall, wCallN, wCB, aC, aN, wL, wTu, fL, wF, fCat, fList, wTB, wTru, wAnd, wOr, wNot, wAndV, wOrV, wNotV, wIf, wChain, wIsN, wNeg, dNeg, wSl, pN, pP, dSl, wLrev, dLrev, wIsi, wIsi2, iL, iT, iV, iS, iR1, iR2, gN, fLc, wYes, wiL,
  dAdd, dSub, dMul, dMulS, dMulL, dDiv, dMod, dLt, dLe, dGt, dGe, dEq, dNe, eqD, dIn, dNi, dIx, dTru, isNon, dLen, dInt, dAbs, dMax, dMin, dList, dTup, dStr, dIAdd, frzE, frz1, startD, List.map_cons, List.map_nil, List.length_cons, List.length_nil, List.replicate_succ, List.replicate_zero, List.cons_append, List.nil_append, List.append_nil, List.getElem?_cons_zero, List.getElem?_cons_succ, List.set_cons_zero, List.set_cons_succ, Nat.reduceSub, Nat.reduceAdd, if_true, if_false, ite_true, ite_false, reduceIte, Bool.false_eq_true, decide_true, decide_false, Bool.not_true, Bool.not_false, Bool.not_eq_true', decide_eq_true_eq, decide_eq_false_iff_not, isi_int_int, isi_int_bool, isi_bl_int, isi_bl_bool, isi_non_int, isi_non_bool, isi_str_int, isi_str_bool, isi_str_str, isi_lst_list, isi_tup_tuple, Option.some.injEq, exists_eq_left', exists_eq_left, DV.int.injEq, DV.str.injEq, DV.bl.injEq, List.cons.injEq, and_true, true_and])
local macro_rules | `(tactic| walk_at "dl") => `(tactic| try walk_at "dl1")
local macro_rules | `(tactic| walk_at "go") => `(tactic| repeat' (first
  | (intro _)
  | walk_at "dl1"
  | (refine ⟨by first | decide | omega, ?_⟩)
  | split))
local macro_rules | `(tactic| walk_at "fd") => `(tactic| repeat' (first
  | walk_at "dl1"
  | (refine ⟨by decide, ?_⟩)
  | (refine ⟨Nat.le_of_ble_eq_true rfl, ?_⟩)
  | (refine same_run rfl rfl ?_)
  | (rw [if_neg (by decide)])
  | refine fld_run fi_BadName_name rfl ?_
  | refine fld_run fi_Twice_name rfl ?_
  | refine fld_run fi_Unknown_name rfl ?_
  | refine fld_run fi_NoHolder_name rfl ?_
  | refine fld_run fi_Loop_name rfl ?_
  | refine fld_run fi_Same_name rfl ?_
  | refine fld_run fi_Nailed_name rfl ?_
  | refine fld_run fi_Sealed_name rfl ?_
  | refine fld_run fi_Idle_name rfl ?_
  | refine fld_run fi_Unbalanced_name rfl ?_
  | refine fld_run fi_Clash_name rfl ?_
  | refine fld_run fi_NotEmpty_name rfl ?_
  | refine fld_run fi_NoChange_name rfl ?_
  | refine fld_run fi_BadWeight_weight rfl ?_
  | refine fld_run fi_BadNumber_number rfl ?_
  | refine fld_run fi_Short_number rfl ?_
  | refine fld_run fi_BadWish_at rfl ?_
  | refine fld_run fi_BadClaim_claim rfl ?_
  | refine fld_run fi_NotComing_bar rfl ?_
  | refine fld_run fi_OrderRefused_line rfl ?_
  | refine fld_run fi_OrderRefused_reason rfl ?_
  | refine fld_run fi_OrderRefused_deeds rfl ?_
  | refine fld_run fi_OutOfSteps_line rfl ?_
  | refine fld_run fi_OutOfSteps_deeds rfl ?_
  | refine fld_run fi_Unlike_first rfl ?_
  | refine fld_run fi_Unlike_second rfl ?_
  | refine fld_run fi_Unlike_first_weight rfl ?_
  | refine fld_run fi_Unlike_second_weight rfl ?_
  | refine fld_run fi_Inside_inner rfl ?_
  | refine fld_run fi_Inside_outer rfl ?_
  | refine fld_run fi_TooMany_many rfl ?_
  | refine fld_run fi_TooMany_limit rfl ?_
  | refine fld_run fi_Broken_at rfl ?_
  | refine fld_run fi_Broken_reason rfl ?_
  | refine fld_run fi_BadCount_what rfl ?_
  | refine fld_run fi_BadCount_many rfl ?_
  | refine fld_run fi_BadText_line rfl ?_
  | refine fld_run fi_BadText_fault rfl ?_
  | refine fld_run fi_BadOrder_line rfl ?_
  | refine fld_run fi_BadOrder_fault rfl ?_
  ))
theorem isE_uns {W : Wd} {H : Hp} (n : Nat) : IsE W (fun _ => none) H (List.replicate n none) (List.replicate n .un) := by
  refine ⟨by rw [List.length_replicate, List.length_replicate], fun i d e => ?_, fun i d e => ?_, fun i k d e => ?_, fun i A C k d e => ?_, fun _ _ z => nomatch z⟩
  · have z := List.mem_of_getElem? e
    rw [List.mem_replicate] at z
    cases z.2
  · have z := List.mem_of_getElem? e
    rw [List.mem_replicate] at z
    cases z.2
  · have z := List.mem_of_getElem? e
    rw [List.mem_replicate] at z
    cases z.2
  · have z := List.mem_of_getElem? e
    rw [List.mem_replicate] at z
    cases z.2
theorem isE_cons {W : Wd} {H : Hp} {v : V} {d : DV} {σ : L2.St} {ρ : Env} (h : Is W H v d) (t : IsE W (fun _ => none) H σ ρ) : IsE W (fun _ => none) H (some v :: σ) (.dt d :: ρ) := by
  refine ⟨by rw [List.length_cons, List.length_cons, t.len], fun i x e => ?_, fun i x e => ?_, fun i k x e => ?_, fun i A C k x e => ?_, fun _ _ z => nomatch z⟩
  · match i, e with
    | 0, e =>
      have e : d = x := Sl.dt.inj (Option.some.inj e)
      subst e
      exact ⟨v, rfl, h⟩
    | i + 1, e => exact t.dt i x e
  · match i, e with
    | 0, e => cases e
    | i + 1, e =>
      obtain ⟨a, us, z, _⟩ := t.ow i x e
      cases z
  · match i, e with
    | 0, e => cases e
    | i + 1, e =>
      obtain ⟨a, us, z, _⟩ := t.od i k x e
      cases z
  · match i, e with
    | 0, e => cases e
    | i + 1, e =>
      obtain ⟨a, us, z, _⟩ := t.oi i A C k x e
      cases z
theorem isE_un {W : Wd} {H : Hp} {v : Option V} {σ : L2.St} {ρ : Env} (t : IsE W (fun _ => none) H σ ρ) : IsE W (fun _ => none) H (v :: σ) (.un :: ρ) := by
  refine ⟨by rw [List.length_cons, List.length_cons, t.len], fun i x e => ?_, fun i x e => ?_, fun i k x e => ?_, fun i A C k x e => ?_, fun _ _ z => nomatch z⟩
  · match i, e with
    | 0, e => cases e
    | i + 1, e => exact t.dt i x e
  · match i, e with
    | 0, e => cases e
    | i + 1, e =>
      obtain ⟨a, us, z, _⟩ := t.ow i x e
      cases z
  · match i, e with
    | 0, e => cases e
    | i + 1, e =>
      obtain ⟨a, us, z, _⟩ := t.od i k x e
      cases z
  · match i, e with
    | 0, e => cases e
    | i + 1, e =>
      obtain ⟨a, us, z, _⟩ := t.oi i A C k x e
      cases z
theorem law_start {Ex : L2.WX} {w : WS} {H : Hp} {st : Addr} {a : V} {n : Nat} {Q : VK} (hs : Sto H st) (q : ∀ H', Q (.bl true) H') (h : w { nx := fun _ => False, rt := fun d => d = .bl true } (.un :: .dt .sto :: List.replicate n .un)) :
    liftS Ex w { nx := fun _ H' => Q .non H', rt := Q } (some a :: some (.ref st) :: List.replicate n none) H := by
  have e0 : (⟨some st, fun _ => False, H⟩ : Bs).w (fun _ => none) = ⟨some st, fun _ => False⟩ := w_none
  have he : IsE (⟨some st, fun _ => False⟩ : Wd) (fun _ => none) H (some a :: some (.ref st) :: List.replicate n none) (.un :: .dt .sto :: List.replicate n .un) := isE_un (isE_cons (.sto rfl) (isE_uns n))
  refine ⟨⟨some st, fun _ => False, H⟩, fun _ => none, _, _, ⟨hs, Kp.refl _ _, by rw [e0]; exact ⟨hs, fun _ z => z.elim⟩, by rw [e0]; exact he, (fun _ _ z => nomatch z), (fun _ _ _ z => nomatch z)⟩, h, ⟨fun _ _ _ _ z => z.elim, fun _ _ _ _ z => z.elim, fun _ _ _ _ z => z.elim, fun d v H' r k o i => ?_, fun _ _ _ _ _ _ _ _ _ z => z.elim⟩⟩
  have r : d = .bl true := r
  subst r
  cases i
  exact q H'
def sp_lawS (K : PySem.W.Frag) : Sp := fun vs H Q _ => ∃ (a : Addr) (ns : List Int), vs = [.ref a] ∧ SqL K H a (ns.map V.int) ∧ ∀ H', Q (.bl true) H'
theorem l_lawS (K : PySem.W.Frag) : ∀ vs H Q E, sp_lawS K vs H Q E → vs.length = 1 := fun _ _ _ _ ⟨_, _, e, _⟩ => by rw [e]; rfl
def t_lawS (K : PySem.W.Frag) (Ex : L2.WX) (w : WS) : TS := tSeq (tAsg (tCall (sp_store K) [] E0 (tCons (tVar 0) tNil)) (gName 1)) (liftS Ex w)
theorem p_lawS (K : PySem.W.Frag) {Ex : L2.WX} {w : WS} {N : List Str} {n : Nat} (hN : N.length = n + 2) (h : w { nx := fun _ => False, rt := fun d => d = .bl true } (.un :: .dt .sto :: List.replicate n .un)) (vs : List V) (H : Hp) (Q : VK) (E : XK) (q : sp_lawS K vs H Q E) : t_lawS K Ex w { nx := fun _ H' => Q .non H', rt := Q } (L2.start N vs) H := by
  obtain ⟨a, ns, rfl, hs, q⟩ := q
  have e : L2.start N [V.ref a] = some (.ref a) :: none :: List.replicate n none := by
    unfold L2.start
    rw [hN]
    show some (V.ref a) :: List.replicate (n + 2 - 1) none = _
    rw [show n + 2 - 1 = n + 1 by omega, List.replicate_succ]
  rw [e]
  exact ⟨_, rfl, a, ns, rfl, hs, fun st H' S s g => law_start S q h⟩
end DL
namespace DL
open PySem PySem.Spec PyProof.Rows L2 NW
abbrev DSF := List DV → (List DV → Prop) → (DV → Prop) → Prop
def dspXF (s : DSF) : Sp := fun vs H Q E => ∃ W ds R RX, W.Ok H ∧ Iss W H vs ds ∧ s ds R RX ∧ FinF W H R Q ∧ FinX W H RX E
theorem len_dspXF {s : DSF} {n : Nat} (h : ∀ ds R RX, s ds R RX → ds.length = n) : ∀ vs H Q E, dspXF s vs H Q E → vs.length = n := fun vs H Q E q => by
  obtain ⟨W, ds, R, RX, o, i, z, f⟩ := q
  rw [i.len]; exact h ds R RX z
def fCallN (s : DSF) (r : WA) : WF := fun ρ R => r ρ fun ds => s ds R fun _ => False
end DL
namespace DL
open PySem PySem.Spec PyProof.Rows L2 NW
local macro_rules | `(tactic| walk_at "dl1") => `(tactic| simp only [wTry, wAsgX, wDropX, wKd, wXf, wSeq, wAsg, wAsgO, wRet, wIfS, wNx, wPass, wBk, wCt, wDrop, wAug, wApp, wAppPop, wPop, wFor, wFz, wV, wVP, atV, atP, atO, wC, wOp, wCall, wCallN, wCB, aC, aN, wL, wTu, fL, wF, fCat, fList, wTB, wTru, wAnd, wOr, wNot, wAndV, wOrV, wNotV, wIf, wChain, wIsN, wNeg, dNeg, wSl, pN, pP, dSl, wLrev, dLrev, wIsi, wIsi2, iL, iT, iV, iS, iR1, iR2, gN, fLc, wYes, wiL,
  dAdd, dSub, dMul, dMulS, dMulL, dDiv, dMod, dLt, dLe, dGt, dGe, dEq, dNe, eqD, dIn, dNi, dIx, dTru, isNon, dLen, dInt, dAbs, dMax, dMin, dList, dTup, dStr, dIAdd, frzE, frz1, startD, List.map_cons, List.map_nil, List.length_cons, List.length_nil, List.replicate_succ, List.replicate_zero, List.cons_append, List.nil_append, List.append_nil, List.getElem?_cons_zero, List.getElem?_cons_succ, List.set_cons_zero, List.set_cons_succ, Nat.reduceSub, Nat.reduceAdd, if_true, if_false, ite_true, ite_false, reduceIte, Bool.false_eq_true, decide_true, decide_false, Bool.not_true, Bool.not_false, Bool.not_eq_true', decide_eq_true_eq, decide_eq_false_iff_not, isi_int_int, isi_int_bool, isi_bl_int, isi_bl_bool, isi_non_int, isi_non_bool, isi_str_int, isi_str_bool, isi_str_str, isi_lst_list, isi_tup_tuple, Option.some.injEq, exists_eq_left', exists_eq_left, DV.int.injEq, DV.str.injEq, DV.bl.injEq, List.cons.injEq, and_true, true_and])
local macro_rules | `(tactic| walk_at "dl") => `(tactic| try walk_at "dl1")
local macro_rules | `(tactic| walk_at "go") => `(tactic| repeat' (first
  | (intro _)
  | walk_at "dl1"
  | (refine ⟨by first | decide | omega, ?_⟩)
  | split))
def OwesXF (n : Nat) (s : DSF) (w : WS) (f : WF) : Prop := ∀ ds R RX, s ds R RX → w { nx := fun ρ => f ρ R, rt := fun _ => False, xc := fun e _ => RX e } (startD n ds)
theorem dl_startXF {s : DSF} {w : WS} {f : WF} {N : List Str} (o : OwesXF N.length s w f) (vs : List V) (H : Hp) (Q : VK) (E : XK) (h : dspXF s vs H Q E) :
    tSeq (liftS (fun cls d _ H => E cls d H) w) (tRet (liftF f)) { nx := fun _ H' => Q .non H', rt := Q } (L2.start N vs) H := by
  obtain ⟨W, ds, R, RX, ok, i, hs, g, gx⟩ := h
  refine ⟨⟨W.st, W.hid, H⟩, fun _ => none, _, _, ⟨ok.s, Kp.refl _ _, by rw [w_none]; exact ok, by rw [w_none]; exact isE_start i, (fun _ _ z => nomatch z), (fun _ _ _ z => nomatch z)⟩, o ds R RX hs, ⟨fun own ρ σ H' r c => ?_, fun _ _ _ _ z => z.elim, fun _ _ _ _ z => z.elim, fun _ _ _ z => z.elim, fun own ρ σ H' C ns xs dd fs r c h1 h2 h3 h4 => ?_⟩⟩
  · refine ⟨_, own, ρ, R, c.ok, c.e, r, fun xs vs q H1 r1 k1 o1 i1 l1 n1 => ?_⟩
    have c1 := c.mono k1 o1
    exact g xs vs q H1 r1 c1.k c1.ok0 i1.w0 l1 n1
  · exact gx C ns xs dd H' fs r c.k c.ok0 h1 ⟨h2.1, fun z => h2.2 (.inl z)⟩ h3 h4.w0
end DL
namespace DL
open PySem PySem.Spec PyProof.Rows L2 NW
local macro_rules | `(tactic| walk_at "dl1") => `(tactic| simp only [wTry, wAsgX, wDropX, wKd, wXf, wSeq, wAsg, wAsgO, wRet, wIfS, wNx, wPass, wBk, wCt, wDrop, wAug, wApp, wAppPop, wPop, wFor, wFz, wV, wVP, atV, atP, atO, wC, wOp, wCall, wCallN, wCB, aC, aN, wL, wTu, fL, wF, fCat, fList, wTB, wTru, wAnd, wOr, wNot, wAndV, wOrV, wNotV, wIf, wChain, wIsN, wNeg, dNeg, wSl, pN, pP, dSl, wLrev, dLrev, wIsi, wIsi2, iL, iT, iV, iS, iR1, iR2, gN, fLc, wYes, wiL,
  dAdd, dSub, dMul, dMulS, dMulL, dDiv, dMod, dLt, dLe, dGt, dGe, dEq, dNe, eqD, dIn, dNi, dIx, dTru, isNon, dLen, dInt, dAbs, dMax, dMin, dList, dTup, dStr, dIAdd, frzE, frz1, startD, List.map_cons, List.map_nil, List.length_cons, List.length_nil, List.replicate_succ, List.replicate_zero, List.cons_append, List.nil_append, List.append_nil, List.getElem?_cons_zero, List.getElem?_cons_succ, List.set_cons_zero, List.set_cons_succ, Nat.reduceSub, Nat.reduceAdd, if_true, if_false, ite_true, ite_false, reduceIte, Bool.false_eq_true, decide_true, decide_false, Bool.not_true, Bool.not_false, Bool.not_eq_true', decide_eq_true_eq, decide_eq_false_iff_not, isi_int_int, isi_int_bool, isi_bl_int, isi_bl_bool, isi_non_int, isi_non_bool, isi_str_int, isi_str_bool, isi_str_str, isi_lst_list, isi_tup_tuple, Option.some.injEq, exists_eq_left', exists_eq_left, DV.int.injEq, DV.str.injEq, DV.bl.injEq, List.cons.injEq, and_true, true_and])
local macro_rules | `(tactic| walk_at "dl") => `(tactic| try walk_at "dl1")
local macro_rules | `(tactic| walk_at "go") => `(tactic| repeat' (first
  | (intro _)
  | walk_at "dl1"
  | (refine ⟨by first | decide | omega, ?_⟩)
  | split))
theorem nm_ext {s : Str} (h : nmB s = true) {k : Nat} (hk : 1 ≤ k) {t : List Nat} (ht : t.all lodB = true) (hl : min k s.length + t.length ≤ 8) {u : Str} (e : u.cps.toList = s.cps.toList.take k ++ t) : nmB u = true := by
  obtain ⟨c, cs, es, h1, h2, h3⟩ := nm_split h
  have l := len_cps s
  rw [es, List.length_cons] at l
  obtain ⟨k, rfl⟩ : ∃ j, k = j + 1 := ⟨k - 1, by omega⟩
  rw [es, List.take_succ_cons, List.cons_append] at e
  refine nm_of e h1 ?_ ?_
  · rw [List.all_append, ht, Bool.and_true, List.all_eq_true]
    exact fun x hx => List.all_eq_true.mp h2 x (List.mem_of_mem_take hx)
  · rw [List.length_append, List.length_take]
    omega
theorem nm_tail {s : Str} (h : nmB s = true) (k : Nat) : (s.cps.toList.drop (k + 1)).all lodB = true := by
  obtain ⟨c, cs, es, h1, h2, h3⟩ := nm_split h
  rw [es, List.drop_succ_cons, List.all_eq_true]
  exact fun x hx => List.all_eq_true.mp h2 x (List.mem_of_mem_drop hx)
theorem dig_lod : ∀ k < 130, (toString ((k : Nat) : Int) : Str).cps.toList.all lodB = true ∧ (toString ((k : Nat) : Int) : Str).length ≤ 3 := by decide +kernel
def w_unlike : WS :=
  (wSeq (wIfS (wTB (wOp dNi (wVP 0) (wVP 1))) (wRet (wV 0)) wNx)
    (wSeq (wFor (iR1 (aC (wOp dAdd (wCB dLen (aC (wVP 1) aN)) (wC (.int 1))) aN)) (gN 2) (wSeq (wAsg 3 (wOp dAdd (wOp dAdd (wSl (wVP 0) pN (pP (wC (.int 6)))) (wCall s_sign (aC (wOp dMod (wOp dDiv (wVP 2) (wC (.int 26))) (wC (.int 26))) aN))) (wCall s_sign (aC (wOp dMod (wVP 2) (wC (.int 26))) aN))))
    (wIfS (wTB (wOp dNi (wVP 3) (wVP 1))) (wRet (wV 3)) wNx)))
    (wRet (wV 0))))
def w_name_like_by : WS :=
  (wSeq (wIfS (wTB (wOp dEq (wVP 1) (wC (.int 1)))) (wSeq (wAsg 3 (wCall s_take (aC (wV 0) (aC (wCB dLen (aC (wVP 2) aN)) aN))))
    (wSeq (wIfS (wTB (wOp dEq (wVP 3) (wC (.int 0)))) (wRet (wOp dAdd (wCall s_sign (aC (wCall s_take (aC (wV 0) (aC (wC (.int 26)) aN))) aN)) (wSl (wVP 2) (pP (wC (.int 1))) pN))) wNx)
    (wRet (wOp dAdd (wOp dAdd (wSl (wVP 2) pN (pP (wVP 3))) (wCall s_sign (aC (wCall s_take (aC (wV 0) (aC (wC (.int 36)) aN))) aN))) (wSl (wVP 2) (pP (wOp dAdd (wVP 3) (wC (.int 1)))) pN))))) wNx)
    (wSeq (wIfS (wTB (wOp dEq (wVP 1) (wC (.int 2)))) (wRet (wSl (wVP 2) pN (pP (wOp dAdd (wC (.int 1)) (wCall s_take (aC (wV 0) (aC (wCB dLen (aC (wVP 2) aN)) aN))))))) wNx)
    (wSeq (wIfS (wTB (wOp dEq (wVP 1) (wC (.int 3)))) (wRet (wOp dAdd (wSl (wVP 2) pN (pP (wC (.int 4)))) (wCB dStr (aC (wCall s_take (aC (wV 0) (aC (wC (.int 130)) aN))) aN)))) wNx)
    (wSeq (wIfS (wTB (wOp dEq (wVP 1) (wC (.int 4)))) (wRet (wCall s_sign (aC (wCall s_take (aC (wV 0) (aC (wC (.int 26)) aN))) aN))) wNx)
    (wSeq (wIfS (wTB (wOp dEq (wVP 1) (wC (.int 5)))) (wSeq (wAsg 4 (wL (aC (wC (.str "in")) (aC (wC (.str "box")) (aC (wC (.str "shelf")) (aC (wC (.str "nailed")) (aC (wC (.str "sealed")) (aC (wC (.str "then")) (aC (wC (.str "into")) (aC (wC (.str "not")) (aC (wC (.str "end")) (aC (wC (.str "else")) (aC (wC (.str "like")) (aC (wC (.str "within")) (aC (wC (.str "claim")) aN)))))))))))))))
    (wRet (wCall s_pick (aC (wV 0) (aC (wV 4) aN))))) wNx)
    (wRet (wCall s_name (aC (wV 0) aN))))))))
def s_name_like_by : DS1 := fun ds R => match ds with
  | [.sto, .int m, .str s] => nmB s = true ∧ ∀ t, nmB t = true → R (.str t)
  | _ => False
theorem l_name_like_by : ∀ ds R, s_name_like_by ds R → ds.length = 3 := by
  intro ds R h
  unfold s_name_like_by at h
  split at h
  · rfl
  · exact h.elim
theorem o_name_like_by : Owes 5 (s_name_like_by) (w_name_like_by) := by
  intro ds R h
  unfold s_name_like_by at h
  split at h
  · unfold w_name_like_by
    walk_at "dl"
    rename_i m s
    obtain ⟨h0, h⟩ := h
    simp only [s_take, s_sign, s_pick, s_name]
    have nl := nm_len h0
    have c1 : ∀ k : Nat, (cutS s none (some (k : Int))).cps.toList = s.cps.toList.take k := fun k => by rw [cut_cps, cutG_to]
    have c2 : ∀ k : Nat, (cutS s (some (k : Int)) none).cps.toList = s.cps.toList.drop k := fun k => by rw [cut_cps, cutG_from]
    have l1 : ∀ k : Nat, (cutS s none (some (k : Int))).length = min k s.length := fun k => by rw [len_cps, c1, List.length_take, ← len_cps]
    have l2 : ∀ k : Nat, (cutS s (some (k : Int)) none).length = s.length - k := fun k => by rw [len_cps, c2, List.length_drop, ← len_cps]
    have e1 : (cutS s (some (1 : Int)) none).length = s.length - 1 := l2 1
    have e4 : (cutS s none (some (4 : Int))).length = min 4 s.length := l1 4
    split
    · refine ⟨by omega, by omega, fun r r0 r1 => ?_⟩
      split
      · refine ⟨by decide, fun q q0 q1 => ⟨by omega, by rw [one_len]; omega, h _ ?_⟩⟩
        refine nm_of (c := sg (q % 36).toNat) (cs := s.cps.toList.drop 1) (by rw [app_cps, one_cps]; exact congrArg _ (c2 1)) (sg_let (by omega)) (nm_tail h0 0) ?_
        rw [List.length_drop, ← len_cps]; omega
      · obtain ⟨k, rfl⟩ : ∃ k : Nat, r = (k : Int) := ⟨r.toNat, by omega⟩
        have z1 := l1 k
        have z2 : (cutS s (some ((k : Int) + 1)) none).length = s.length - (k + 1) := l2 (k + 1)
        refine ⟨by omega, by decide, fun q q0 q1 => ⟨by rw [one_len]; omega, by omega, by rw [app_len, one_len]; omega, h _ ?_⟩⟩
        refine nm_ext h0 (k := k) (by omega) (t := sg (q % 36).toNat :: s.cps.toList.drop (k + 1)) ?_ ?_ ?_
        · rw [List.all_cons, sg_lod (show (q % 36).toNat < 36 by omega), nm_tail h0 k]; rfl
        · rw [List.length_cons, List.length_drop, ← len_cps]; omega
        · rw [app_cps, app_cps, c1, one_cps, List.append_assoc]
          rw [show (cutS s (some ((k : Int) + 1)) none).cps.toList = s.cps.toList.drop (k + 1) from c2 (k + 1)]
          rfl
    split
    · refine ⟨by omega, by omega, fun r r0 r1 => ⟨by omega, h _ ?_⟩⟩
      obtain ⟨k, rfl⟩ : ∃ k : Nat, r = (k : Int) := ⟨r.toNat, by omega⟩
      refine nm_ext h0 (k := 1 + k) (by omega) (t := []) rfl ?_ ?_
      · simp only [List.length_nil]; omega
      · rw [List.append_nil]; exact c1 (1 + k)
    split
    · refine ⟨by omega, by decide, fun r r0 r1 => ?_⟩
      obtain ⟨k, rfl⟩ : ∃ k : Nat, r = (k : Int) := ⟨r.toNat, by omega⟩
      obtain ⟨d1, d2⟩ := dig_lod k (by omega)
      refine ⟨by omega, ?_, h _ ?_⟩
      · have d3 : (Str.ofString (toString (k : Int))).length ≤ 3 := d2
        omega
      · refine nm_ext h0 (k := 4) (by decide) (t := (toString (k : Int) : Str).cps.toList) d1 ?_ ?_
        · rw [← len_cps]; omega
        · rw [app_cps]
          exact congrArg (· ++ (toString (k : Int) : Str).cps.toList) (c1 4)
    split
    · refine ⟨by decide, fun r r0 r1 => h _ (nm_of (c := sg (r % 36).toNat) (cs := []) (one_cps _) (sg_let (by omega)) rfl (by decide))⟩
    split
    · refine ⟨by decide, by decide, by decide, fun x hx => ?_⟩
      have ww : ∀ t ∈ (["in", "box", "shelf", "nailed", "sealed", "then", "into", "not", "end", "else", "like", "within", "claim"] : List Str), nmB t = true := by decide +kernel
      have hx' : x ∈ (["in", "box", "shelf", "nailed", "sealed", "then", "into", "not", "end", "else", "like", "within", "claim"] : List Str).map DV.str := hx
      obtain ⟨t, ht, rfl⟩ := List.mem_map.mp hx'
      exact h t (ww t ht)
    · exact h
  · exact h.elim
def w_shuffled : WS :=
  (wSeq (wAsgO 2 (fList (wVP 1)))
    (wSeq (wAsgO 3 (fL aN))
    (wSeq (wFor (iR1 (aC (wCB dLen (aC (wVP 1) aN)) aN)) (gN 4) (wAppPop 3 2 (wCall s_take (aC (wV 0) (aC (wCB dLen (aC (wVP 2) aN)) aN)))))
    (wRet (wV 3)))))
end DL
namespace DL
open PySem PySem.Spec PyProof.Rows L2 NW
local macro_rules | `(tactic| walk_at "dl1") => `(tactic| simp only [wTry, wAsgX, wDropX, wKd, wXf, wSeq, wAsg, wAsgO, wRet, wIfS, wNx, wPass, wBk, wCt, wDrop, wAug, wApp, wAppPop, wPop, wFor, wFz, wV, wVP, atV, atP, atO, wC, wOp, wCall, wCallN, wCB, aC, aN, wL, wTu, fL, wF, fCat, fList, wTB, wTru, wAnd, wOr, wNot, wAndV, wOrV, wNotV, wIf, wChain, wIsN, wNeg, dNeg, wSl, pN, pP, dSl, wLrev, dLrev, wIsi, wIsi2, iL, iT, iV, iS, iR1, iR2, gN, fLc, wYes, wiL,
  dAdd, dSub, dMul, dMulS, dMulL, dDiv, dMod, dLt, dLe, dGt, dGe, dEq, dNe, eqD, dIn, dNi, dIx, dTru, isNon, dLen, dInt, dAbs, dMax, dMin, dList, dTup, dStr, dIAdd, frzE, frz1, startD, List.map_cons, List.map_nil, List.length_cons, List.length_nil, List.replicate_succ, List.replicate_zero, List.cons_append, List.nil_append, List.append_nil, List.getElem?_cons_zero, List.getElem?_cons_succ, List.set_cons_zero, List.set_cons_succ, Nat.reduceSub, Nat.reduceAdd, if_true, if_false, ite_true, ite_false, reduceIte, Bool.false_eq_true, decide_true, decide_false, Bool.not_true, Bool.not_false, Bool.not_eq_true', decide_eq_true_eq, decide_eq_false_iff_not, isi_int_int, isi_int_bool, isi_bl_int, isi_bl_bool, isi_non_int, isi_non_bool, isi_str_int, isi_str_bool, isi_str_str, isi_lst_list, isi_tup_tuple, Option.some.injEq, exists_eq_left', exists_eq_left, DV.int.injEq, DV.str.injEq, DV.bl.injEq, List.cons.injEq, and_true, true_and])
local macro_rules | `(tactic| walk_at "dl") => `(tactic| try walk_at "dl1")
local macro_rules | `(tactic| walk_at "go") => `(tactic| repeat' (first
  | (intro _)
  | walk_at "dl1"
  | (refine ⟨by first | decide | omega, ?_⟩)
  | split))
/-- by data: one positional value, one keyword -/
def gCat (vs zs : List V) : List V := vs ++ zs
def wCallK (s : DS2) (r rk : WA) : WE := fun ρ R => r ρ fun ds => rk ρ fun ks => ds.length = 1 ∧ ks.length = 1 ∧ s (ds ++ ks) R fun _ => False
def wDropK (s : DS2) (r rk : WA) : WS := fun E ρ => r ρ fun ds => rk ρ fun ks => ds.length = 1 ∧ ks.length = 1 ∧ s (ds ++ ks) (fun _ => E.nx ρ) fun x => E.xc x ρ
end DL
namespace DL
open PySem PySem.Spec PyProof.Rows L2 NW
def hasK (ks : List Key) (k : Key) : Bool := ks.any fun k' => decide (k' = k)
theorem hasK_iff {ks : List Key} {k : Key} : hasK ks k = true ↔ k ∈ ks := by
  unfold hasK
  rw [List.any_eq_true]
  constructor
  · rintro ⟨x, hx, e⟩; rw [← of_decide_eq_true e]; exact hx
  · intro h; exact ⟨k, h, decide_eq_true rfl⟩
def putKs (ks : List Key) (k : Key) : List Key := if hasK ks k = true then ks else ks ++ [k]
def putXs (ks : List Key) (xs : List DV) (k : Key) (v : DV) : List DV := if hasK ks k = true then List.zipWith (fun k' x => if k' = k then v else x) ks xs else xs ++ [v]
theorem any_key (kvs : List (Key × V)) (k : Key) : (kvs.any fun kv => decide (kv.1 = k)) = hasK (kvs.map (·.1)) k := by
  unfold hasK
  rw [List.any_map]
  rfl
theorem put_keys (kvs : List (Key × V)) (k : Key) (v : V) : (putK kvs k v).map (·.1) = putKs (kvs.map (·.1)) k := by
  unfold putK putKs
  rw [any_key]
  split
  · rw [List.map_map]
    refine List.map_congr_left fun x _ => ?_
    show (if x.1 = k then (x.1, v) else x).1 = x.1
    split <;> rfl
  · rw [List.map_append]
    rfl
theorem putKs_nodup {ks : List Key} {k : Key} (h : ks.Nodup) : (putKs ks k).Nodup := by
  unfold putKs
  split
  · exact h
  · rename_i n
    rw [List.nodup_append]
    exact ⟨h, List.pairwise_singleton _ _, fun a ha b hb e => n (hasK_iff.mpr (by rw [List.mem_singleton.mp hb] at e; rw [← e]; exact ha))⟩
section
variable {W : Wd} {H : Hp}
theorem iss_zip {k : Key} {v : V} {d : DV} (hv : Is W H v d) : ∀ {kvs : List (Key × V)} {xs : List DV}, Iss W H (kvs.map (·.2)) xs → Iss W H ((kvs.map fun kv => if kv.1 = k then (kv.1, v) else kv).map (·.2)) (List.zipWith (fun k' x => if k' = k then d else x) (kvs.map (·.1)) xs)
  | [], _, h => by cases h; exact .nil
  | p :: kvs, _, h => by
    cases h with
    | cons h1 h2 =>
      refine .cons ?_ (iss_zip hv h2)
      by_cases e : p.1 = k
      · show Is W H (if p.1 = k then (p.1, v) else p).2 (if p.1 = k then d else _)
        rw [if_pos e, if_pos e]; exact hv
      · show Is W H (if p.1 = k then (p.1, v) else p).2 (if p.1 = k then d else _)
        rw [if_neg e, if_neg e]; exact h1
theorem put_iss {kvs : List (Key × V)} {xs : List DV} {k : Key} {v : V} {d : DV} (h : Iss W H (kvs.map (·.2)) xs) (hv : Is W H v d) : Iss W H ((putK kvs k v).map (·.2)) (putXs (kvs.map (·.1)) xs k d) := by
  unfold putK putXs
  rw [any_key]
  split
  · exact iss_zip hv h
  · rw [List.map_append]
    exact h.app (.cons hv .nil)
end
def asK (d : DV) (R : Key → Prop) : Prop := match d with
  | .int i => R (.inl i)
  | .str s => R (.inr s)
  | _ => False
theorem asK_ex {d : DV} {R : Key → Prop} (h : asK d R) : ∃ k, R k ∧ ∀ {W : Wd} {H : Hp} {v : V}, Is W H v d → v = kV k := by
  unfold asK at h
  split at h
  · exact ⟨_, h, fun i => by cases i; rfl⟩
  · exact ⟨_, h, fun i => by cases i; rfl⟩
  · exact h.elim
def atD (R : List Key → List DV → Prop) : Option Sl → Prop
  | some (.od ks xs) => R ks xs
  | _ => False
theorem atD_ex {R : List Key → List DV → Prop} {o : Option Sl} (h : atD R o) : ∃ ks xs, o = some (.od ks xs) ∧ R ks xs := by
  unfold atD at h
  split at h
  · exact ⟨_, _, rfl, h⟩
  · exact h.elim
/-- a dict that is read: one's own, or data -/
def atDR (R : List Key → List DV → Prop) : Option Sl → Prop
  | some (.od ks xs) => R ks xs
  | some (.dt (.dic ks xs)) => R ks xs
  | _ => False
theorem atDR_ex {R : List Key → List DV → Prop} {o : Option Sl} (h : atDR R o) : ∃ ks xs, (o = some (.od ks xs) ∨ o = some (.dt (.dic ks xs))) ∧ R ks xs := by
  unfold atDR at h
  split at h
  · exact ⟨_, _, .inl rfl, h⟩
  · exact ⟨_, _, .inr rfl, h⟩
  · exact h.elim
theorem IsE.dd {W : Wd} {own : Nat → Option Addr} {H : Hp} {σ : L2.St} {ρ : Env} {i : Nat} {ks : List Key} {xs : List DV} (h : IsE W own H σ ρ) (e : ρ[i]? = some (.od ks xs) ∨ ρ[i]? = some (.dt (.dic ks xs))) :
    ∃ p kvs, σ[i]? = some (some (.ref p)) ∧ Rd H p (.dK kvs) ∧ kvs.map (·.1) = ks ∧ Iss W H (kvs.map (·.2)) xs := by
  rcases e with e | e
  · obtain ⟨p, kvs, g1, g2, g3, ⟨g4, g6, g7⟩, g5⟩ := h.od i ks xs e
    exact ⟨p, kvs, g2, .inl g3, g6, g5⟩
  · obtain ⟨v, g1, g2⟩ := h.dt i _ e
    cases g2 with
    | dic a1 a2 a3 a4 a5 a6 => exact ⟨_, _, g1, a1, a4, a6⟩
theorem valV_mem {kvs : List (Key × V)} {k : Key} : (valV kvs k).isSome = hasK (kvs.map (·.1)) k := by
  rw [← valV_any, any_key]
section
variable {Ex : L2.WX} {X : Cx} {e a : Expr} {w wk wv : WE} {st : Stmt} {i : Nat}
/-- x = {} -/
def wAsgD (i : Nat) : WS := fun E ρ => E.nx (ρ.set i (.od [] []))
theorem dasgD (i : Nat) (h : PS X st (tAsg tDNewK (gName i))) : PS X st (liftS Ex (wAsgD i)) := ps_weak h fun D σ H q => by
  obtain ⟨B, own, ρ, E, c, h, d⟩ := q
  intro p hp
  exact d.nx _ _ _ _ h (c.setD (kv := []) i hp ⟨Nat.zero_le _, rfl, List.nodup_nil⟩ .nil)
/-- x[k] = v -/
def wPutD (i : Nat) (wk wv : WE) : WS := fun E ρ => atD (fun ks xs => wv ρ fun v => wk ρ fun k => asK k fun kk => ks.length < 1000000 ∧ E.nx (ρ.set i (.od (putKs ks kk) (putXs ks xs kk v)))) ρ[i]?
theorem dputD (i : Nat) (h : PS X st (sDPut (tVar i) (lift wk) (lift wv))) : PS X st (liftS Ex (wPutD i wk wv)) := ps_weak h fun D σ H q => by
  obtain ⟨B, own, ρ, E, c, h, d⟩ := q
  obtain ⟨ks, xs, hx, h⟩ := atD_ex h
  refine ⟨B.w own, own, ρ, _, c.ok, c.e, h, fun dv v H1 r1 k1 o1 i1 => ?_⟩
  obtain ⟨p, kvs, g1, g2, g3, g4, g5⟩ := c.e.od i ks xs hx
  refine ⟨.ref p, g2, B.w own, own, ρ, _, o1, c.e.mono c.ok k1, r1, fun dk u H2 r2 k2 o2 i2 => ?_⟩
  obtain ⟨kk, ⟨hl, r2⟩, ek⟩ := asK_ex r2
  obtain rfl := ek i2
  have c2 := c.mono (k1.trans k2) o2
  obtain ⟨p', kvs', f1, f2, f3, ⟨f4, f6, f7⟩, f5⟩ := c2.e.od i ks xs hx
  rw [g1] at f1; cases f1
  have ll : kvs'.length < 1000000 := by
    rw [← f6, List.length_map] at hl; exact hl
  have hi : Iss (B.w own) H2 ((putK kvs' kk v).map (·.2)) (putXs ks xs kk dv) := by
    have z := put_iss (k := kk) f5 (i1.mono k2)
    rw [f6] at z
    exact z
  refine ⟨p, _, rfl, DPut.k f3 (Nat.lt_of_lt_of_le ll (by decide)), ?_⟩
  exact d.nx own _ _ _ r2 (c2.updD i g1 hx ⟨Nat.le_trans (length_putK _ _ _) ll, by rw [put_keys, f6], putKs_nodup f7⟩ hi)
/-- y in x, y not in x -/
def wInOD (n : Bool) (w : WE) (i : Nat) : WE := fun ρ R => atDR (fun ks _ => w ρ fun d => asK d fun k => R (.bl (if n then !hasK ks k else hasK ks k))) ρ[i]?
theorem in_tr {te : TE} {n : Bool} (ht : ∀ σ H Q, (lift w σ H fun y H1 => tVar i σ H1 fun x H2 => ∃ a o, x = .ref a ∧ DGet H2 a y o ∧ Q (.bl (if n then !o.isSome else o.isSome)) H2) → te σ H Q) : ∀ σ H Q, lift (wInOD n w i) σ H Q → te σ H Q := fun σ H Q q => ht σ H Q (by
  obtain ⟨W, own, ρ, R, o, ie, z, f⟩ := q
  obtain ⟨ks, xs, hx, h⟩ := atDR_ex z
  refine ⟨W, own, ρ, _, o, ie, h, fun d v H1 r1 k1 o1 i1 => ?_⟩
  obtain ⟨k, r1, ek⟩ := asK_ex r1
  obtain rfl := ek i1
  obtain ⟨p, kvs, g2, g3, g6, g5⟩ := (ie.mono o k1).dd hx
  refine ⟨.ref p, g2, p, _, rfl, .inl ⟨kvs, k, g3, rfl, rfl⟩, ?_⟩
  rw [valV_mem, g6]
  exact f _ _ _ r1 k1 o1 (.bl _))
/-- len(x) -/
theorem call_lenR {X : Cx} : CallR X (.builtin "len") (fun xs H Q => ∃ a kvs, xs = [V.ref a] ∧ Rd H a (.dK kvs) ∧ Q (.int kvs.length) H) := by
  intro pins s σ H xs us Q I r h
  obtain ⟨a, kvs, rfl, ha, q⟩ := h
  obtain ⟨u, rfl, ru⟩ := vals1 r
  cases ru
  exact d_len I ha fun t s' I' => ⟨.int kvs.length, H, I', ⟨t, rfl⟩, q⟩
def wLenOD (i : Nat) : WE := fun ρ R => atDR (fun ks _ => R (.int (ks.length : Nat))) ρ[i]?
theorem hu_of {k : Nat} {A : Around} (h : Room k A) : A.units + 1 < cLine := by have := h.un; omega
end
end DL
namespace DL
open PySem PySem.Spec PyProof.Rows L2 NW
section
variable {X : Cx} {e a : Expr} {w : WE} {i : Nat} {r : WA} {kws : List Keyword} {nm : Option Str} {kpos : Pos}
theorem dtOD {n : Bool} {te : TE} (hw : ∀ σ H Q, lift (wInOD n w i) σ H Q → te σ H Q) (h : PT X e (tB te)) : PT X e (liftT (wTB (wInOD n w i))) := pt_weak h fun σ H Q q => hw σ H _ (by
  obtain ⟨W, own, ρ, R, o, i, z, f⟩ := q
  refine ⟨W, own, ρ, _, o, i, z, fun d v H' r k o' i' => ?_⟩
  split at r
  · cases i'
    exact ⟨_, rfl, f _ _ r k o'⟩
  · exact r.elim)
theorem dtinOD (h : PT X e (tB (tDIn (lift w) (tVar i)))) : PT X e (liftT (wTB (wInOD false w i))) := dtOD (in_tr (n := false) fun _ _ _ z => z) h
theorem pk_weak {t t' : TA} (h : PK X kws t) (w : ∀ σ H Q, t' σ H Q → t σ H Q) : PK X kws t' := ⟨fun p pins s σ H Q I q => h.run p pins s σ H Q I (w σ H Q q)⟩
theorem dkn : PK X [] (liftA aN) := pk_weak pk_nil fun σ H Q q => by
  obtain ⟨W, own, ρ, R, o, _, r, f⟩ := q
  exact f _ _ _ r (Kp.refl _ _) o .nil
theorem dkc (ha : PE X e (lift w)) (hr : PK X kws (liftA r)) : PK X (⟨nm, e, kpos⟩ :: kws) (liftA (aC w r)) := pk_weak (pk_cons ha hr) fun σ H Q q => by
  obtain ⟨W, own, ρ, R, o, i, z, f⟩ := q
  refine ⟨W, own, ρ, _, o, i, z, fun d v H1 r1 k1 o1 i1 => ⟨W, own, ρ, _, o1, i.mono o k1, r1, fun ds vs H2 r2 k2 o2 i2 => ?_⟩⟩
  exact f _ _ _ r2 (k1.trans k2) o2 (.cons (i1.mono k2) i2)
end
section
variable {X : Cx} {e : Expr} {r : WA} {s : DS2}
def wCallD (s : DS2) (dd : List DV) (r : WA) : WE := fun ρ R => r ρ fun ds => s (ds ++ dd) R fun _ => False
end
def W0of (W : Wd) (own : Nat → Option Addr) : Wd := ⟨W.st, fun a => W.hid a ∧ ¬ ∃ i : Nat, own i = some a⟩
theorem w0of_sub {W : Wd} {own : Nat → Option Addr} : ∀ a, (W0of W own).hid a → W.hid a := fun _ h => h.1
theorem isE_all {W : Wd} {own : Nat → Option Addr} {H : Hp} {σ : L2.St} {ρ : Env} (o : W.Ok H) (h : IsE W own H σ ρ) : IsE (W0of W own) (fun _ => none) H σ (frzE ρ) := by
  have okA : ∀ i a, own i = some a → (W0of W own).ok a := fun i a e => ⟨(o.h a (h.hd i a e)).2, fun z => z.2 ⟨i, e⟩⟩
  refine ⟨?_, fun i d e => ?_, fun i xs e => ?_, fun i ks xs e => ?_, fun i A C ns xs e => ?_, fun _ _ z => nomatch z⟩
  · unfold frzE; rw [List.length_map]; exact h.len
  · unfold frzE at e
    rw [List.getElem?_map] at e
    cases z : ρ[i]? with
    | none => rw [z] at e; cases e
    | some s =>
      rw [z] at e
      have e : frz1 s = .dt d := Option.some.inj e
      cases s with
      | un => cases e
      | dt d' =>
        cases e
        obtain ⟨v, h1, h2⟩ := h.dt i d z
        exact ⟨v, h1, Is.less (W := W) (W' := W0of W own) rfl w0of_sub h2⟩
      | ow xs =>
        cases e
        obtain ⟨a, vs, h1, h2, h3, h4, h5⟩ := h.ow i xs z
        exact ⟨_, h2, .lst h3 (okA i a h1) h4 (Iss.less (W := W) (W' := W0of W own) rfl w0of_sub h5)⟩
      | od ks xs =>
        cases e
        obtain ⟨a, kvs, h1, h2, h3, h4, h5⟩ := h.od i ks xs z
        exact ⟨_, h2, .dic (.inl h3) (okA i a h1) h4.1 h4.2.1 h4.2.2 (Iss.less (W := W) (W' := W0of W own) rfl w0of_sub h5)⟩
      | oi A C ns xs =>
        cases e
        obtain ⟨a, fs, h1, h2, ⟨dx, h3⟩, h4, h5⟩ := h.oi i A C ns xs z
        exact ⟨_, h2, .obj h3 (okA i a h1) h4.2.1 (Iss.less (W := W) (W' := W0of W own) rfl w0of_sub h5)⟩
  · unfold frzE at e
    rw [List.getElem?_map] at e
    cases z : ρ[i]? with
    | none => rw [z] at e; cases e
    | some s =>
      rw [z] at e
      cases s <;> cases (Option.some.inj e)
  · unfold frzE at e
    rw [List.getElem?_map] at e
    cases z : ρ[i]? with
    | none => rw [z] at e; cases e
    | some s =>
      rw [z] at e
      cases s <;> cases (Option.some.inj e)
  · unfold frzE at e
    rw [List.getElem?_map] at e
    cases z : ρ[i]? with
    | none => rw [z] at e; cases e
    | some s =>
      rw [z] at e
      cases s <;> cases (Option.some.inj e)
theorem ok_keep {W : Wd} {H H' : Hp} (o : W.Ok H) (k : Kp W.st H H') (s : StoW W.st H') : W.Ok H' := ⟨s, fun a ha => by
  obtain ⟨⟨u, hu⟩, n⟩ := o.h a ha
  exact ⟨⟨u, k.o hu n⟩, n⟩⟩
def wCallB (s : DS1) (r : WA) : WE := fun ρ R => r (frzE ρ) fun ds => s ds fun d => ∃ b, d = .bl b ∧ R (.bl b)
section
variable {X : Cx} {e : Expr} {r : WA} {s : DS1}
theorem dcallB (h : PE X e (tCall (dsp s) [] E0 (liftA r))) : PE X e (lift (wCallB s r)) := pe_weak h fun σ H Q q => by
  obtain ⟨W, own, ρ, R, o, i, z, f⟩ := q
  refine ⟨W0of W own, fun _ => none, frzE ρ, _, ok_less (W := W) (W' := W0of W own) rfl w0of_sub o, isE_all o i, z, fun ds vs H1 r1 k1 o1 i1 => ?_⟩
  show dsp s (vs ++ []) H1 Q E0
  rw [List.append_nil]
  refine ⟨W0of W own, ds, _, o1, i1, r1, fun d v H2 r2 k2 o2 i2 => ?_⟩
  obtain ⟨b, rfl, r2⟩ := r2
  cases i2
  exact f _ _ H2 r2 (k1.trans k2) (ok_keep o (k1.trans k2) o2.s) (.bl b)
end
end DL
namespace DL
open PySem PySem.Spec PyProof.Rows L2 NW
local macro_rules | `(tactic| walk_at "dl1") => `(tactic| simp only [wAsgD, wPutD, atD, atDR, asK, wInOD, wLenOD, fCallN, wCallB, wCallK, wCallD, wDropK, frzE, frz1, wTry, wAsgX, wDropX, wKd, wXf, wSeq, wAsg, wAsgO, wRet, wIfS, wNx, wPass, wBk, wCt, wDrop, wAug, wApp, wAppPop, wPop, wFor, wFz, wV, wVP, atV, atP, atO, wC, wOp, wCall, wCallN, wCB, aC, aN, wL, wTu, fL, wF, fCat, fList, wTB, wTru, wAnd, wOr, wNot, wAndV, wOrV, wNotV, wIf, wChain, wIsN, wNeg, dNeg, wSl, pN, pP, dSl, wLrev, dLrev, wIsi, wIsi2, iL, iT, iV, iS, iR1, iR2, gN, fLc, wYes, wiL,
  dAdd, dSub, dMul, dMulS, dMulL, dDiv, dMod, dLt, dLe, dGt, dGe, dEq, dNe, eqD, dIn, dNi, dIx, dTru, isNon, dLen, dInt, dAbs, dMax, dMin, dList, dTup, dStr, dIAdd, frzE, frz1, startD, List.map_cons, List.map_nil, List.length_cons, List.length_nil, List.replicate_succ, List.replicate_zero, List.cons_append, List.nil_append, List.append_nil, List.getElem?_cons_zero, List.getElem?_cons_succ, List.set_cons_zero, List.set_cons_succ, Nat.reduceSub, Nat.reduceAdd, if_true, if_false, ite_true, ite_false, reduceIte, Bool.false_eq_true, decide_true, decide_false, Bool.not_true, Bool.not_false, Bool.not_eq_true', decide_eq_true_eq, decide_eq_false_iff_not, isi_int_int, isi_int_bool, isi_bl_int, isi_bl_bool, isi_non_int, isi_non_bool, isi_str_int, isi_str_bool, isi_str_str, isi_lst_list, isi_tup_tuple, Option.some.injEq, exists_eq_left', exists_eq_left, DV.int.injEq, DV.str.injEq, DV.bl.injEq, List.cons.injEq, and_true, true_and])
local macro_rules | `(tactic| walk_at "dl") => `(tactic| try walk_at "dl1")
local macro_rules | `(tactic| walk_at "go") => `(tactic| repeat' (first
  | (intro _)
  | walk_at "dl1"
  | (refine ⟨by first | decide | omega, ?_⟩)
  | split))
def leS (a b : Str) : Prop := a.cps.toList ≤ b.cps.toList
theorem leS_trans {a b c : Str} (h : leS a b) (g : leS b c) : leS a c := List.le_trans h g
theorem leS_anti {a b : Str} (h : leS a b) (g : leS b a) : a = b := Str.ext' (List.le_antisymm h g)
theorem rising_pw : ∀ (r : List Str) (p : Str), risingS p r = true → (p :: r).Pairwise leS
  | [], p, _ => List.pairwise_singleton _ _
  | x :: r, p, h => by
    unfold risingS at h
    rw [Bool.and_eq_true, Bool.not_eq_true', ltCps_eq, decide_eq_false_iff_not] at h
    have ih := rising_pw r x h.2
    have hx : leS p x := List.not_lt.mp h.1
    refine List.pairwise_cons.mpr ⟨fun y hy => ?_, ih⟩
    rcases List.mem_cons.mp hy with rfl | hy
    · exact hx
    · exact leS_trans hx ((List.pairwise_cons.mp ih).1 y hy)
theorem sorted_pw : ∀ {r : List Str}, sortedS r = true → r.Pairwise leS
  | [], _ => List.Pairwise.nil
  | x :: r, h => rising_pw r x h
theorem sorted_one {a b : List Str} (ha : sortedS a = true) (hb : sortedS b = true) (p : a.Perm b) : a = b := p.eq_of_pairwise (fun _ _ _ _ => leS_anti) (sorted_pw ha) (sorted_pw hb)
end DL
namespace DL
open PySem PySem.Spec PyProof.Rows L2 NW
local macro_rules | `(tactic| walk_at "dl1") => `(tactic| simp only [wAsgD, wPutD, atD, atDR, asK, wInOD, wLenOD, fCallN, wCallB, wCallK, wCallD, wDropK, frzE, frz1, wTry, wAsgX, wDropX, wKd, wXf, wSeq, wAsg, wAsgO, wRet, wIfS, wNx, wPass, wBk, wCt, wDrop, wAug, wApp, wAppPop, wPop, wFor, wFz, wV, wVP, atV, atP, atO, wC, wOp, wCall, wCallN, wCB, aC, aN, wL, wTu, fL, wF, fCat, fList, wTB, wTru, wAnd, wOr, wNot, wAndV, wOrV, wNotV, wIf, wChain, wIsN, wNeg, dNeg, wSl, pN, pP, dSl, wLrev, dLrev, wIsi, wIsi2, iL, iT, iV, iS, iR1, iR2, gN, fLc, wYes, wiL,
  dAdd, dSub, dMul, dMulS, dMulL, dDiv, dMod, dLt, dLe, dGt, dGe, dEq, dNe, eqD, dIn, dNi, dIx, dTru, isNon, dLen, dInt, dAbs, dMax, dMin, dList, dTup, dStr, dIAdd, frzE, frz1, startD, List.map_cons, List.map_nil, List.length_cons, List.length_nil, List.replicate_succ, List.replicate_zero, List.cons_append, List.nil_append, List.append_nil, List.getElem?_cons_zero, List.getElem?_cons_succ, List.set_cons_zero, List.set_cons_succ, Nat.reduceSub, Nat.reduceAdd, if_true, if_false, ite_true, ite_false, reduceIte, Bool.false_eq_true, decide_true, decide_false, Bool.not_true, Bool.not_false, Bool.not_eq_true', decide_eq_true_eq, decide_eq_false_iff_not, isi_int_int, isi_int_bool, isi_bl_int, isi_bl_bool, isi_non_int, isi_non_bool, isi_str_int, isi_str_bool, isi_str_str, isi_lst_list, isi_tup_tuple, Option.some.injEq, exists_eq_left', exists_eq_left, DV.int.injEq, DV.str.injEq, DV.bl.injEq, List.cons.injEq, and_true, true_and])
local macro_rules | `(tactic| walk_at "dl") => `(tactic| try walk_at "dl1")
local macro_rules | `(tactic| walk_at "go") => `(tactic| repeat' (first
  | (intro _)
  | walk_at "dl1"
  | (refine ⟨by first | decide | omega, ?_⟩)
  | split))
end DL
namespace DL
open PySem PySem.Spec PyProof.Rows L2 NW
local macro_rules | `(tactic| walk_at "dl1") => `(tactic| simp only [wAsgD, wPutD, atD, atDR, asK, wInOD, wLenOD, fCallN, wCallB, wCallK, wCallD, wDropK, frzE, frz1, wTry, wAsgX, wDropX, wKd, wXf, wSeq, wAsg, wAsgO, wRet, wIfS, wNx, wPass, wBk, wCt, wDrop, wAug, wApp, wAppPop, wPop, wFor, wFz, wV, wVP, atV, atP, atO, wC, wOp, wCall, wCallN, wCB, aC, aN, wL, wTu, fL, wF, fCat, fList, wTB, wTru, wAnd, wOr, wNot, wAndV, wOrV, wNotV, wIf, wChain, wIsN, wNeg, dNeg, wSl, pN, pP, dSl, wLrev, dLrev, wIsi, wIsi2, iL, iT, iV, iS, iR1, iR2, gN, fLc, wYes, wiL,
  dAdd, dSub, dMul, dMulS, dMulL, dDiv, dMod, dLt, dLe, dGt, dGe, dEq, dNe, eqD, dIn, dNi, dIx, dTru, isNon, dLen, dInt, dAbs, dMax, dMin, dList, dTup, dStr, dIAdd, frzE, frz1, startD, List.map_cons, List.map_nil, List.length_cons, List.length_nil, List.replicate_succ, List.replicate_zero, List.cons_append, List.nil_append, List.append_nil, List.getElem?_cons_zero, List.getElem?_cons_succ, List.set_cons_zero, List.set_cons_succ, Nat.reduceSub, Nat.reduceAdd, if_true, if_false, ite_true, ite_false, reduceIte, Bool.false_eq_true, decide_true, decide_false, Bool.not_true, Bool.not_false, Bool.not_eq_true', decide_eq_true_eq, decide_eq_false_iff_not, isi_int_int, isi_int_bool, isi_bl_int, isi_bl_bool, isi_non_int, isi_non_bool, isi_str_int, isi_str_bool, isi_str_str, isi_lst_list, isi_tup_tuple, Option.some.injEq, exists_eq_left', exists_eq_left, DV.int.injEq, DV.str.injEq, DV.bl.injEq, List.cons.injEq, and_true, true_and])
local macro_rules | `(tactic| walk_at "dl") => `(tactic| try walk_at "dl1")
local macro_rules | `(tactic| walk_at "go") => `(tactic| repeat' (first
  | (intro _)
  | walk_at "dl1"
  | (refine ⟨by first | decide | omega, ?_⟩)
  | split))
def ts (k : Nat) : Str := toString (k : Int)
end DL
namespace DL
open PySem PySem.Spec PyProof.Rows L2 NW
local macro_rules | `(tactic| walk_at "dl1") => `(tactic| simp only [wAsgD, wPutD, atD, atDR, asK, wInOD, wLenOD, fCallN, wCallB, wCallK, wCallD, wDropK, frzE, frz1, wTry, wAsgX, wDropX, wKd, wXf, wSeq, wAsg, wAsgO, wRet, wIfS, wNx, wPass, wBk, wCt, wDrop, wAug, wApp, wAppPop, wPop, wFor, wFz, wV, wVP, atV, atP, atO, wC, wOp, wCall, wCallN, wCB, aC, aN, wL, wTu, fL, wF, fCat, fList, wTB, wTru, wAnd, wOr, wNot, wAndV, wOrV, wNotV, wIf, wChain, wIsN, wNeg, dNeg, wSl, pN, pP, dSl, wLrev, dLrev, wIsi, wIsi2, iL, iT, iV, iS, iR1, iR2, gN, fLc, wYes, wiL,
  dAdd, dSub, dMul, dMulS, dMulL, dDiv, dMod, dLt, dLe, dGt, dGe, dEq, dNe, eqD, dIn, dNi, dIx, dTru, isNon, dLen, dInt, dAbs, dMax, dMin, dList, dTup, dStr, dIAdd, frzE, frz1, startD, List.map_cons, List.map_nil, List.length_cons, List.length_nil, List.replicate_succ, List.replicate_zero, List.cons_append, List.nil_append, List.append_nil, List.getElem?_cons_zero, List.getElem?_cons_succ, List.set_cons_zero, List.set_cons_succ, Nat.reduceSub, Nat.reduceAdd, if_true, if_false, ite_true, ite_false, reduceIte, Bool.false_eq_true, decide_true, decide_false, Bool.not_true, Bool.not_false, Bool.not_eq_true', decide_eq_true_eq, decide_eq_false_iff_not, isi_int_int, isi_int_bool, isi_bl_int, isi_bl_bool, isi_non_int, isi_non_bool, isi_str_int, isi_str_bool, isi_str_str, isi_lst_list, isi_tup_tuple, Option.some.injEq, exists_eq_left', exists_eq_left, DV.int.injEq, DV.str.injEq, DV.bl.injEq, List.cons.injEq, and_true, true_and])
local macro_rules | `(tactic| walk_at "dl") => `(tactic| try walk_at "dl1")
local macro_rules | `(tactic| walk_at "go") => `(tactic| repeat' (first
  | (intro _)
  | walk_at "dl1"
  | (refine ⟨by first | decide | omega, ?_⟩)
  | split))
end DL
namespace NW
open PySem PySem.Spec PyProof.Rows L2
/-- the class at C has the method m, which keeps sp by level k -/
structure HasMAt (P : Program) (w : World) (K : PySem.W.Frag) (mg : Str → Option Value) (base : Heap) (C : Addr) (m : Str) (k : Nat) (ps : List Str) (sp : Sp) (f : Addr) (fd : FuncData) : Prop where
  m : Meth K C m f
  b : Binds K fd ps []
  ok : FnOk P w K mg base (L2N.CX P w) k f fd ps sp
def HasM (P : Program) (w : World) (K : PySem.W.Frag) (mg : Str → Option Value) (base : Heap) (C : Addr) (m : Str) (k : Nat) (ps : List Str) (sp : Sp) : Prop := ∃ f fd, HasMAt P w K mg base C m k ps sp f fd
/-- a property of it -/
structure HasPAt (P : Program) (w : World) (K : PySem.W.Frag) (mg : Str → Option Value) (base : Heap) (C : Addr) (m : Str) (k : Nat) (ps : List Str) (sp : Sp) (p g : Addr) (fd : FuncData) : Prop where
  p : PropOf K C m p g
  b : Binds K fd ps []
  ok : FnOk P w K mg base (L2N.CX P w) k g fd ps sp
def HasP (P : Program) (w : World) (K : PySem.W.Frag) (mg : Str → Option Value) (base : Heap) (C : Addr) (m : Str) (k : Nat) (ps : List Str) (sp : Sp) : Prop := ∃ p g fd, HasPAt P w K mg base C m k ps sp p g fd
section
variable {P : Program} {w : World} {K : PySem.W.Frag} {mg : Str → Option Value} {base : Heap} {C : Addr} {m : Str} {k : Nat} {ps : List Str} {sp sp' : Sp}
theorem HasM.weak (h : HasM P w K mg base C m k ps sp) (z : ∀ vs H Q E, sp' vs H Q E → sp vs H Q E) : HasM P w K mg base C m k ps sp' := by
  obtain ⟨f, fd, F⟩ := h
  exact ⟨f, fd, F.m, F.b, F.ok.imp z⟩
end
section
variable {X : Cx} {C : Addr} {m : Str} {k j : Nat} {ps : List Str} {sp : Sp} {p pos apos : Pos} {o e : Expr} {es : List Expr} {ta : TE} {t : TA}
theorem pe_dm {pl : Sem Bool} (c : Cls X.K C) (h : HasM X.prog X.w X.K X.mg X.base C m k ps sp) (hr : Room j X.A) (he : PE X o ta) (ha : PA X (e :: es) t) (hk : k ≤ j := by decide)
    (hst : starEach (e :: es) X.env = (false, eval e X.env) :: starEach es X.env := by rfl) (hpl : (backTo pos (starEach es X.env)).any (·.1) = false := by rfl)
    (ht : eval (.Call (.Attribute o m apos) (e :: es) [] pos) X.env = (do
      let ov ← eval o X.env
      standAt apos.atName
      let (f, first) ← holding [ov] (getMethod ov m pl)
      callWith pos f first (backTo pos (starEach (e :: es) X.env)) (backToKw pos (keywordEach [] X.env))) := by rfl) : PE X (.Call (.Attribute o m apos) (e :: es) [] pos) (tMeth C m sp [] E0 ta t) := by
  obtain ⟨f, fd, F⟩ := h
  exact pe_meth he c F.m F.ok (hr.mono hk) F.b .nil passN ha hst hpl ht
theorem pe_dp (c : Cls X.K C) (h : HasP X.prog X.w X.K X.mg X.base C m k ps sp) (hr : Room j X.A) (he : PE X o ta) (hk : k + 1 ≤ j := by decide) (hab : attributeBase o m X.env (eval o X.env) = eval o X.env := by rfl) : PE X (.Attribute o m pos) (tProp C sp [] E0 ta) := by
  obtain ⟨q, g, fd, F⟩ := h
  exact pe_prop he c F.p F.ok (hr.mono hk) F.b .nil passN hab
end
/-- a tuple's iterator -/
def ItT (t it : Addr) (i : Nat) : HO := .ext fun h => h.IsTupleIter it t i
structure FnOkS (P : Program) (w : World) (K : PySem.W.Frag) (mg : Str → Option Value) (base : Heap) (k : Nat) (f : Addr) (fd : FuncData) (ps : List Str) (sp : Shared → Sp) : Prop where
  len : ∀ s vs H Q E, sp s vs H Q E → vs.length = ps.length
  run : ∀ (A : Around) (outer : List PySem.Env) (s : Shared) (H : Hp) (args : Args) (us : List Value) (vs : List V) (Q : VK) (E : XK), Room k A → Env0 P w K mg base A outer s H → BindsTo s fd args (ps.zip us) → Vals vs us → sp s vs H Q E →
    codeAny (model P w) A (.call (.ref f) args) (CR (L2N.CX P w) outer P w H s Q E) s
/-- __iter__ that gives the iterator of the tuple in the field x -/
def spIter (C : Addr) (x : Str) : Shared → Sp := fun s vs H Q _ => ∃ a dx fs t xs, vs = [.ref a] ∧ H a = some (.ins C dx fs) ∧ fs.lookup x = some (.ref t) ∧ H t = some (.tup xs) ∧ ∀ it, H it = none → s.heap.objs.size ≤ it → Q (.ref it) (upd H it (ItT t it 0))
structure HasItAt (P : Program) (w : World) (K : PySem.W.Frag) (mg : Str → Option Value) (base : Heap) (C : Addr) (k : Nat) (x : Str) (f : Addr) (fd : FuncData) : Prop where
  m : Meth K C "__iter__" f
  b : Binds K fd ["self"] []
  ok : FnOkS P w K mg base k f fd ["self"] (spIter C x)
def HasIt (P : Program) (w : World) (K : PySem.W.Frag) (mg : Str → Option Value) (base : Heap) (C : Addr) (k : Nat) (x : Str) : Prop := ∃ f fd, HasItAt P w K mg base C k x f fd
section
variable {prog : Program} {w : World} {A : Around} {E : Value → Shared → Prop} {s : Shared} {t : Addr} {items : Array Value}
theorem call_iterTup {Q : Value → Shared → Prop} (ht : s.heap.IsTuple t items) (h : ∀ h', h'.IsTupleIter s.heap.objs.size t 0 → (∀ b o, s.heap.get? b = some o → h'.get? b = some o) → Q (.ref s.heap.objs.size) { s with heap := h' }) : wpAny (model prog w) A (call (.builtin "iter") [.ref t]) Q E s := by
  refine Calls.call_function_entry (by decide +kernel) (by decide +kernel) PySem.W.kdk_entry_iter (PySem.W.kdk_args_iter _) ?_
  unfold Builtin.«iter»
  refine wpAny_bind (m := someArgs "iter" 1 2 _) (wpAny_of_eq (a := [Value.ref t]) (by first | rfl | kernel_rfl!) ?_)
  show wpAny _ _ (pyIter (.ref t) >>= _) _ _ _
  refine wpAny_bind (wpAny_pyIter_tuple ht ?_)
  exact wpAny_pure ⟨_, rfl, h _ ⟨_, Heap.get?_push_size _ rfl, rfl, rfl⟩ fun b o e => Heap.get?_push_of_some _ e⟩
end
section
variable {X : Cx}
def rIterT (n : Nat) : List V → Hp → VK → Prop := fun xs H Q => ∃ (t : Addr) (zs : List V), xs = [.ref t] ∧ H t = some (.tup zs) ∧ ∀ it, H it = none → n ≤ it → Q (.ref it) (upd H it (ItT t it 0))
theorem itT_ok {P : Program} {w : World} {H : Hp} {h : Heap} {t it : Addr} {i : Nat} (e : h.IsTupleIter it t i) : ObjOk P w H h it (ItT t it i) := ⟨e, let ⟨o, e', _, _⟩ := e; ⟨o, e'⟩, fun _ _ q k => q.at fun o e => k o e⟩
theorem call_iterT : CallR X (.builtin "iter") (rIterT X.s_0.heap.objs.size) := by
  intro pins s σ H xs us Q I r h
  obtain ⟨t, zs, rfl, hq, q⟩ := h
  obtain rfl := Vals.ref1 r
  obtain ⟨its, rv, pl, hz⟩ := I.tuple (.inl (.inl hq))
  refine call_iterTup (show s.heap.IsTuple t its.toArray from pl) fun h' hi k => ?_
  exact ⟨.ref s.heap.objs.size, _, I.laid (t' := s.toks) k (Nat.le_refl _) (itT_ok hi), rfl, q _ (I.hok.fresh (Nat.le_refl _)) I.sz⟩
end
section
variable {X : Cx} {C : Addr} {k j : Nat} {x : Str} {tg e : Expr} {te : TE}
/-- behind it the iterator is forgotten -/
def iOwn (K : PySem.W.Frag) (C : Addr) (x : Str) (te : TE) : TI := fun σ H R => te σ H fun y H1 => ∃ a dx fs t xs, y = .ref a ∧ H1 a = some (.ins C dx fs) ∧ fs.lookup x = some (.ref t) ∧ H1 t = some (.tup xs) ∧ R (Itt K t) H1
theorem pi_own (h : HasIt X.prog X.w X.K X.mg X.base C k x) (hr : Room j X.A) (he : PE X e te) (hk : k ≤ j := by decide) : PI X tg e (iOwn X.K C x te) := by
  refine ⟨fun pins s σ H R I h' => ?_⟩
  refine thn (he.run pins s σ H _ I h') fun u s1 ⟨y, H1, I1, ry, a, dx, fs, t, xs, ey, ea, el, et, q⟩ => ?_
  subst ey
  obtain rfl : u = Value.ref a := ry
  obtain ⟨f, fd, F⟩ := h
  obtain ⟨mA, O, _, _, _, _⟩ := ins_get I1.hok ea
  obtain ⟨od, J, _⟩ := O.look
  obtain ⟨mm, hF⟩ := I1.fr
  have sp : spIter C x s1 [.ref a] H1 (fun v H2 => ∃ it, v = .ref it ∧ H1 it = none ∧ s1.heap.objs.size ≤ it ∧ H2 = upd H1 it (ItT t it 0)) E0 := ⟨a, dx, fs, t, xs, rfl, ea, el, et, fun it hn hs => ⟨it, rfl, hn, hs, rfl⟩⟩
  refine PySem.W.owit_iter hF I1.ok.mod.kin J F.m.at_ F.m.fn (wpAny_call (codeAny_mono (F.ok.run X.A X.stack s1 H1 ⟨[.ref a], []⟩ [.ref a] [.ref a] _ E0 (hr.mono hk) I1.env0 (by
    have := F.b s1 [.ref a] I1.kIn rfl
    simpa using this) (.cons rfl .nil) sp) fun r s' hq => ?_))
  cases r with
  | error e => exact passN pins σ H1 s1 e s' I1 hq
  | ok fl =>
    cases fl with
    | ret w =>
      obtain ⟨v, H2, I2, rv, it, rfl, hn, hs, rfl⟩ := I1.after hq
      obtain rfl : w = Value.ref it := rv
      have hi : s'.heap.IsTupleIter it t 0 := (I2.hok it _ upd_same).1
      show PySem.W.OwitIt _ _ _ _ _ _
      unfold PySem.W.OwitIt
      refine wpAny_specialOf (name := Str.ofString "__next__") hi.typeIs slot_tupleiter_next.lookup ?_
      have I3 := ItX.inv_drop (φ := fun h => h.IsTupleIter it t 0) I2 upd_same
      rw [ItX.dropH_upd hn] at I3
      refine ⟨it, [it], _, _, H1, rfl, I3, turn_tuple t it, hi, fun b hb => ?_, q⟩
      have e : b = it := by simpa using hb
      rw [e]
      have z := ItX.inv_fp (u := ItT t it 0) I2 upd_same (Nat.le_trans I1.sz hs)
      rw [ItX.dropH_upd hn] at z
      exact z
    | next => exact False.elim hq
    | brk => exact False.elim hq
    | cont => exact False.elim hq
end
end NW
namespace NW
open PySem PySem.Spec PyProof.Rows L2
structure HasIAt (P : Program) (w : World) (K : PySem.W.Frag) (mg : Str → Option Value) (base : Heap) (C : Addr) (k : Nat) (ps : List Str) (dvs : List V) (sp : Sp) (f : Addr) (fd : FuncData) : Prop where
  m : Mk K C f
  b : Binds K fd ps []
  d : ∃ ds, Vals dvs ds ∧ Binds K fd ps ds
  ok : FnOk P w K mg base (L2N.CX P w) k f fd ps sp
def HasI (P : Program) (w : World) (K : PySem.W.Frag) (mg : Str → Option Value) (base : Heap) (C : Addr) (k : Nat) (ps : List Str) (dvs : List V) (sp : Sp) : Prop := ∃ f fd, HasIAt P w K mg base C k ps dvs sp f fd
section
variable {X : Cx} {C : Addr} {k j : Nat} {ps : List Str} {dvs : List V} {sp : Sp} {x : Str} {p pos : Pos} {e : Expr} {es : List Expr} {t : TA}
theorem pe_mi (h : HasI X.prog X.w X.K X.mg X.base C k ps dvs sp) (hm : X.mg x = some (.ref C)) (hr : Room j X.A) (ha : PA X (e :: es) t) (hk : k + 1 ≤ j := by decide) (hg : Gl X x := by rfl) (hdb : (x == ("__debug__" : Str)) = false := by decide)
    (he : starEach (e :: es) X.env = (false, eval e X.env) :: starEach es X.env := by rfl) (hpl : (backTo pos (starEach es X.env)).any (·.1) = false := by rfl) : PE X (.Call (.Name x p) (e :: es) [] pos) (tMake C sp [] E0 t) := by
  obtain ⟨f, fd, F⟩ := h
  exact pe_make F.m F.ok (hr.mono hk) hg hm F.b .nil passN ha hdb he hpl
end
section
variable {prog : Program} {w : World} {A : Around} {E : Value → Shared → Prop} {s : Shared}
theorem collect_tup {l : Addr} {vs : List Value} {Q : List Value → Shared → Prop} (hl : s.heap.IsTuple l vs.toArray)
    (h : Q vs { s with heap := (s.heap.push (seqObj "list" #[] 0)).update s.heap.objs.size (Obj.mapSeq (· ++ vs.toArray)) }) (hsz : vs.length ≤ sizeLine) :
    wpAny (model prog w) A (collect (.ref l)) Q E s := by
  obtain ⟨o, ho, hc, n, hd⟩ := id hl
  unfold collect
  refine wpAny_bind (wpAny_runValue (codeAny_builtin entry_proto_collect' ?_))
  show wpAny _ _ (do again (.builtin "list.__iadd__" ⟨[← newList [], .ref l], []⟩)) _ _ s
  refine wpAny_bind (wpAny_newList (wpAny_pure ⟨Code.quiet_builtin _ (by decide +kernel), codeAny_builtin entry_list_iadd' ?_⟩))
  show wpAny _ _ (Builtin.List.listExtendWith (.ref s.heap.objs.size) (.ref l) (.ref s.heap.objs.size)) _ _ { s with heap := s.heap.push (seqObj "list" #[] 0) }
  unfold Builtin.List.listExtendWith
  have ho' : (s.heap.push (seqObj "list" #[] 0)).get? l = some o := Heap.get?_push_of_some _ ho
  refine wpAny_bind (wpAny_typeOf (T := "tuple") ⟨o, ho', hc⟩ ?_)
  have ht : (Value.type "tuple" == Value.type "tuple") = true := by rfl
  rw [if_pos (by rw [ht]; simp)]
  refine wpAny_bind (listItems_at ho' hd ?_)
  refine wpAny_bind (listItems_at (xs := #[]) (n := 0) (Heap.get?_push_size _ rfl) rfl ?_)
  rw [if_neg (by simp)]
  refine wpAny_bind (listUpdate_at (xs := #[]) (n := 0) (Heap.get?_push_size _ rfl) rfl ?_ (Nat.zero_le _) (by show (#[] ++ vs.toArray).size ≤ sizeLine + 1; simp only [Array.size_append, List.size_toArray, List.length_nil]; omega))
  refine wpAny_pure ?_
  show wpAny (model prog w) A (do
      let o ← load s.heap.objs.size
      match o.data with
      | .seq xs _ => pure xs.toList
      | _ => unsupported "internal:collect") Q E { s with heap := (s.heap.push (seqObj "list" #[] 0)).update s.heap.objs.size (Obj.mapSeq (· ++ vs.toArray)) }
  refine wpAny_bind (wpAny_load (get?_update_seq (Heap.get?_push_size _ rfl) _) ?_)
  show wpAny _ _ (pure ((#[] : Array Value) ++ vs.toArray).toList) Q E _
  rw [show ((#[] : Array Value) ++ vs.toArray).toList = vs by simp]
  exact wpAny_pure h
end
end NW
namespace DL
open PySem PySem.Spec PyProof.Rows L2 NW
section
variable {X : Cx} {e a b o : Expr} {w wa wb wk wd : WE} {r : WA} {C : Addr} {f m : Str} {pos : Pos} {s : DS1}
def wFld (C : Addr) (f : Str) (w : WE) : WE := fun ρ R => w ρ fun d => ∃ ns xs x, d = .obj C ns xs ∧ lkD ns xs f = some x ∧ R x
theorem dfld {K : PySem.W.Frag} (c : Cls K C) (n : NoAttr K C f) (h : PE X e (tFld K (lift w) f)) : PE X e (lift (wFld C f w)) := pe_weak h fun σ H Q q => by
  obtain ⟨W, own, ρ, R, o, i, z, g⟩ := q
  refine ⟨W, own, ρ, _, o, i, z, fun d v H1 r k o1 i1 => ?_⟩
  obtain ⟨ns, xs, x, rfl, hl, r⟩ := r
  cases i1 with
  | obj h1 h2 h3 h4 =>
    obtain ⟨u, e1, e2⟩ := lk_ok h3 h4 hl
    exact ⟨_, C, _, _, u, rfl, h1, c, n, e1, g _ _ _ r k o1 e2⟩
def wProp (C : Addr) (s : DS1) (w : WE) : WE := fun ρ R => w ρ fun d => (∃ ns xs, d = .obj C ns xs) ∧ s [d] R
theorem dprop (h : PE X e (tProp C (dsp s) [] E0 (lift w))) : PE X e (lift (wProp C s w)) := pe_weak h fun σ H Q q => by
  obtain ⟨W, own, ρ, R, o, i, z, g⟩ := q
  refine ⟨W, own, ρ, _, o, i, z, fun d v H1 r k o1 i1 => ?_⟩
  obtain ⟨⟨ns, xs, rfl⟩, r⟩ := r
  have i2 := i1
  cases i1 with
  | obj h1 h2 h3 h4 => exact ⟨_, _, _, rfl, h1, W, _, _, o1, .cons i2 .nil, r, g.mono k⟩
theorem lookup_none {m : Str} : ∀ {fs : List (Str × V)}, m ∉ fs.map (·.1) → fs.lookup m = none
  | [], _ => rfl
  | (n, v) :: fs, h => by
    rw [List.lookup_cons]
    have h1 : m ≠ n := fun e => h (by rw [e]; exact List.mem_cons_self)
    rw [show (m == n) = false from beq_eq_false_iff_ne.mpr h1]
    exact lookup_none fun z => h (List.mem_cons_of_mem _ z)
def wMeth (C : Addr) (m : Str) (s : DS1) (w : WE) (r : WA) : WE := fun ρ R => w ρ fun d => (∃ ns xs, d = .obj C ns xs ∧ m ∉ ns) ∧ r ρ fun ds => s (d :: ds) R
theorem dmeth (h : PE X e (tMeth C m (dsp s) [] E0 (lift w) (liftA r))) : PE X e (lift (wMeth C m s w r)) := pe_weak h fun σ H Q q => by
  obtain ⟨W, own, ρ, R, o, i, z, g⟩ := q
  refine ⟨W, own, ρ, _, o, i, z, fun d v H1 r1 k o1 i1 => ?_⟩
  obtain ⟨⟨ns, xs, rfl, hm⟩, r1⟩ := r1
  have i2 := i1
  cases i1 with
  | obj h1 h2 h3 h4 =>
    subst h3
    refine ⟨_, _, _, rfl, h1, lookup_none hm, W, own, ρ, _, o1, i.mono o k, r1, fun ds vs H2 r2 k2 o2 i3 => ?_⟩
    show dsp s (.ref _ :: (vs ++ [])) H2 Q E0
    rw [List.append_nil]
    exact ⟨W, _, _, o2, .cons (i2.mono k2) i3, r2, (g.mono k).mono k2⟩
def wMeth0 (C : Addr) (m : Str) (s : DS1) (w : WE) : WE := fun ρ R => w ρ fun d => (∃ ns xs, d = .obj C ns xs ∧ m ∉ ns) ∧ s [d] R
def wLenI (C : Addr) (s : DS1) (w : WE) : WE := fun ρ R => w ρ fun d => (∃ ns xs, d = .obj C ns xs) ∧ s [d] fun v => ∃ n : Int, v = .int n ∧ (0 ≤ n ∧ n < 2 ^ 63) ∧ R (.int n)
def dInI (C : Addr) (s : DS1) : D2 := fun x y R => (∃ ns xs, y = .obj C ns xs) ∧ s [y, x] fun v => ∃ b, v = .bl b ∧ R (.bl b)
/-- the types that the class is compared with -/
structure NFs (K : PySem.W.Frag) (C : Addr) : Prop where
  n : PySem.W.notFirst K C (.type "NoneType") = true
  l : PySem.W.notFirst K C (.type "list") = true
  t : PySem.W.notFirst K C (.type "tuple") = true
  s : PySem.W.notFirst K C (.ref C) = true
def tyOk (C : Addr) : DV → Prop
  | .non => True
  | .lst _ => True
  | .tup _ => True
  | .obj D _ _ => D = C
  | _ => False
def dEqI (C : Addr) (s : DS1) : D2 := fun x y R => (∃ ns xs, x = .obj C ns xs) ∧ tyOk C y ∧ s [x, y] fun v => ∃ b, v = .bl b ∧ R (.bl b)
end
section
variable {X : Cx} {tg e : Expr} {w : WE} {C : Addr} {x : Str}
def iOwnD (C : Addr) (x : Str) (w : WE) : WI := fun ρ R => w ρ fun d => ∃ ns xs ys, d = .obj C ns xs ∧ lkD ns xs x = some (.tup ys) ∧ R ys
theorem diOwn (h : PI X tg e (iOwn X.K C x (lift w))) : PI X tg e (liftI (iOwnD C x w)) := pi_weak h fun σ H R q => by
  obtain ⟨W, own, ρ, Rd, o, i, z, g⟩ := q
  refine ⟨W, own, ρ, _, o, i, z, fun d v H1 r k o1 i1 => ?_⟩
  obtain ⟨ns, xs, ys, rfl, hl, r⟩ := r
  cases i1 with
  | obj h1 h2 h3 h4 =>
    obtain ⟨u, e1, e2⟩ := lk_ok h3 h4 hl
    cases e2 with
    | tup a1 a2 a3 a4 => exact ⟨_, _, _, _, _, rfl, h1, e1, a1, g _ ys H1 r k o1 fun Hb t => wks_tup a1 a2 a4 t⟩
/-- a list, a tuple, or the written empty one, in a slot -/
def iVk (K : PySem.W.Frag) (i : Nat) : WI := fun ρ R => atV (fun d => ∃ xs, (d = .lst xs ∨ d = .tup xs ∨ (d = .ktu K ∧ xs = [])) ∧ R xs) ρ[i]?
theorem ktu_sq {K : PySem.W.Frag} {a : Addr} (h : KTu K a) (H : Hp) : SqT K H a [] := .inr h
end
def srt (ns : List Int) : List Int := ns.mergeSort fun a b => decide (a ≤ b)
def sortD (K : PySem.W.Frag) (d : DV) (R : List Int → Prop) : Prop := ∃ ns : List Int, (d = .lst (ns.map DV.int) ∨ d = .tup (ns.map DV.int) ∨ (d = .ktu K ∧ ns = [])) ∧ R (srt ns)
def fSrt (K : PySem.W.Frag) (w : WE) : WF := fun ρ R => w ρ fun d => sortD K d fun ns => R (ns.map DV.int)
end DL
namespace DL
open PySem PySem.Spec PyProof.Rows L2 NW
def spI (C : Addr) (s : DS2) : Sp := fun vs H Q E => ∃ (W : Wd) (ds : List DV) (R RX : DV → Prop) (a dx : Addr) (H0 : Hp) (us : List V), vs = .ref a :: us ∧ H = upd (upd H0 dx (.own a)) a (.ins C dx []) ∧ H0 a = none ∧ H0 dx = none ∧ dx ≠ a ∧ W.Ok H0 ∧ Iss W H0 us ds ∧ s ds R RX ∧
  (∀ d H', R d → Kp W.st H0 H' → W.Ok H' → Is W H' (.ref a) d → Q .non H') ∧ FinX W H0 RX E
theorem len_spI {C : Addr} {s : DS2} {n : Nat} (h : ∀ ds R RX, s ds R RX → ds.length = n) : ∀ vs H Q E, spI C s vs H Q E → vs.length = n + 1 := fun vs H Q E ⟨_, _, _, _, _, _, _, _, e, _, _, _, _, _, i, z, _⟩ => by
  rw [e, List.length_cons, i.len, h _ _ _ z]
def OwesI (n : Nat) (C : Addr) (s : DS2) (w : WS) : Prop := ∀ a ds R RX, s ds R RX → w { nx := fun ρ => ∃ ns xs, ρ[0]? = some (.oi a C ns xs) ∧ R (.obj C ns xs), rt := fun _ => False, xc := fun e _ => RX e } (.oi a C [] [] :: startD n ds)
theorem start_cons (n : Str) (N : List Str) (v : V) (us : List V) : L2.start (n :: N) (v :: us) = some v :: L2.start N us := by
  unfold L2.start
  rw [List.length_cons, List.length_cons, Nat.add_sub_add_right]
  rfl
theorem dl_startI {C : Addr} {s : DS2} {w : WS} {n : Str} {N : List Str} (o : OwesI N.length C s w) (vs : List V) (H : Hp) (Q : VK) (E : XK) (h : spI C s vs H Q E) :
    liftS (fun cls d _ H => E cls d H) w { nx := fun _ H' => Q .non H', rt := Q } (L2.start (n :: N) vs) H := by
  obtain ⟨W, ds, R, RX, a, dx, H0, us, rfl, rfl, ha, hd, hn, ok, i, hs, f, g⟩ := h
  have ha1 : upd H0 dx (HO.own a) a = none := by rw [upd_ne (Ne.symm hn)]; exact ha
  have sm : Same H0 (upd (upd H0 dx (.own a)) a (.ins C dx [])) := fun b o z => same_new ha1 b o (same_new hd b o z)
  have na : W.st ≠ some a := ok.s.ne ha
  let own : Nat → Option Addr := fun j => if j = 0 then some a else none
  have ow0 : ∀ j b, own j = some b → j = 0 ∧ b = a := fun j b z => by
    by_cases e : j = 0
    · have z : (if j = 0 then some a else none) = some b := z
      rw [if_pos e] at z
      exact ⟨e, (Option.some.inj z).symm⟩
    · have z : (if j = 0 then some a else none) = some b := z
      rw [if_neg e] at z
      cases z
  have hw : ∀ b, ((⟨W.st, W.hid, H0⟩ : Bs).w own).hid b → W.hid b ∨ b = a := fun b h => h.elim .inl fun ⟨j, z⟩ => .inr (ow0 j b z).2
  have tr : ∀ {v : V} {d : DV}, Is W H0 v d → Is ((⟨W.st, W.hid, H0⟩ : Bs).w own) (upd (upd H0 dx (.own a)) a (.ins C dx [])) v d := fun h => Is.tr (W := W) (W' := (⟨W.st, W.hid, H0⟩ : Bs).w own) rfl (fun b o k z => ⟨⟨k.1, fun q => (hw b q).elim k.2 fun e => ne_of_none z ha e⟩, sm b o z⟩) h
  have it := isE_start (N := N) i
  rw [start_cons]
  refine ⟨⟨W.st, W.hid, H0⟩, own, _, _, ⟨ok.s, Kp.same sm, ⟨ok.s.same sm, fun b hb => ?_⟩, ⟨?_, fun j d e => ?_, fun j xs e => ?_, fun j ks xs e => ?_, fun j A D ns xs e => ?_, fun j b z => .inr ⟨j, z⟩⟩, fun j b z => ?_, fun j k b z z' => (ow0 j b z).1.trans (ow0 k b z').1.symm⟩, o a ds R RX hs,
    ⟨fun own' ρ σ H' r c => ?_, fun _ _ _ _ z => z.elim, fun _ _ _ _ z => z.elim, fun _ _ _ z => z.elim, fun own' ρ σ H' D ns xs dd fs r c h1 h2 h3 h4 => g D ns xs dd H' fs r c.k c.ok0 h1 ⟨h2.1, fun z => h2.2 (.inl z)⟩ h3 h4.w0⟩⟩
  · rcases hw b hb with hb | rfl
    · obtain ⟨⟨o, ho⟩, n⟩ := ok.h b hb
      exact ⟨⟨o, sm _ _ ho⟩, n⟩
    · exact ⟨⟨_, upd_same⟩, na⟩
  · rw [List.length_cons, List.length_cons, it.len]
  · match j, e with
    | 0, e => cases e
    | j + 1, e =>
      obtain ⟨v, h1, h2⟩ := it.dt j d e
      exact ⟨v, h1, tr h2⟩
  · match j, e with
    | 0, e => cases e
    | j + 1, e =>
      obtain ⟨b, us, z, _⟩ := it.ow j xs e
      cases z
  · match j, e with
    | 0, e => cases e
    | j + 1, e =>
      obtain ⟨b, us, z, _⟩ := it.od j ks xs e
      cases z
  · match j, e with
    | 0, e =>
      cases e
      exact ⟨a, [], rfl, rfl, ⟨dx, upd_same⟩, ⟨Nat.zero_le _, rfl, List.nodup_nil, rfl⟩, .nil⟩
    | j + 1, e =>
      obtain ⟨b, us, z, _⟩ := it.oi j A D ns xs e
      cases z
  · obtain ⟨_, rfl⟩ := ow0 j b z
    exact ⟨ha, fun q => by obtain ⟨⟨o, ho⟩, _⟩ := ok.h b q; rw [ha] at ho; cases ho⟩
  · obtain ⟨ns, xs, e, r⟩ := r
    obtain ⟨a', fs, h1, h2, ⟨dx', h3⟩, ⟨l1, l2, l3, rfl⟩, h5⟩ := c.e.oi 0 a C ns xs e
    exact f _ _ r c.k c.ok0 (.obj h3 ⟨(c.ok.h a' (.inr ⟨0, h1⟩)).2, (c.o 0 a' h1).2⟩ l2 h5.w0)
def atS (C : Addr) (R : Addr → List Str → List DV → Prop) : Option Sl → Prop
  | some (.oi A D ns xs) => D = C ∧ R A ns xs
  | _ => False
theorem atS_ex {C : Addr} {R : Addr → List Str → List DV → Prop} {o : Option Sl} (h : atS C R o) : ∃ A ns xs, o = some (.oi A C ns xs) ∧ R A ns xs := by
  unfold atS at h
  split at h
  · obtain ⟨rfl, h⟩ := h
    exact ⟨_, _, _, rfl, h⟩
  · exact h.elim
theorem putF_new {f : Str} {y : V} : ∀ {fs : List (Str × V)}, f ∉ fs.map (·.1) → putF f y fs = fs ++ [(f, y)]
  | [], _ => rfl
  | (g, x) :: r, h => by
    have h1 : ¬ g = f := fun e => h (by rw [← e]; exact List.mem_cons_self)
    show (if g = f then (g, y) :: r else (g, x) :: putF f y r) = _
    rw [if_neg h1, putF_new fun z => h (List.mem_cons_of_mem _ z)]
    rfl
theorem Ctx.field {B : Bs} {own : Nat → Option Addr} {H : Hp} {σ : L2.St} {ρ : Env} {A C : Addr} {ns : List Str} {xs : List DV} {f : Str} {y : V} {d : DV} (c : Ctx B own H σ ρ) (e : ρ[0]? = some (.oi A C ns xs)) (hf : f ∉ ns) (hl : ns.length < 500) (iy : Is (B.w own) H y d) :
    ∃ dx fs, σ[0]? = some (some (.ref A)) ∧ H A = some (.ins C dx fs) ∧ fs.length < 1000 ∧ Ctx B own (upd H A (.ins C dx (putF f y fs))) σ (ρ.set 0 (.oi A C (ns ++ [f]) (xs ++ [d]))) := by
  obtain ⟨a, fs, g1, g2, ⟨dx, g3⟩, ⟨g4, g6, g7, rfl⟩, g5⟩ := c.e.oi 0 A C ns xs e
  subst g6
  rw [List.length_map] at hl
  refine ⟨dx, fs, g2, g3, by omega, ?_⟩
  rw [putF_new hf]
  exact c.updI 0 g1 e ⟨by rw [List.length_append]; exact hl, by rw [List.map_append]; rfl, by
    rw [List.nodup_append]
    exact ⟨g7, List.pairwise_singleton _ _, fun u hu v hv q => hf (by rw [List.mem_singleton.mp hv] at q; rw [← q]; exact hu)⟩, rfl⟩ (by
    rw [List.map_append]
    exact g5.app (.cons iy .nil))
section
variable {Ex : L2.WX} {X : Cx} {w : WE} {st : Stmt} {C : Addr} {f : Str}
def wSelf (C : Addr) (f : Str) (w : WE) : WS := fun E ρ => w ρ fun d => atS C (fun A ns xs => f ∉ ns ∧ ns.length < 500 ∧ E.nx (ρ.set 0 (.oi A C (ns ++ [f]) (xs ++ [d])))) ρ[0]?
theorem dself {K : PySem.W.Frag} (cc : Cls K C) (nn : NoAttr K C f) (h : PS X st (sFld K (tVar 0) (lift w) f)) : PS X st (liftS Ex (wSelf C f w)) := ps_weak h fun D σ H q => by
  obtain ⟨B, own, ρ, E, c, h, d⟩ := q
  refine ⟨B.w own, own, ρ, _, c.ok, c.e, h, fun dv v H1 r1 k1 o1 i1 => ?_⟩
  obtain ⟨A, ns, xs, e, hf, hl, r1⟩ := atS_ex r1
  obtain ⟨dx, fs, g2, g3, g4, c2⟩ := (c.mono k1 o1).field e hf hl i1
  exact ⟨.ref A, g2, A, C, dx, fs, rfl, g3, cc, nn, g4, d.nx own _ _ _ r1 c2⟩
def wSelfD (C : Addr) (f : Str) (i : Nat) : WS := fun E ρ => atD (fun ks ys => atS C (fun A ns xs => f ∉ ns ∧ ns.length < 500 ∧ i ≠ 0 ∧ E.nx ((ρ.set i (.dt (.dic ks ys))).set 0 (.oi A C (ns ++ [f]) (xs ++ [.dic ks ys])))) ρ[0]?) ρ[i]?
end
def lkK : List Key → List DV → Key → Option DV
  | n :: ns, x :: xs, m => if n = m then some x else lkK ns xs m
  | _, _, _ => none
section
variable {X : Cx} {e : Expr} {w wd wk wz : WE} {i : Nat}
/-- d.get(k, z), d data -/
def asD (d : DV) (R : List Key → List DV → Prop) : Prop := match d with
  | .dic ks xs => R ks xs
  | _ => False
def wGet (wd wk wz : WE) : WE := fun ρ R => wd ρ fun d => asD d fun ks xs => wk ρ fun k => wz ρ fun z => asK k fun kk => R ((lkK ks xs kk).getD z)
/-- x.get(k, z), x a dict of one's own -/
def wGetO (i : Nat) (wk wz : WE) : WE := fun ρ R => atDR (fun ks xs => wk ρ fun k => wz ρ fun z => asK k fun kk => R ((lkK ks xs kk).getD z)) ρ[i]?
/-- k in d, d data -/
def wInDD (w wd : WE) : WE := fun ρ R => w ρ fun y => wd ρ fun d => ∃ ks xs, d = .dic ks xs ∧ asK y fun k => R (.bl (hasK ks k))
/-- dict(d) -/
def wDict (w : WE) : WE := fun ρ R => w ρ fun d => ∃ ks xs, d = .dic ks xs ∧ R d
theorem ddict (h : PE X e (tCB (fun xs H Q => ∃ (a : Addr) (kvs : List (Key × V)), xs = [.ref a] ∧ Rd H a (.dK kvs) ∧ ∀ p, H p = none → Q (.ref p) (upd H p (.dK kvs))) (tCons (lift w) tNil))) : PE X e (lift (wDict w)) := pe_weak h fun σ H Q q => by
  obtain ⟨W, own, ρ, R, o, i, z, f⟩ := q
  refine ⟨W, own, ρ, _, o, i, z, fun d v H1 r k1 o1 i1 => ?_⟩
  obtain ⟨ks, xs, rfl, r⟩ := r
  cases i1 with
  | @dic _ kvs _ _ b1 b2 b3 b4 b5 b6 =>
    refine ⟨_, _, rfl, b1, fun p hp => ?_⟩
    have s := Kp.same (st := W.st) (same_new (o := .dK kvs) hp)
    exact f _ _ _ r (k1.trans s) (o1.new hp) (.dic (.inl upd_same) (o1.fresh hp) b3 b4 b5 (b6.mono s))
/-- tuple(reversed(xs)) -/
def dTrev (d : DV) (R : DV → Prop) : Prop := match d with
  | .lst xs => R (.tup xs.reverse)
  | _ => False
def wTrev (w : WE) : WE := fun ρ R => w ρ fun d => dTrev d R
/-- isinstance(x, C), C a class of one's own -/
def isC (C : Addr) : DV → Option Bool
  | .obj D _ _ => if D = C then some true else none
  | .lst _ => some false
  | .tup _ => some false
  | .non => some false
  | _ => none
end
end DL
namespace DL
open PySem PySem.Spec PyProof.Rows L2 NW
section
variable {Ex : L2.WX} {X : Cx} {e : Expr} {es : List Expr} {r : WA} {C : Addr} {s : DS2} {st : Stmt}
def wMkI (s : DS2) (r : WA) : WE := fun ρ R => r ρ fun ds => s ds R fun _ => False
theorem mk_run {W : Wd} {H : Hp} {ds : List DV} {vs : List V} {R RX : DV → Prop} {Q : VK} {E : XK} (o : W.Ok H) (i : Iss W H vs ds) (h : s ds R RX) (f : Fin W H R Q) (g : FinX W H RX E) : ∀ x dx, H x = none → H dx = none → dx ≠ x →
    spI C s (.ref x :: vs) (upd (upd H dx (.own x)) x (.ins C dx [])) (fun v H2 => v = .non ∧ Q (.ref x) H2) E := fun x dx hx hdx hn =>
  ⟨W, ds, R, RX, x, dx, H, vs, rfl, rfl, hx, hdx, hn, o, i, h, fun d H' r k o' i' => ⟨rfl, f d _ H' r k o' i'⟩, g⟩
theorem dmkI (h : PE X e (tMake C (spI C s) [] E0 (liftA r))) : PE X e (lift (wMkI s r)) := pe_weak h fun σ H Q q => by
  obtain ⟨W, own, ρ, R, o, i, z, f⟩ := q
  refine ⟨W, own, ρ, _, o, i, z, fun ds vs H1 r1 k1 o1 i1 => ?_⟩
  have z := mk_run (C := C) (s := s) (Q := Q) (E := E0) o1 i1 r1 (f.mono k1) fun _ _ _ _ _ _ z => z.elim
  have e : vs ++ [] = vs := List.append_nil vs
  show ∀ x dx, H1 x = none → H1 dx = none → dx ≠ x → spI C s (.ref x :: (vs ++ [])) _ _ _
  rw [e]
  exact z
def wMkI0 (s : DS2) (dd : List DV) : WE := fun _ R => s dd R fun _ => False
/-- C(..) as a statement, what it raises wished for -/
def wDropI (s : DS2) (r : WA) : WS := fun E ρ => r ρ fun ds => s ds (fun _ => E.nx ρ) fun x => E.xc x ρ
end
def frzL1 : Sl → Sl
  | .ow xs => .dt (.lst xs)
  | s => s
/-- an instance whose fields are dicts and tuples of ints: it reaches no list -/
def flatO : DV → Prop
  | .obj _ _ xs => ∀ x ∈ xs, (∃ (ks : List Key) (zs : List Int), x = .dic ks (zs.map DV.int)) ∨ ∃ zs : List Int, x = .tup (zs.map DV.int)
  | _ => False
section
variable {Ex : L2.WX} {X : Cx} {e : Expr} {r : WA} {C : Addr} {s : DS2} {st : Stmt}
def wAsgIO (i : Nat) (s : DS2) (r : WA) : WS := fun E ρ => r (ρ.map frzL1) fun ds => s ds (fun d => flatO d ∧ E.nx (ρ.set i (.dt d))) fun _ => False
/-- x[k] = v, x a list of one's own -/
def wSetO (i : Nat) (wk wv : WE) : WS := fun E ρ => atO (fun xs => wv ρ fun v => wk ρ fun k => ∃ (n j : Nat), k = .int n ∧ ixN xs.length (n : Int) = some j ∧ E.nx (ρ.set i (.ow (xs.set j v)))) ρ[i]?
end
structure CInst (K : PySem.W.Frag) (C : Addr) : Prop where
  cl : Cls K C
  ha : PySem.W.findIn K (.ref C) "__class__" = some (some (.builtin "object.__class__"))
  hn : PySem.W.specialIn K (.builtin "object.__class__") "__get__" = some (some (.builtin "getset_descriptor.__get__"))
  htk : PySem.W.takesIn K (.builtin "object.__class__") = some true
  hm : PySem.W.mroIn K C (.type "object") = some true
  s : PySem.W.kitOne K (.ref C) (.ref C) = some true
  n : PySem.W.kitOne K (.type "NoneType") (.ref C) = some false
  l : PySem.W.kitOne K (.type "list") (.ref C) = some false
  t : PySem.W.kitOne K (.type "tuple") (.ref C) = some false
section
variable {X : Cx} {e : Expr} {w : WE} {C : Addr}
def wIsC (C : Addr) (w : WE) : WE := fun ρ R => w ρ fun d => ∃ b, isC C d = some b ∧ R (.bl b)
end
end DL
namespace NW
open PySem PySem.Spec PyProof.Rows L2
section
variable {K : PySem.W.Frag} {C : Addr}
theorem ba2 {a b : Bool} (h : (a && b) = true) : a = true ∧ b = true := Bool.and_eq_true_iff.mp h
theorem clsB_ok (h : clsB K C = true) : Cls K C := by
  obtain ⟨h1, h⟩ := ba2 h
  obtain ⟨h2, h⟩ := ba2 h
  obtain ⟨h3, h⟩ := ba2 h
  exact ⟨h1, h2, h3, He.eqO_ok h⟩
theorem methB_ok {m : Str} (h : methB K C m = true) : Meth K C m (He.ma K C m) := by
  obtain ⟨h1, h⟩ := ba2 h
  obtain ⟨h2, h3⟩ := ba2 h
  exact ⟨He.eqO_ok h1, h2, h3⟩
theorem mkB_ok (h : mkB K C = true) : Mk K C (He.ma K C "__init__") := by
  obtain ⟨h1, h⟩ := ba2 h
  obtain ⟨h2, h⟩ := ba2 h
  obtain ⟨h3, h4⟩ := ba2 h
  exact ⟨h1, He.eqO_ok h2, h3, h4⟩
theorem propB_ok {f : Str} (h : propB K C f = true) : PropOf K C f (He.ma K C f) (He5.wf K C "property" f) := by
  obtain ⟨h1, h⟩ := ba2 h
  obtain ⟨h2, h⟩ := ba2 h
  obtain ⟨h3, h4⟩ := ba2 h
  refine ⟨He.eqO_ok h1, He.eqO_ok h2, of_decide_eq_true h3, ?_⟩
  unfold He5.wf
  split at h4
  · rename_i g r e
    exact ⟨r, by rw [e]⟩
  · cases h4
theorem cinB_ok (c : Cls K C) (h : cinB K C = true) : DL.CInst K C := by
  obtain ⟨h1, h⟩ := ba2 h
  obtain ⟨h2, h⟩ := ba2 h
  obtain ⟨h3, h⟩ := ba2 h
  obtain ⟨h4, h⟩ := ba2 h
  obtain ⟨h5, h⟩ := ba2 h
  obtain ⟨h6, h⟩ := ba2 h
  obtain ⟨h7, h8⟩ := ba2 h
  exact ⟨c, He.eqO_ok h1, He.eqO_ok h2, of_decide_eq_true h3, of_decide_eq_true h4, of_decide_eq_true h5, of_decide_eq_true h6, of_decide_eq_true h7, of_decide_eq_true h8⟩
theorem nfB_ok (h : nfB K C = true) : DL.NFs K C := by
  obtain ⟨h1, h⟩ := ba2 h
  obtain ⟨h2, h⟩ := ba2 h
  obtain ⟨h3, h4⟩ := ba2 h
  exact ⟨h1, h2, h3, h4⟩
end
end NW
namespace DL
open PySem PySem.Spec PyProof.Rows L2 NW
def kD : Key → DV
  | .inl i => .int i
  | .inr s => .str s
def items (ks : List Key) (xs : List DV) : List DV := List.zipWith (fun k x => .tup [kD k, x]) ks xs
theorem kD_is {W : Wd} {H : Hp} (k : Key) : Is W H (kV k) (kD k) := by
  cases k with
  | inl i => exact .int i
  | inr s => exact .str s
section
variable {X : Cx} {e : Expr} {w : WE}
def wItems (w : WE) : WE := fun ρ R => w ρ fun d => ∃ ks xs, d = .dic ks xs ∧ R (.lst (items ks xs))
end
end DL
namespace NW
open PySem PySem.Spec PyProof.Rows L2
end NW
namespace DL
open PySem PySem.Spec PyProof.Rows L2 NW
def dSumA : DA := fun ds R => match ds with
  | [.lst xs] => ∃ ns : List Int, xs = ns.map DV.int ∧ R (.int ns.sum)
  | [.tup xs] => ∃ ns : List Int, xs = ns.map DV.int ∧ R (.int ns.sum)
  | _ => False
/-- == of tuples of ints -/
def dEqT : D2 := fun x y R => ∃ ns ms : List Int, x = .tup (ns.map DV.int) ∧ y = .tup (ms.map DV.int) ∧ R (.bl (decide (ns = ms)))
/-- int of a long text -/
def dIntL : DA := fun ds R => match ds with
  | [.str s] => ∃ n, PySem.intText? s = some n ∧ s.length ≤ 1000000 ∧ R (.int n)
  | _ => False
end DL
namespace DL
open PySem PySem.Spec PyProof.Rows L2 NW
def flatR : DV → Prop
  | .bl _ => True
  | .int _ => True
  | .str _ => True
  | .non => True
  | _ => False
def wCallF (s : DS1) (r : WA) : WE := fun ρ R => r (frzE ρ) fun ds => s ds fun d => flatR d ∧ R d
end DL
namespace DL
open PySem PySem.Spec PyProof.Rows L2 NW
local macro_rules | `(tactic| walk_at "dl1") => `(tactic| simp only [wAsgD, wPutD, atD, atDR, asK, wInOD, wLenOD, fCallN, wCallB, wCallK, wCallD, wDropK, frzE, frz1, wFld, wProp, wMeth, wMeth0, wLenI, dInI, dEqI, tyOk, iOwnD, iVk, wIsC, isC, wSelf, wSelfD, atS, wGet, asD, wGetO, wInDD, wDict, wTrev, dTrev, wMkI, wMkI0, wDropI, wAsgIO, frzL1, wSetO, dSumA, dEqT, dIntL, wCallF, flatR, wRaise1, fSrt, wItems, wTry, wAsgX, wDropX, wKd, wXf, wSeq, wAsg, wAsgO, wRet, wIfS, wNx, wPass, wBk, wCt, wDrop, wAug, wApp, wAppPop, wPop, wFor, wFz, wV, wVP, atV, atP, atO, wC, wOp, wCall, wCallN, wCB, aC, aN, wL, wTu, fL, wF, fCat, fList, wTB, wTru, wAnd, wOr, wNot, wAndV, wOrV, wNotV, wIf, wChain, wIsN, wNeg, dNeg, wSl, pN, pP, dSl, wLrev, dLrev, wIsi, wIsi2, iL, iT, iV, iS, iR1, iR2, gN, fLc, wYes, wiL,
  dAdd, dSub, dMul, dMulS, dMulL, dDiv, dMod, dLt, dLe, dGt, dGe, dEq, dNe, eqD, dIn, dNi, dIx, dTru, isNon, dLen, dInt, dAbs, dMax, dMin, dList, dTup, dStr, dIAdd, frzE, frz1, startD, List.map_cons, List.map_nil, List.length_cons, List.length_nil, List.replicate_succ, List.replicate_zero, List.cons_append, List.nil_append, List.append_nil, List.getElem?_cons_zero, List.getElem?_cons_succ, List.set_cons_zero, List.set_cons_succ, Nat.reduceSub, Nat.reduceAdd, if_true, if_false, ite_true, ite_false, reduceIte, Bool.false_eq_true, decide_true, decide_false, Bool.not_true, Bool.not_false, Bool.not_eq_true', decide_eq_true_eq, decide_eq_false_iff_not, isi_int_int, isi_int_bool, isi_bl_int, isi_bl_bool, isi_non_int, isi_non_bool, isi_str_int, isi_str_bool, isi_str_str, isi_lst_list, isi_tup_tuple, Option.some.injEq, exists_eq_left', exists_eq_left, DV.int.injEq, DV.str.injEq, DV.bl.injEq, List.cons.injEq, and_true, true_and])
local macro_rules | `(tactic| walk_at "dl") => `(tactic| try walk_at "dl1")
local macro_rules | `(tactic| walk_at "go") => `(tactic| repeat' (first
  | (intro _)
  | walk_at "dl1"
  | (refine ⟨by first | decide | omega, ?_⟩)
  | split))
end DL
namespace DL
open PySem PySem.Spec PyProof.Rows L2 NW
local macro_rules | `(tactic| walk_at "dl1") => `(tactic| simp only [wAsgD, wPutD, atD, atDR, asK, wInOD, wLenOD, fCallN, wCallB, wCallK, wCallD, wDropK, frzE, frz1, wFld, wProp, wMeth, wMeth0, wLenI, dInI, dEqI, tyOk, iOwnD, iVk, wIsC, isC, wSelf, wSelfD, atS, wGet, asD, wGetO, wInDD, wDict, wTrev, dTrev, wMkI, wMkI0, wDropI, wAsgIO, frzL1, wSetO, dSumA, dEqT, dIntL, wCallF, flatR, wRaise1, fSrt, wItems, wTry, wAsgX, wDropX, wKd, wXf, wSeq, wAsg, wAsgO, wRet, wIfS, wNx, wPass, wBk, wCt, wDrop, wAug, wApp, wAppPop, wPop, wFor, wFz, wV, wVP, atV, atP, atO, wC, wOp, wCall, wCallN, wCB, aC, aN, wL, wTu, fL, wF, fCat, fList, wTB, wTru, wAnd, wOr, wNot, wAndV, wOrV, wNotV, wIf, wChain, wIsN, wNeg, dNeg, wSl, pN, pP, dSl, wLrev, dLrev, wIsi, wIsi2, iL, iT, iV, iS, iR1, iR2, gN, fLc, wYes, wiL,
  dAdd, dSub, dMul, dMulS, dMulL, dDiv, dMod, dLt, dLe, dGt, dGe, dEq, dNe, eqD, dIn, dNi, dIx, dTru, isNon, dLen, dInt, dAbs, dMax, dMin, dList, dTup, dStr, dIAdd, frzE, frz1, startD, List.map_cons, List.map_nil, List.length_cons, List.length_nil, List.replicate_succ, List.replicate_zero, List.cons_append, List.nil_append, List.append_nil, List.getElem?_cons_zero, List.getElem?_cons_succ, List.set_cons_zero, List.set_cons_succ, Nat.reduceSub, Nat.reduceAdd, if_true, if_false, ite_true, ite_false, reduceIte, Bool.false_eq_true, decide_true, decide_false, Bool.not_true, Bool.not_false, Bool.not_eq_true', decide_eq_true_eq, decide_eq_false_iff_not, isi_int_int, isi_int_bool, isi_bl_int, isi_bl_bool, isi_non_int, isi_non_bool, isi_str_int, isi_str_bool, isi_str_str, isi_lst_list, isi_tup_tuple, Option.some.injEq, exists_eq_left', exists_eq_left, DV.int.injEq, DV.str.injEq, DV.bl.injEq, List.cons.injEq, and_true, true_and])
local macro_rules | `(tactic| walk_at "dl") => `(tactic| try walk_at "dl1")
local macro_rules | `(tactic| walk_at "go") => `(tactic| repeat' (first
  | (intro _)
  | walk_at "dl1"
  | (refine ⟨by first | decide | omega, ?_⟩)
  | split))
end DL
namespace DL
open PySem PySem.Spec PyProof.Rows L2 NW
local macro_rules | `(tactic| walk_at "dl1") => `(tactic| simp only [wAsgD, wPutD, atD, atDR, asK, wInOD, wLenOD, fCallN, wCallB, wCallK, wCallD, wDropK, frzE, frz1, wFld, wProp, wMeth, wMeth0, wLenI, dInI, dEqI, tyOk, iOwnD, iVk, wIsC, isC, wSelf, wSelfD, atS, wGet, asD, wGetO, wInDD, wDict, wTrev, dTrev, wMkI, wMkI0, wDropI, wAsgIO, frzL1, wSetO, dSumA, dEqT, dIntL, wCallF, flatR, wRaise1, fSrt, wItems, wTry, wAsgX, wDropX, wKd, wXf, wSeq, wAsg, wAsgO, wRet, wIfS, wNx, wPass, wBk, wCt, wDrop, wAug, wApp, wAppPop, wPop, wFor, wFz, wV, wVP, atV, atP, atO, wC, wOp, wCall, wCallN, wCB, aC, aN, wL, wTu, fL, wF, fCat, fList, wTB, wTru, wAnd, wOr, wNot, wAndV, wOrV, wNotV, wIf, wChain, wIsN, wNeg, dNeg, wSl, pN, pP, dSl, wLrev, dLrev, wIsi, wIsi2, iL, iT, iV, iS, iR1, iR2, gN, fLc, wYes, wiL,
  dAdd, dSub, dMul, dMulS, dMulL, dDiv, dMod, dLt, dLe, dGt, dGe, dEq, dNe, eqD, dIn, dNi, dIx, dTru, isNon, dLen, dInt, dAbs, dMax, dMin, dList, dTup, dStr, dIAdd, frzE, frz1, startD, List.map_cons, List.map_nil, List.length_cons, List.length_nil, List.replicate_succ, List.replicate_zero, List.cons_append, List.nil_append, List.append_nil, List.getElem?_cons_zero, List.getElem?_cons_succ, List.set_cons_zero, List.set_cons_succ, Nat.reduceSub, Nat.reduceAdd, if_true, if_false, ite_true, ite_false, reduceIte, Bool.false_eq_true, decide_true, decide_false, Bool.not_true, Bool.not_false, Bool.not_eq_true', decide_eq_true_eq, decide_eq_false_iff_not, isi_dic_bool, isi_dic_int, isi_dic_str, isi_dic_dict, Bool.true_eq_false, isi_int_int, isi_int_bool, isi_bl_int, isi_bl_bool, isi_non_int, isi_non_bool, isi_str_int, isi_str_bool, isi_str_str, isi_lst_list, isi_tup_tuple, Option.some.injEq, exists_eq_left', exists_eq_left, DV.int.injEq, DV.str.injEq, DV.bl.injEq, List.cons.injEq, and_true, true_and])
local macro_rules | `(tactic| walk_at "dl") => `(tactic| try walk_at "dl1")
local macro_rules | `(tactic| walk_at "go") => `(tactic| repeat' (first
  | (intro _)
  | walk_at "dl1"
  | (refine ⟨by first | decide | omega, ?_⟩)
  | split))
theorem erase_perm : ∀ {l : List DV} {k : Nat} (h : k < l.length), (l[k] :: l.eraseIdx k).Perm l
  | x :: l, 0, _ => List.Perm.refl _
  | x :: l, k + 1, h => (List.Perm.swap x _ _).trans (List.Perm.cons x (erase_perm (l := l) (k := k) (Nat.lt_of_succ_lt_succ h)))
def s_shuffP : DS1 := fun ds R => match ds with
  | [.sto, .lst xs] => xs.length ≤ 1000 ∧ ∀ ys : List DV, ys.Perm xs → R (.lst ys)
  | _ => False
theorem l_shuffP : ∀ ds R, s_shuffP ds R → ds.length = 2 := by
  intro ds R h
  unfold s_shuffP at h
  split at h
  · rfl
  · exact h.elim
theorem o_shuffP : Owes 5 s_shuffP w_shuffled := by
  intro ds R h
  unfold s_shuffP at h
  split at h
  · unfold w_shuffled
    walk_at "dl"
    rename_i xs
    obtain ⟨h0, h⟩ := h
    refine ⟨by omega, by omega, by omega, ?_⟩
    refine forL_ind (fun i ρ => ∃ (rs ys : List DV) (v : Sl), ρ = [.dt .sto, .dt (.lst xs), .ow rs, .ow ys, v] ∧ ys.length = i ∧ (ys ++ rs).Perm xs) ⟨xs, [], _, rfl, rfl, List.Perm.refl _⟩ ?_ ?_
    · rintro i x ρ K hx ⟨rs, ys, v, rfl, hl, hp⟩ hK
      obtain ⟨rfl, hi⟩ := intL_at hx
      walk_at "dl"
      simp only [s_take]
      have le := hp.length_eq
      rw [List.length_append] at le
      refine ⟨by omega, fun r r0 r1 => ?_⟩
      obtain ⟨k, rfl⟩ : ∃ k : Nat, r = (k : Int) := ⟨r.toNat, by omega⟩
      have hk : k < rs.length := by omega
      refine ⟨by decide, by omega, k, rfl, rs[k], List.getElem?_eq_getElem hk, hK _ ⟨_, _, _, rfl, by rw [List.length_append, hl]; rfl, ?_⟩⟩
      have q : (rs[k] :: rs.eraseIdx k).Perm rs := erase_perm hk
      rw [List.append_assoc]
      exact (List.Perm.append_left ys q).trans hp
    · rintro ρ ⟨rs, ys, v, rfl, hl, hp⟩
      rw [intL_len] at hl
      walk_at "dl"
      have le := hp.length_eq
      rw [List.length_append] at le
      have e : rs = [] := List.length_eq_zero_iff.mp (by omega)
      subst e
      rw [List.append_nil] at hp
      exact h ys hp
  · exact h.elim
end DL
namespace DL
open PySem PySem.Spec PyProof.Rows L2 NW
local macro_rules | `(tactic| walk_at "dl1") => `(tactic| simp only [wAsgD, wPutD, atD, atDR, asK, wInOD, wLenOD, fCallN, wCallB, wCallK, wCallD, wDropK, frzE, frz1, wFld, wProp, wMeth, wMeth0, wLenI, dInI, dEqI, tyOk, iOwnD, iVk, wIsC, isC, wSelf, wSelfD, atS, wGet, asD, wGetO, wInDD, wDict, wTrev, dTrev, wMkI, wMkI0, wDropI, wAsgIO, frzL1, wSetO, dSumA, dEqT, dIntL, wCallF, flatR, wRaise1, fSrt, wItems, wTry, wAsgX, wDropX, wKd, wXf, wSeq, wAsg, wAsgO, wRet, wIfS, wNx, wPass, wBk, wCt, wDrop, wAug, wApp, wAppPop, wPop, wFor, wFz, wV, wVP, atV, atP, atO, wC, wOp, wCall, wCallN, wCB, aC, aN, wL, wTu, fL, wF, fCat, fList, wTB, wTru, wAnd, wOr, wNot, wAndV, wOrV, wNotV, wIf, wChain, wIsN, wNeg, dNeg, wSl, pN, pP, dSl, wLrev, dLrev, wIsi, wIsi2, iL, iT, iV, iS, iR1, iR2, gN, fLc, wYes, wiL,
  dAdd, dSub, dMul, dMulS, dMulL, dDiv, dMod, dLt, dLe, dGt, dGe, dEq, dNe, eqD, dIn, dNi, dIx, dTru, isNon, dLen, dInt, dAbs, dMax, dMin, dList, dTup, dStr, dIAdd, frzE, frz1, startD, List.map_cons, List.map_nil, List.length_cons, List.length_nil, List.replicate_succ, List.replicate_zero, List.cons_append, List.nil_append, List.append_nil, List.getElem?_cons_zero, List.getElem?_cons_succ, List.set_cons_zero, List.set_cons_succ, Nat.reduceSub, Nat.reduceAdd, if_true, if_false, ite_true, ite_false, reduceIte, Bool.false_eq_true, decide_true, decide_false, Bool.not_true, Bool.not_false, Bool.not_eq_true', decide_eq_true_eq, decide_eq_false_iff_not, isi_dic_bool, isi_dic_int, isi_dic_str, isi_dic_dict, Bool.true_eq_false, isi_int_int, isi_int_bool, isi_bl_int, isi_bl_bool, isi_non_int, isi_non_bool, isi_str_int, isi_str_bool, isi_str_str, isi_lst_list, isi_tup_tuple, Option.some.injEq, exists_eq_left', exists_eq_left, DV.int.injEq, DV.str.injEq, DV.bl.injEq, List.cons.injEq, and_true, true_and])
local macro_rules | `(tactic| walk_at "dl") => `(tactic| try walk_at "dl1")
local macro_rules | `(tactic| walk_at "go") => `(tactic| repeat' (first
  | (intro _)
  | walk_at "dl1"
  | (refine ⟨by first | decide | omega, ?_⟩)
  | split))
end DL
namespace DL
open PySem PySem.Spec PyProof.Rows L2 NW
local macro_rules | `(tactic| walk_at "dl1") => `(tactic| simp only [wAsgD, wPutD, atD, atDR, asK, wInOD, wLenOD, fCallN, wCallB, wCallK, wCallD, wDropK, frzE, frz1, wFld, wProp, wMeth, wMeth0, wLenI, dInI, dEqI, tyOk, iOwnD, iVk, wIsC, isC, wSelf, wSelfD, atS, wGet, asD, wGetO, wInDD, wDict, wTrev, dTrev, wMkI, wMkI0, wDropI, wAsgIO, frzL1, wSetO, dSumA, dEqT, dIntL, wCallF, flatR, wRaise1, fSrt, wItems, wTry, wAsgX, wDropX, wKd, wXf, wSeq, wAsg, wAsgO, wRet, wIfS, wNx, wPass, wBk, wCt, wDrop, wAug, wApp, wAppPop, wPop, wFor, wFz, wV, wVP, atV, atP, atO, wC, wOp, wCall, wCallN, wCB, aC, aN, wL, wTu, fL, wF, fCat, fList, wTB, wTru, wAnd, wOr, wNot, wAndV, wOrV, wNotV, wIf, wChain, wIsN, wNeg, dNeg, wSl, pN, pP, dSl, wLrev, dLrev, wIsi, wIsi2, iL, iT, iV, iS, iR1, iR2, gN, fLc, wYes, wiL,
  dAdd, dSub, dMul, dMulS, dMulL, dDiv, dMod, dLt, dLe, dGt, dGe, dEq, dNe, eqD, dIn, dNi, dIx, dTru, isNon, dLen, dInt, dAbs, dMax, dMin, dList, dTup, dStr, dIAdd, frzE, frz1, startD, List.map_cons, List.map_nil, List.length_cons, List.length_nil, List.replicate_succ, List.replicate_zero, List.cons_append, List.nil_append, List.append_nil, List.getElem?_cons_zero, List.getElem?_cons_succ, List.set_cons_zero, List.set_cons_succ, Nat.reduceSub, Nat.reduceAdd, if_true, if_false, ite_true, ite_false, reduceIte, Bool.false_eq_true, decide_true, decide_false, Bool.not_true, Bool.not_false, Bool.not_eq_true', decide_eq_true_eq, decide_eq_false_iff_not, isi_dic_bool, isi_dic_int, isi_dic_str, isi_dic_dict, Bool.true_eq_false, isi_int_int, isi_int_bool, isi_bl_int, isi_bl_bool, isi_non_int, isi_non_bool, isi_str_int, isi_str_bool, isi_str_str, isi_lst_list, isi_tup_tuple, Option.some.injEq, exists_eq_left', exists_eq_left, DV.int.injEq, DV.str.injEq, DV.bl.injEq, List.cons.injEq, and_true, true_and])
local macro_rules | `(tactic| walk_at "dl") => `(tactic| try walk_at "dl1")
local macro_rules | `(tactic| walk_at "go") => `(tactic| repeat' (first
  | (intro _)
  | walk_at "dl1"
  | (refine ⟨by first | decide | omega, ?_⟩)
  | split))
end DL
namespace NW
open PySem PySem.Spec PyProof.Rows L2
section
variable {P : Program} {w : World} {K : PySem.W.Frag} {mg : Str → Option Value} {base : Heap} {C : Addr} {m qual : Str} {params : Arguments} {body : List Stmt} {scope : Scope} {N ps : List Str} {k : Nat} {sp : Sp}
theorem hasM_of {t : TS} (F : ∃ f fd, Meth K C m f ∧ FunD K m qual params body scope [] [] f fd) (S : FnScope N ps scope) (len : ∀ vs H Q E, sp vs H Q E → vs.length = ps.length)
    (bn : ∀ (kV doc pm : Value) (an : Option Addr) (cdv ct : Value) (us : List Value), us.length = ps.length → bindArgs (PySem.W.fnOf m qual params body scope .none kV doc pm an cdv ct) ⟨us, []⟩ = pure (ps.zip us))
    (d : ∀ (f : Addr) (cdv : Value) (A : Around) (outer : List PySem.Env) (s : Shared) (H : Hp) (E : XK), Room k (A.deeper (envOfC qual scope s.heap.objs.size f cdv)) → PSs (cxOf (L2N.CX P w) P w K mg base N qual scope f cdv A outer s H E).nox body t)
    (pure_ : ∀ vs H Q E, sp vs H Q E → t { nx := fun _ H' => Q .non H', rt := Q } (L2.start N vs) H) : HasM P w K mg base C m (k + 1) ps sp := by
  obtain ⟨f, fd, hm, F⟩ := F
  exact ⟨f, fd, hm, F.bindsN bn, F.ok S len fun cdv A outer s H vs Q E hr h => ⟨t, PSs.nox (d f cdv A outer s H E hr), pure_ vs H Q E h⟩⟩
theorem hasP_of {t : TS} (F : ∃ p g fd, PropOf K C m p g ∧ FunD K m qual params body scope [] [] g fd) (S : FnScope N ps scope) (len : ∀ vs H Q E, sp vs H Q E → vs.length = ps.length)
    (bn : ∀ (kV doc pm : Value) (an : Option Addr) (cdv ct : Value) (us : List Value), us.length = ps.length → bindArgs (PySem.W.fnOf m qual params body scope .none kV doc pm an cdv ct) ⟨us, []⟩ = pure (ps.zip us))
    (d : ∀ (f : Addr) (cdv : Value) (A : Around) (outer : List PySem.Env) (s : Shared) (H : Hp) (E : XK), Room k (A.deeper (envOfC qual scope s.heap.objs.size f cdv)) → PSs (cxOf (L2N.CX P w) P w K mg base N qual scope f cdv A outer s H E).nox body t)
    (pure_ : ∀ vs H Q E, sp vs H Q E → t { nx := fun _ H' => Q .non H', rt := Q } (L2.start N vs) H) : HasP P w K mg base C m (k + 1) ps sp := by
  obtain ⟨p, g, fd, hm, F⟩ := F
  exact ⟨p, g, fd, hm, F.bindsN bn, F.ok S len fun cdv A outer s H vs Q E hr h => ⟨t, PSs.nox (d g cdv A outer s H E hr), pure_ vs H Q E h⟩⟩
theorem fnS_of {f : Addr} {name : Str} {dV kV doc pm cdv ct oc : Value} {an od : Option Addr} {osl : Array (Option Value)} {sp : Shared → Sp} (lk : K.lookup f = some ⟨oc, od, .func (PySem.W.fnOf name qual params body scope dV kV doc pm an cdv ct), osl⟩) (hcd : PySem.W.codeIn K cdv qual = true) (S : FnScope N ps scope)
    (len : ∀ s vs H Q E, sp s vs H Q E → vs.length = ps.length)
    (hbody : ∀ (A : Around) (outer : List PySem.Env) (s : Shared) (H : Hp) (vs : List V) (Q : VK) (E : XK), Room k (A.deeper (envOfC qual scope s.heap.objs.size f cdv)) → sp s vs H Q E →
      ∃ t, PSs (cxOf (L2N.CX P w) P w K mg base N qual scope f cdv A outer s H E) body t ∧ t { nx := fun _ H' => Q .non H', rt := Q } (L2.start N vs) H) :
    FnOkS P w K mg base (k + 1) f (PySem.W.fnOf name qual params body scope dV kV doc pm an cdv ct) ps sp := by
  refine ⟨len, fun A outer s H args us vs Q E hr e0 hb r hsp => ?_⟩
  have hl := len _ _ _ _ _ hsp
  have KX : K.In s.heap := e0.mod.kin.keeps fun b o e => (e0.bs b o e).1
  have lim : s.heap.NoLimit := e0.mod.nolimit.keeps fun b o e => (e0.bs b o e).1
  have hkind : ∀ y ∈ ps.zip us, scope.names.lookup y.1 = some .local ∨ (scope.names.lookup y.1 = some .cell ∧ ((cellsFrom (s.heap.objs.size + 1) scope.names []).lookup y.1).isSome = true) := fun ⟨n, v⟩ hy => by
    rcases S.par n (List.of_mem_zip hy).1 with q | q
    · exact .inl q
    · exact .inr ⟨q, PySem.W.cellsFrom_some _ _ _ (.inl q)⟩
  refine codeAny_call_function hr.depth (KX _ _ lk) rfl S.co S.gen rfl (PySem.W.codeRec_of KX hcd) (hb _ _ _ _ ?_)
  refine wpAny_newFunctionEnv_cells S.kind hkind fun env he s1 x => ?_
  subst he
  refine ⟨lim.keeps x.toInCall.keep, codeAny_func ?_⟩
  obtain ⟨t, ht, hq⟩ := hbody A outer s H vs Q E (hr.deeper _) hsp
  have I : Inv (cxOf (L2N.CX P w) P w K mg base N qual scope f cdv A outer s H E) [] (L2.start N vs) H s1 := inv_start S hr.hd e0 hl r x
  refine wpAny_mono (ht.run [] s1 (L2.start N vs) H _ I hq) (fun fl s' hs => ?_) fun e s' hs => hs
  have fin : ∀ {σ' : L2.St} {H' : Hp} {v : V} {u : Value}, Inv (cxOf (L2N.CX P w) P w K mg base N qual scope f cdv A outer s H E) [] σ' H' s' → RelV v u → Q v H' → CE outer P w H s Q u s' :=
    fun {σ' H' v u} J rv q => ⟨v, H', J.os, J.bare, J.base, J.hok, rv, q⟩
  cases fl with
  | ret u =>
    obtain ⟨v, σ', H', J, rv, q⟩ := hs
    exact fin J rv q
  | next =>
    obtain ⟨σ', H', J, q⟩ := hs
    exact fin (v := V.non) (u := Value.none) J rfl q
  | brk =>
    obtain ⟨_, _, _, q⟩ := hs
    exact False.elim q
  | cont =>
    obtain ⟨_, _, _, q⟩ := hs
    exact False.elim q
/-- __iter__ by iter(self.x), x a tuple -/
theorem hasIt_of {x : Str} (c : Cls K C) (nn : NoAttr K C x) (F : ∃ f fd, Meth K C "__iter__" f ∧ FunD K "__iter__" qual params body scope [] [] f fd) (S : FnScope (["self"] : List Str) (["self"] : List Str) scope)
    (bn : ∀ (kV doc pm : Value) (an : Option Addr) (cdv ct : Value) (us : List Value), us.length = 1 → bindArgs (PySem.W.fnOf "__iter__" qual params body scope .none kV doc pm an cdv ct) ⟨us, []⟩ = pure ((["self"] : List Str).zip us))
    (d : ∀ (f : Addr) (cdv : Value) (A : Around) (outer : List PySem.Env) (s : Shared) (H : Hp) (E : XK), PSs (cxOf (L2N.CX P w) P w K mg base (["self"] : List Str) qual scope f cdv A outer s H E) body (tRet (tCB (rIterT s.heap.objs.size) (tCons (tFld K (tVar 0) x) tNil)))) : HasIt P w K mg base C (k + 1) x := by
  obtain ⟨f, fd, hm, F⟩ := F
  have bb := F.bindsN (ps := (["self"] : List Str)) bn
  obtain ⟨oc, od, dV, kV, doc, pm, an, cdv, ct, osl, rfl, lk, hcd, _, _⟩ := F.ex
  refine ⟨f, _, hm, bb, fnS_of lk hcd S (fun s vs H Q E ⟨_, _, _, _, _, e, _⟩ => by rw [e]; rfl) fun A outer s H vs Q E hr h => ⟨_, d f cdv A outer s H E, ?_⟩⟩
  obtain ⟨a, dx, fs, t, xs, rfl, ha, hl, ht, q⟩ := h
  exact ⟨.ref a, rfl, a, C, dx, fs, .ref t, rfl, ha, c, nn, hl, t, xs, rfl, ht, fun it h1 h2 => q it h1 h2⟩
end
end NW
namespace DL
open PySem PySem.Spec PyProof.Rows L2 NW
theorem hok_unlock {P : Program} {w : World} {H : Hp} {B : Heap} {d : Addr} {od : Obj} {u : HO} (x : HOk P w H B) (h : H d = some (.frz od u)) : HOk P w (upd H d u) B := fun b o e => by
  have neH : ∀ b o, H b = some o → (∀ o' u', o ≠ .frz o' u') → b ≠ d := fun b o e hne z => by
    rw [z, h] at e
    cases e
    exact hne _ _ rfl
  by_cases hb : b = d
  · rw [hb, upd_same] at e
    cases e
    rw [hb]
    obtain ⟨_, x⟩ := x d _ h
    exact x.stay (fun c v _ q => q) (fun c q => by rw [upd_ne (neH c _ q (fun _ _ z => nomatch z))]; exact q) fun c xs q => by rw [upd_ne (neH c _ q (fun _ _ z => nomatch z))]; exact q
  · rw [upd_ne hb] at e
    exact (x b o e).stay (fun c v _ q => q) (fun c q => by rw [upd_ne (neH c _ q (fun _ _ z => nomatch z))]; exact q) fun c xs q => by rw [upd_ne (neH c _ q (fun _ _ z => nomatch z))]; exact q
def unl (d : Addr) (od : Obj) (u : HO) (E : XK) : XK := fun cls dd H' => H' d = some (.frz od u) ∧ E cls dd (upd H' d u)
theorem cx_unlock {P : Program} {w : World} {outer : List PySem.Env} {H : Hp} {s s' : Shared} {E : XK} {v : Value} {d : Addr} {od : Obj} {u : HO} (hn : ∀ o' u', H d ≠ some (.frz o' u')) 
    (c : L2N.CX P w outer H s (unl d od u E) v s') : L2N.CX P w outer H s E v s' := by
  obtain ⟨a, B, H', cls, dd, e, fl, hok, ub, na, os, ag, hf, hE⟩ := c
  have neH : ∀ b o, H' b = some o → (∀ o' u', o ≠ .frz o' u') → b ≠ d := fun b o e hne z => by
    rw [z, hf] at e
    cases e
    exact hne _ _ rfl
  refine ⟨a, B, upd H' d u, cls, dd, e, fl, hok_unlock hok hf, ⟨ub.keep, ub.slot, fun b o e n => ?_, ub.there, fun b xs e => ?_, fun b o xs e => ?_, fun b ps e => ?_⟩, ?_, os, ag, hE⟩
  · have q := ub.free b o e n
    rw [upd_ne (fun z => by rw [z, hf] at q; cases q)]; exact q
  · have q := ub.tups b xs e
    rw [upd_ne (neH b _ q (fun _ _ z => nomatch z))]; exact q
  · have q := ub.frzs b o xs e
    rw [upd_ne (fun z => by rw [z] at e; exact hn _ _ e)]; exact q
  · obtain ⟨m, q⟩ := ub.tbls b ps e
    exact ⟨m, by rw [upd_ne (neH b _ q (fun _ _ z => nomatch z))]; exact q⟩
  · rw [upd_ne (fun z => by rw [z, hf] at na; cases na)]; exact na
/-- the locked run of a statement, exceptions told apart -/
def tLockX (t : XK → TS) (E : XK) : TS := fun D σ H => ∃ d kvs, H d = some (.dK kvs) ∧ ∀ od, t (unl d od (.dK kvs) E) ⟨fun σ' H' => H' d = some (.frz od (.dK kvs)) ∧ D.nx σ' (upd H' d (.dK kvs)), fun v H' => H' d = some (.frz od (.dK kvs)) ∧ D.rt v (upd H' d (.dK kvs)), fun σ' H' => H' d = some (.frz od (.dK kvs)) ∧ D.bk σ' (upd H' d (.dK kvs)), fun σ' H' => H' d = some (.frz od (.dK kvs)) ∧ D.ct σ' (upd H' d (.dK kvs))⟩ σ (upd H d (.frz od (.dK kvs)))
theorem ps_lockX {P : Program} {w : World} {K : PySem.W.Frag} {mg : Str → Option Value} {base : Heap} {N : List Str} {qual : Str} {scope : Scope} {f : Addr} {cd : Value} {A : Around} {outer : List PySem.Env} {s0 : Shared} {H0 : Hp} {E : XK} {st : Stmt} {t : XK → TS}
    (h : ∀ E', PS (cxOf (L2N.CX P w) P w K mg base N qual scope f cd A outer s0 H0 E') st (t E')) : PS (cxOf (L2N.CX P w) P w K mg base N qual scope f cd A outer s0 H0 E) st (tLockX t E) := by
  refine ⟨fun pins s σ H D I hw => ?_⟩
  obtain ⟨d, kvs, hd, hw⟩ := hw
  have mu : Mut (some (.dK kvs)) := trivial
  obtain ⟨od, I1⟩ := I.lock hd mu
  have hn := I.nofrz hd mu
  have I2 : Inv (cxOf (L2N.CX P w) P w K mg base N qual scope f cd A outer s0 H0 (unl d od (.dK kvs) E)) pins σ (upd H d (.frz od (.dK kvs))) s := I1.wish _
  have r := (h (unl d od (.dK kvs) E)).run pins s σ _ _ I2 (hw od)
  refine wpAny_mono r (fun fl s1 q => ?_) fun v s1 q => ?_
  · have q := SP.unwish (X := cxOf (L2N.CX P w) P w K mg base N qual scope f cd A outer s0 H0 E) q
    cases fl with
    | next => obtain ⟨σ', H', I2, e, q⟩ := q; exact ⟨σ', _, I2.unlock e hn, q⟩
    | brk => obtain ⟨σ', H', I2, e, q⟩ := q; exact ⟨σ', _, I2.unlock e hn, q⟩
    | cont => obtain ⟨σ', H', I2, e, q⟩ := q; exact ⟨σ', _, I2.unlock e hn, q⟩
    | ret v => obtain ⟨x, σ', H', I2, r, e, q⟩ := q; exact ⟨x, σ', _, I2.unlock e hn, r, q⟩
  · exact wpAny_mono q (fun _ s2 c => cx_unlock hn c) fun _ s2 c => cx_unlock hn c
structure Lk (p : Addr) (kvs : List (Key × V)) (H H' : Hp) : Prop where
  ne : ∀ b, b ≠ p → H' b = H b
  rd : Rd H p (.dK kvs)
  rd' : Rd H' p (.dK kvs)
theorem Lk.symm {p : Addr} {kvs : List (Key × V)} {H H' : Hp} (l : Lk p kvs H H') : Lk p kvs H' H := ⟨fun b n => (l.ne b n).symm, l.rd', l.rd⟩
section
variable {p : Addr} {kvs : List (Key × V)} {H H' : Hp} {W W' : Wd} {st : Option Addr}
theorem Lk.get (l : Lk p kvs H H') {b : Addr} {o : HO} (h : H b = some o) (n1 : ∀ k, o ≠ .dK k) (n2 : ∀ ob u, o ≠ .frz ob u) : H' b = some o := by
  by_cases e : b = p
  · rw [e] at h
    rcases l.rd with r | ⟨ob, r⟩
    · rw [h] at r; exact absurd (Option.some.inj r) (n1 _)
    · rw [h] at r; exact absurd (Option.some.inj r) (n2 _ _)
  · rw [l.ne b e]; exact h
theorem Lk.dic (l : Lk p kvs H H') {b : Addr} {k2 : List (Key × V)} (h : Rd H b (.dK k2)) : Rd H' b (.dK k2) := by
  by_cases e : b = p
  · rw [e] at h ⊢
    have : k2 = kvs := by
      rcases l.rd with r | ⟨ob, r⟩
      · rcases h with h | ⟨ob, h⟩
        · rw [h] at r; cases r; rfl
        · rw [h] at r; cases r
      · rcases h with h | ⟨ob, h⟩
        · rw [h] at r; cases r
        · rw [h] at r; cases r; rfl
    rw [this]; exact l.rd'
  · rcases h with h | ⟨ob, h⟩
    · exact .inl (by rw [l.ne b e]; exact h)
    · exact .inr ⟨ob, by rw [l.ne b e]; exact h⟩
theorem Lk.some (l : Lk p kvs H H') {b : Addr} (h : ∃ o, H b = some o) : ∃ o, H' b = some o := by
  by_cases e : b = p
  · rw [e]
    rcases l.rd' with r | ⟨ob, r⟩
    · exact ⟨_, r⟩
    · exact ⟨_, r⟩
  · rw [l.ne b e]; exact h
mutual
theorem Is.lk (l : Lk p kvs H H') (e1 : W'.st = W.st) (k : ∀ b, W.ok b → W'.ok b) : ∀ {v : V} {d : DV}, Is W H v d → Is W' H' v d
  | _, _, .non => .non
  | _, _, .bl b => .bl b
  | _, _, .int i => .int i
  | _, _, .str x => .str x
  | _, _, .lst h o n t => .lst (l.get h (fun _ z => nomatch z) (fun _ _ z => nomatch z)) (k _ o) n (Iss.lk l e1 k t)
  | _, _, .tup h o n t => .tup (l.get h (fun _ z => nomatch z) (fun _ _ z => nomatch z)) (k _ o) n (Iss.lk l e1 k t)
  | _, _, .dic h o n e d t => .dic (l.dic h) (k _ o) n e d (Iss.lk l e1 k t)
  | _, _, .obj h o e t => .obj (l.get h (fun _ z => nomatch z) (fun _ _ z => nomatch z)) (k _ o) e (Iss.lk l e1 k t)
  | _, _, .err h h2 o o2 e t => .err (l.get h (fun _ z => by unfold exo at z; cases z) (fun _ _ z => by unfold exo at z; cases z)) (l.get h2 (fun _ z => by unfold exd at z; cases z) (fun _ _ z => by unfold exd at z; cases z)) (k _ o) (k _ o2) e (Iss.lk l e1 k t)
  | _, _, .err0 h o => .err0 (l.get h (fun _ z => by unfold exo at z; cases z) (fun _ _ z => by unfold exo at z; cases z)) (k _ o)
  | _, _, .hot h o e t => .hot (l.get h (fun _ z => by cases z) (fun _ _ z => by cases z)) (k _ o) e (Iss.lk l e1 k t)
  | _, _, .sto z => .sto (e1.trans z)
  | _, _, .ktu z => .ktu z
  | _, _, .cls => .cls
theorem Iss.lk (l : Lk p kvs H H') (e1 : W'.st = W.st) (k : ∀ b, W.ok b → W'.ok b) : ∀ {vs : List V} {ds : List DV}, Iss W H vs ds → Iss W' H' vs ds
  | _, _, .nil => .nil
  | _, _, .cons a t => .cons (Is.lk l e1 k a) (Iss.lk l e1 k t)
end
theorem StoW.lk (l : Lk p kvs H H') (s : StoW st H) : StoW st H' := by
  cases st with
  | none => trivial
  | some a =>
    obtain ⟨cl, ns, q1, q2, q3, q4, q5, w1, w2, w3⟩ := s
    exact ⟨cl, ns, q1, q2, q3, q4, q5, l.get w1 (fun _ z => nomatch z) (fun _ _ z => nomatch z), l.get w2 (fun _ z => nomatch z) (fun _ _ z => nomatch z), w3⟩
theorem Wd.Ok.lk (l : Lk p kvs H H') (o : W.Ok H) : W.Ok H' := ⟨o.s.lk l, fun a ha => ⟨l.some (o.h a ha).1, (o.h a ha).2⟩⟩
theorem kp_upd2 {H0 : Hp} {o : HO} (k : Kp st H0 H) (n : st ≠ some p) : Kp st (upd H0 p o) (upd H p o) := by
  cases st with
  | none =>
    intro b u z
    by_cases e : b = p
    · rw [e, upd_same] at z ⊢; exact z
    · rw [upd_ne e] at z ⊢; exact k b u z
  | some a =>
    have na : a ≠ p := fun e => n (by rw [e])
    refine ⟨fun b u z m => ?_, fun v r z => ?_⟩
    · by_cases e : b = p
      · rw [e, upd_same] at z ⊢; exact z
      · rw [upd_ne e] at z ⊢; exact Keep.o k b u z m
    · rw [upd_ne na] at z ⊢; exact Keep.h k v r z
theorem upd_back {o u : HO} (h : H p = some u) : upd (upd H p o) p u = H := by
  funext b
  by_cases e : b = p
  · rw [e, upd_same, h]
  · rw [upd_ne e, upd_ne e]
theorem lk_lock {od : Obj} (h : H p = some (.dK kvs)) : Lk p kvs H (upd H p (.frz od (.dK kvs))) := ⟨fun b n => upd_ne n, .inl h, .inr ⟨od, upd_same⟩⟩
theorem lk_unlock {od : Obj} (h : H p = some (.frz od (.dK kvs))) : Lk p kvs H (upd H p (.dK kvs)) := ⟨fun b n => upd_ne n, .inr ⟨od, h⟩, .inl upd_same⟩
theorem IsE.lk {own : Nat → Option Addr} {σ : L2.St} {ρ : Env} (l : Lk p kvs H H') (n : ∀ i, own i ≠ some p) (h : IsE W own H σ ρ) : IsE W own H' σ ρ :=
  ⟨h.len, fun i d e => by
    obtain ⟨v, a, b⟩ := h.dt i d e
    exact ⟨v, a, Is.lk l rfl (fun _ z => z) b⟩, fun i xs e => by
    obtain ⟨a, vs, h1, h2, h3, h4, h5⟩ := h.ow i xs e
    exact ⟨a, vs, h1, h2, by rw [l.ne a fun z => n i (by rw [← z]; exact h1)]; exact h3, h4, Iss.lk l rfl (fun _ z => z) h5⟩, fun i ks xs e => by
    obtain ⟨a, kvs, h1, h2, h3, h4, h5⟩ := h.od i ks xs e
    exact ⟨a, kvs, h1, h2, by rw [l.ne a fun z => n i (by rw [← z]; exact h1)]; exact h3, h4, Iss.lk l rfl (fun _ z => z) h5⟩, fun i A C ns xs e => by
    obtain ⟨a, fs, h1, h2, ⟨dx, h3⟩, h4, h5⟩ := h.oi i A C ns xs e
    exact ⟨a, fs, h1, h2, ⟨dx, by rw [l.ne a fun z => n i (by rw [← z]; exact h1)]; exact h3⟩, h4, Iss.lk l rfl (fun _ z => z) h5⟩, h.hd⟩
end
/-- the base behind which the dict stands locked -/
noncomputable def Bs.lock (B : Bs) (own : Nat → Option Addr) (H : Hp) (p : Addr) (o : HO) : Bs := { B with H0 := upd (B.base own H).H0 p o }
section
variable {B : Bs} {own own' : Nat → Option Addr} {H H' : Hp} {σ σ' : L2.St} {ρ ρ' : Env} {p : Addr} {kvs : List (Key × V)} {od : Obj} {E : WEnds} {D : Ends} {Ex : L2.WX}
theorem Ctx.lock (c : Ctx B own H σ ρ) (h : H p = some (.dK kvs)) (ok : (B.w own).ok p) : Ctx (B.lock own H p (.frz od (.dK kvs))) own (upd H p (.frz od (.dK kvs))) σ ρ := by
  have cb := c.base
  have l := lk_lock (od := od) h
  have hb : (B.base own H).H0 p = some (.dK kvs) := base_get ok h
  have no : ∀ i, own i ≠ some p := fun i z => ok.2 (.inr ⟨i, z⟩)
  refine ⟨StoW.lk (lk_lock hb) cb.s0, kp_upd2 cb.k ok.1, Wd.Ok.lk l c.ok, IsE.lk l no c.e, fun i a z => ⟨?_, (c.o i a z).2⟩, c.inj⟩
  show upd _ p _ a = none
  rw [upd_ne fun e => no i (by rw [← e]; exact z)]
  exact (cb.o i a z).1
theorem lock_at (c : Ctx B own H σ ρ) (ok : (B.w own).ok p) (k : Kp B.st (B.lock own H p (.frz od (.dK kvs))).H0 H') : H' p = some (.frz od (.dK kvs)) := k.o upd_same ok.1
theorem kp_unlock (c : Ctx B own H σ ρ) (h : H p = some (.dK kvs)) (ok : (B.w own).ok p) (k : Kp B.st (B.lock own H p (.frz od (.dK kvs))).H0 H') : Kp B.st (B.base own H).H0 (upd H' p (.dK kvs)) := by
  have hb : (B.base own H).H0 p = some (.dK kvs) := base_get ok h
  have z := kp_upd2 (o := .dK kvs) k ok.1
  have e : upd (B.lock own H p (.frz od (.dK kvs))).H0 p (.dK kvs) = (B.base own H).H0 := upd_back hb
  rw [e] at z
  exact z
theorem Ctx.unlock (c : Ctx B own H σ ρ) (h : H p = some (.dK kvs)) (ok : (B.w own).ok p) (c' : Ctx (B.lock own H p (.frz od (.dK kvs))) own' H' σ' ρ') : H' p = some (.frz od (.dK kvs)) ∧ Ctx B own' (upd H' p (.dK kvs)) σ' ρ' := by
  have hf := lock_at c ok c'.k
  have hb : (B.base own H).H0 p = some (.dK kvs) := base_get ok h
  have l := lk_unlock hf
  have no : ∀ i, own' i ≠ some p := fun i z => by
    have q := (c'.o i p z).1
    have q : upd _ p _ p = none := q
    rw [upd_same] at q
    cases q
  refine ⟨hf, c.of_base ⟨c.base.s0, (kp_unlock (B := B) c h ok c'.k : Kp B.st (B.base own H).H0 _), Wd.Ok.lk l c'.ok, IsE.lk l no c'.e, fun i a z => ⟨?_, (c'.o i a z).2⟩, c'.inj⟩⟩
  have q := (c'.o i a z).1
  have q : upd (B.base own H).H0 p _ a = none := q
  rw [upd_ne fun e => no i (by rw [← e]; exact z)] at q
  exact q
def endsL (p : Addr) (od : Obj) (u : HO) (D : Ends) : Ends := ⟨fun σ' H' => H' p = some (.frz od u) ∧ D.nx σ' (upd H' p u), fun v H' => H' p = some (.frz od u) ∧ D.rt v (upd H' p u), fun σ' H' => H' p = some (.frz od u) ∧ D.bk σ' (upd H' p u), fun σ' H' => H' p = some (.frz od u) ∧ D.ct σ' (upd H' p u)⟩
theorem Dl.lock (c : Ctx B own H σ ρ) (h : H p = some (.dK kvs)) (ok : (B.w own).ok p) (d : Dl B E D Ex) : Dl (B.lock own H p (.frz od (.dK kvs))) E (endsL p od (.dK kvs) D) (fun cls dd σ H' => H' p = some (.frz od (.dK kvs)) ∧ Ex cls dd σ (upd H' p (.dK kvs))) :=
  ⟨fun o r s h2 z cc => have q := Ctx.unlock c h ok cc; ⟨q.1, d.nx _ _ _ _ z q.2⟩, fun o r s h2 z cc => have q := Ctx.unlock c h ok cc; ⟨q.1, d.bk _ _ _ _ z q.2⟩, fun o r s h2 z cc => have q := Ctx.unlock c h ok cc; ⟨q.1, d.ct _ _ _ _ z q.2⟩,
    fun x v H' z k o i => have hf := lock_at c ok k; ⟨hf, d.rt x v _ z (c.kp_base (kp_unlock c h ok k)) (Wd.Ok.lk (lk_unlock hf) o) (Is.lk (W := B.w0) (lk_unlock hf) rfl (fun _ z => z) i)⟩,
    fun o r s h2 cc ns xs dd fs z c2 g1 g2 g3 g4 => have q := Ctx.unlock c h ok c2; have l := lk_unlock q.1; ⟨q.1, d.xc _ _ _ _ _ _ _ _ _ z q.2 (l.get g1 (fun _ z => nomatch z) (fun _ _ z => nomatch z)) g2 g3 (Iss.lk (W := B.w o) l rfl (fun _ z => z) g4)⟩⟩
end
section
variable {W : Wd} {H Hb : Hp} {p : Addr} {od : Obj} {kvs : List (Key × V)}
theorem wks_keys (h : H p = some (.frz od (.dK kvs))) (ok : W.ok p) (t : Thr W H Hb) : Wks (Itk p od kvs) W Hb ((kvs.map (·.1)).map kD) := by
  have hb := t p _ ok h
  have el : ((kvs.map (·.1)).map kD).length = kvs.length := by rw [List.length_map, List.length_map]
  refine Wks.old (fun n H' k l => ⟨k.o hb ok.1, by omega⟩) (fun n H' k l => ⟨k.o hb ok.1, by omega⟩) (fun n H' v H2 k y l => ?_)
  obtain ⟨rfl, q, u, hq, rfl⟩ := y
  refine ⟨rfl, kD q, ?_, kD_is q⟩
  rw [List.getElem?_map, List.getElem?_map, hq]
  rfl
/-- where the dict stands -/
def Src (td : TE) (sd : Env → (List Key → List DV → Prop) → Prop) : Prop := ∀ (W : Wd) (own : Nat → Option Addr) (H : Hp) (σ : L2.St) (ρ : Env) (R : List Key → List DV → Prop), IsE W own H σ ρ → sd ρ R →
  ∃ p kvs xs, Rd H p (.dK kvs) ∧ W.ok p ∧ kvs.length ≤ 1000000 ∧ (kvs.map (·.1)).Nodup ∧ Iss W H (kvs.map (·.2)) xs ∧ R (kvs.map (·.1)) xs ∧ ∀ H2, (∀ b, b ≠ p → H2 b = H b) → ∀ Q : VK, Q (.ref p) H2 → td σ H2 Q
/-- a name's dict -/
def asDI (R : List Key → List DV → Prop) : DV → Prop
  | .dic ks xs => R ks xs
  | _ => False
theorem asDI_ex {R : List Key → List DV → Prop} {d : DV} (h : asDI R d) : ∃ ks xs, d = .dic ks xs ∧ R ks xs := by
  unfold asDI at h
  split at h
  · exact ⟨_, _, rfl, h⟩
  · exact h.elim
def sV (i : Nat) (ρ : Env) (R : List Key → List DV → Prop) : Prop := atV (asDI R) ρ[i]?
theorem src_v (i : Nat) : Src (tVar i) (sV i) := fun W own H σ ρ R ie h => by
  obtain ⟨d, hx, h⟩ := atV_ex h
  obtain ⟨ks, xs, rfl, h⟩ := asDI_ex h
  obtain ⟨v, h1, h2⟩ := ie.dt i _ hx
  cases h2 with
  | @dic a kvs _ _ g1 g2 g3 g4 g5 g6 =>
    subst g4
    exact ⟨a, kvs, xs, g1, g2, g3, g5, g6, h, fun H2 _ Q q => ⟨_, h1, q⟩⟩
/-- a field of what a name holds -/
def sFd (C : Addr) (f : Str) (i : Nat) (ρ : Env) (R : List Key → List DV → Prop) : Prop := atV (fun d => ∃ ns xs x, d = .obj C ns xs ∧ lkD ns xs f = some x ∧ asDI R x) ρ[i]?
end
theorem wks_items (h : H p = some (.frz od (.dK kvs))) (ok : W.ok p) {xs : List DV} (is : Iss W H (kvs.map (·.2)) xs) (t : Thr W H Hb) : Wks (Iti p od kvs) W Hb (items (kvs.map (·.1)) xs) := by
  have hb := t p _ ok h
  have lx : kvs.length = xs.length := by have := is.len; rw [List.length_map] at this; exact this
  have el : (items (kvs.map (·.1)) xs).length = kvs.length := by unfold items; rw [List.length_zipWith, List.length_map]; omega
  refine ⟨fun n H' k l => ⟨k.o hb ok.1, by omega⟩, fun n H' k l => ⟨k.o hb ok.1, by omega⟩, fun n H' v H2 k y l => ?_⟩
  obtain ⟨T, q, u, hq, rfl, hT, rfl⟩ := y
  obtain ⟨x, hx, ix⟩ := is.get' (i := n) (v := u) (by rw [List.getElem?_map, hq]; rfl)
  refine ⟨same_new hT, .tup [kD q, x], ?_, fun W2 e o2 hw => ?_⟩
  · unfold items
    rw [List.getElem?_zipWith, List.getElem?_map, hq, hx]
    rfl
  · refine .tup upd_same (o2.fresh hT) (by show 2 ≤ 1000000; decide) (.cons (kD_is q) (.cons (Is.tr (W := W) (W' := W2) e (fun b o kk z => ?_) ix) .nil))
    have zb := t b o kk z
    exact ⟨hw b o kk zb, same_new hT _ _ (k.o zb kk.1)⟩
/-- how a locked dict is walked -/
structure DIt (ti : TE → TI) (mk : List Key → List DV → List DV) where
  J : Addr → Obj → List (Key × V) → It
  fits : ∀ {td : TE} {σ : L2.St} {H : Hp} {p : Addr} {od : Obj} {kvs : List (Key × V)} {R : It → Hp → Prop}, H p = some (.frz od (.dK kvs)) → (∀ Q : VK, Q (.ref p) H → td σ H Q) → R (J p od kvs) H → ti td σ H R
  wk : ∀ {W : Wd} {H Hb : Hp} {p : Addr} {od : Obj} {kvs : List (Key × V)} {xs : List DV}, H p = some (.frz od (.dK kvs)) → W.ok p → Iss W H (kvs.map (·.2)) xs → Thr W H Hb → Wks (J p od kvs) W Hb (mk (kvs.map (·.1)) xs)
def mkK (ks : List Key) (_ : List DV) : List DV := ks.map kD
def itK : DIt iKeys mkK := ⟨Itk, fun h ht r => ht _ ⟨_, _, rfl, .inl ⟨_, h, r⟩⟩, fun h ok _ t => wks_keys h ok t⟩
def itKM : DIt iKeysM mkK := ⟨Itk, fun h ht r => ht _ ⟨_, _, _, rfl, h, r⟩, fun h ok _ t => wks_keys h ok t⟩
def itI : DIt iItems items := ⟨Iti, fun h ht r => ht _ ⟨_, _, _, rfl, h, r⟩, fun h ok is t => wks_items h ok is t⟩
abbrev SD := Env → (List Key → List DV → Prop) → Prop
def wForK (mk : List Key → List DV → List DV) (sd : SD) (g : WG) (s : WS) : WS := fun E ρ => sd ρ fun ks xs => forL g s E (mk ks xs) ρ
section
variable {X : Cx} {e : Expr} {st : Stmt} {td : TE} {sd : SD} {g : TG} {gg : WG} {s : WS} {Ex : L2.WX} {ti : TE → TI} {mk : List Key → List DV → List DV}
theorem forK_locked (it : DIt ti mk) {B : Bs} {own : Nat → Option Addr} {H : Hp} {σ : L2.St} {ρ : Env} {E : WEnds} {D : Ends} {p : Addr} {od : Obj} {kvs : List (Key × V)} {xs : List DV} (hgg : Tg g gg) (c : Ctx B own H σ ρ) (h : H p = some (.frz od (.dK kvs))) (ok : (B.w own).ok p) (is : Iss (B.w own) H (kvs.map (·.2)) xs)
    (hf : forL gg s E (mk (kvs.map (·.1)) xs) ρ) (d : Dl B E D Ex) (ht : ∀ Q : VK, Q (.ref p) H → td σ H Q) : tFor (ti td) g (liftS Ex s) D σ H :=
  it.fits h ht (loop_wks hgg c (it.wk h ok is fun b o k z => base_get k z) hf d)
theorem dforK (it : DIt ti mk) (src : Src td sd) (hgg : Tg g gg) (h : PS X st (tFor (ti td) g (liftS (fun _ _ _ _ => False) s))) : PS X st (liftS (fun _ _ _ _ => False) (wForK mk sd gg s)) := by
  have hl := ps_lock h
  refine ⟨fun pins s σ H D I hw => ?_⟩
  obtain ⟨B, own, ρ, E, c, z, d⟩ := hw
  obtain ⟨p, kvs, xs, rd, ok, l, nd, is, hf, ht⟩ := src _ _ _ _ _ _ c.e z
  rcases rd with rd | ⟨od, rd⟩
  · refine hl.run pins s σ H D I ⟨p, .dK kvs, rd, trivial, fun od => ?_⟩
    have d2 := d.lock (od := od) c rd ok
    exact forK_locked it hgg (c.lock rd ok) upd_same ok (Iss.lk (W := B.w own) (lk_lock rd) rfl (fun _ z => z) is) hf ⟨d2.nx, d2.bk, d2.ct, d2.rt, fun o r s h2 cc ns xs dd fs z c2 g1 g2 g3 g4 => (d2.xc o r s h2 cc ns xs dd fs z c2 g1 g2 g3 g4).2.elim⟩ (ht _ fun b n => upd_ne n)
  · exact h.run pins s σ H D I (forK_locked it hgg c rd ok is hf d (ht _ fun _ _ => rfl))
theorem dforKX (it : DIt ti mk) {P : Program} {w : World} {K : PySem.W.Frag} {mg : Str → Option Value} {base : Heap} {N : List Str} {qual : Str} {scope : Scope} {f : Addr} {cd : Value} {A : Around} {outer : List PySem.Env} {s0 : Shared} {H0 : Hp} {E0 : XK} (src : Src td sd) (hgg : Tg g gg)
    (h : ∀ E', L2N.Takes (cxOf (L2N.CX P w) P w K mg base N qual scope f cd A outer s0 H0 E') (fun cls d _ H => E' cls d H) → PS (cxOf (L2N.CX P w) P w K mg base N qual scope f cd A outer s0 H0 E') st (tFor (ti td) g (liftS (fun cls d _ H => E' cls d H) s))) :
    PS (cxOf (L2N.CX P w) P w K mg base N qual scope f cd A outer s0 H0 E0) st (liftS (fun cls d _ H => E0 cls d H) (wForK mk sd gg s)) := by
  have h1 := fun E' => h E' (L2N.takes_of rfl rfl rfl rfl)
  have hl := ps_lockX (E := E0) h1
  refine ⟨fun pins s σ H D I hw => ?_⟩
  obtain ⟨B, own, ρ, E, c, z, d⟩ := hw
  obtain ⟨p, kvs, xs, rd, ok, l, nd, is, hf, ht⟩ := src _ _ _ _ _ _ c.e z
  rcases rd with rd | ⟨od, rd⟩
  · refine hl.run pins s σ H D I ⟨p, kvs, rd, fun od => ?_⟩
    exact forK_locked it hgg (c.lock rd ok) upd_same ok (Iss.lk (W := B.w own) (lk_lock rd) rfl (fun _ z => z) is) hf (d.lock (od := od) c rd ok) (ht _ fun b n => upd_ne n)
  · exact (h1 E0).run pins s σ H D I (forK_locked it hgg c rd ok is hf d (ht _ fun _ _ => rfl))
end
def fLcK (mk : List Key → List DV → List DV) (sd : SD) (gg : WG) (t : WT) (w : WE) (vs : List Nat) : WF := fun ρ R => sd ρ fun ks xs => (mk ks xs).length ≤ 1000000 ∧ lcL gg t w (mk ks xs) (wiL ρ vs) [] R
section
variable {X : Cx} {e : Expr} {td : TE} {sd : SD} {g : TG} {gg : WG} {t : WT} {tt : TT} {w : WE} {vs : List Nat} {ti : TE → TI} {mk : List Key → List DV → List DV}
theorem lcK_locked (it : DIt ti mk) {W : Wd} {own : Nat → Option Addr} {H : Hp} {σ : L2.St} {ρ : Env} {p : Addr} {od : Obj} {kvs : List (Key × V)} {xs : List DV} {R : List DV → Prop} {Q : VK} (hg : Tc g gg vs) (ht : ∀ σ H Q, liftT t σ H Q → tt σ H Q) (o : W.Ok H) (ie : IsE W own H σ ρ) (h : H p = some (.frz od (.dK kvs))) (ok : W.ok p) (is : Iss W H (kvs.map (·.2)) xs)
    (z : (mk (kvs.map (·.1)) xs).length ≤ 1000000 ∧ lcL gg t w (mk (kvs.map (·.1)) xs) (wiL ρ vs) [] R) (f : FinF W H R Q) (he : ∀ Q : VK, Q (.ref p) H → td σ H Q) : tLc (ti td) g tt (lift w) vs σ H Q :=
  it.fits h he (lc_wks (J := it.J p od kvs) hg ht o ie (it.wk h ok is fun _ _ _ z => z) z.1 z.2 f)
theorem dlcK (it : DIt ti mk) (src : Src td sd) (hg : Tc g gg vs) (ht : ∀ σ H Q, liftT t σ H Q → tt σ H Q) (h : PE X e (tLc (ti td) g tt (lift w) vs)) : PE X e (liftF (fLcK mk sd gg t w vs)) := by
  have hl := pe_lock h
  refine ⟨fun pins s σ H Q I hw => ?_⟩
  obtain ⟨W, own, ρ, R, o, ie, z, f⟩ := hw
  obtain ⟨p, kvs, xs, rd, ok, l, nd, is, hf, he⟩ := src _ _ _ _ _ _ ie z
  rcases rd with rd | ⟨od, rd⟩
  · refine hl.run pins s σ H Q I ⟨p, .dK kvs, rd, trivial, fun od => ?_⟩
    have lk := lk_lock (od := od) rd
    have no : ∀ i, own i ≠ some p := fun i z => ok.2 (ie.hd i p z)
    refine lcK_locked it hg ht (Wd.Ok.lk lk o) (IsE.lk lk no ie) upd_same ok (Iss.lk (W := W) lk rfl (fun _ z => z) is) hf (fun ys us q H1 r k1 o1 i1 l1 hq => ?_) (he _ fun b n => upd_ne n)
    have hf1 : H1 p = some (.frz od (.dK kvs)) := k1.o upd_same ok.1
    have nq : q ≠ p := fun e => by rw [e, hf1] at hq; cases hq
    have lu := lk_unlock hf1
    have kk : Kp W.st H (upd H1 p (.dK kvs)) := by
      have z := kp_upd2 (o := .dK kvs) k1 ok.1
      rw [upd_back rd] at z
      exact z
    have e : upd (upd H1 q (.lst us)) p (.dK kvs) = upd (upd H1 p (.dK kvs)) q (.lst us) := by
      funext b
      by_cases e1 : b = p
      · rw [e1, upd_same, upd_ne (Ne.symm nq), upd_same]
      · by_cases e2 : b = q
        · rw [e2, upd_ne nq, upd_same, upd_same]
        · rw [upd_ne e1, upd_ne e2, upd_ne e2, upd_ne e1]
    refine ⟨by rw [upd_ne (Ne.symm nq)]; exact hf1, ?_⟩
    rw [e]
    exact f ys us q _ r kk (Wd.Ok.lk lu o1) (Iss.lk (W := W) lu rfl (fun _ z => z) i1) l1 (by rw [upd_ne nq]; exact hq)
  · exact h.run pins s σ H Q I (lcK_locked it hg ht o ie rd ok is hf f (he _ fun _ _ => rfl))
end
end DL
namespace NW
open PySem PySem.Spec PyProof.Rows L2
section
variable {P : Program} {w : World} {K : PySem.W.Frag} {mg : Str → Option Value} {base : Heap} {C : Addr} {m qual : Str} {params : Arguments} {body : List Stmt} {scope : Scope} {N ps : List Str} {k : Nat} {sp : Sp}
/-- a method that may raise -/
theorem hasMX_of {t : XK → TS} (F : ∃ f fd, Meth K C m f ∧ FunD K m qual params body scope [] [] f fd) (S : FnScope N ps scope) (len : ∀ vs H Q E, sp vs H Q E → vs.length = ps.length)
    (bn : ∀ (kV doc pm : Value) (an : Option Addr) (cdv ct : Value) (us : List Value), us.length = ps.length → bindArgs (PySem.W.fnOf m qual params body scope .none kV doc pm an cdv ct) ⟨us, []⟩ = pure (ps.zip us))
    (d : ∀ (f : Addr) (cdv : Value) (A : Around) (outer : List PySem.Env) (s : Shared) (H : Hp) (E : XK), Room k (A.deeper (envOfC qual scope s.heap.objs.size f cdv)) →
      L2N.Takes (cxOf (L2N.CX P w) P w K mg base N qual scope f cdv A outer s H E) (fun cls d _ H => E cls d H) → PSs (cxOf (L2N.CX P w) P w K mg base N qual scope f cdv A outer s H E) body (t E))
    (pure_ : ∀ vs H Q E, sp vs H Q E → t E { nx := fun _ H' => Q .non H', rt := Q } (L2.start N vs) H) : HasM P w K mg base C m (k + 1) ps sp := by
  obtain ⟨f, fd, hm, F⟩ := F
  exact ⟨f, fd, hm, F.bindsN bn, F.ok S len fun cdv A outer s H vs Q E hr h => ⟨t E, d f cdv A outer s H E hr (L2N.takes_of rfl rfl rfl rfl), pure_ vs H Q E h⟩⟩
end
end NW
namespace DL
open PySem PySem.Spec PyProof.Rows L2 NW
def isO (C : Addr) (d : DV) : Prop := ∃ ns xs, d = .obj C ns xs
def isOb (d : DV) : Prop := ∃ D ns xs, d = .obj D ns xs
def dBinI (C : Addr) (s : DS1) : D2 := fun x y R => isO C x ∧ isO C y ∧ s [x, y] fun v => isOb v ∧ R v
def dBinX (C : Addr) (s : DS2) : D2 := fun x y R => isO C x ∧ isO C y ∧ s [x, y] (fun v => isOb v ∧ R v) fun _ => False
section
variable {Ex : L2.WX} {X : Cx} {e a b : Expr} {w wa wb : WE} {pos : Pos} {st : Stmt} {C : Addr}
/-- x = a - b, what it raises wished for -/
def wAsgB (i : Nat) (C : Addr) (s : DS2) (wa wb : WE) : WS := fun E ρ => wa ρ fun x => wb ρ fun y => isO C x ∧ isO C y ∧ s [x, y] (fun v => isOb v ∧ E.nx (ρ.set i (.dt v))) fun z => E.xc z ρ
/-- t + u of tuples -/
def dAddT : D2 := fun x y R => ∃ xs ys, x = .tup xs ∧ y = .tup ys ∧ xs.length + ys.length ≤ 1000000 ∧ R (.tup (xs ++ ys))
/-- x.extend(e) of a list of one's own -/
def wExt (i : Nat) (w : WE) : WS := fun E ρ => atO (fun xs => w ρ fun d => ∃ ys, d = .lst ys ∧ xs.length + ys.length ≤ 1000000 ∧ E.nx (ρ.set i (.ow (xs ++ ys)))) ρ[i]?
/-- sorted(set(xs)) of ints -/
def fSortI (w : WE) : WF := fun ρ R => w ρ fun d => ∃ ns : List Int, d = .lst (ns.map DV.int) ∧ ns.length ≤ 2000 ∧ ∀ ms : List Int, ms.Pairwise (· < ·) → (∀ k, k ∈ ms ↔ k ∈ ns) → ms.length ≤ ns.length → R (ms.map DV.int)
/-- a list's part, as a list of one's own -/
def fSl (w : WE) (l h : WP) : WF := fun ρ R => w ρ fun d => l ρ fun lo => h ρ fun hi => ∃ xs, d = .lst xs ∧ R (cutG xs lo hi)
end
end DL
namespace DL
open PySem PySem.Spec PyProof.Rows L2 NW
local macro_rules | `(tactic| walk_at "dl1") => `(tactic| simp only [wForK, fLcK, sFd, sV, wExt, dAddT, dBinI, dBinX, wAsgB, fSortI, fSl, wAsgD, wPutD, atD, atDR, asK, wInOD, wLenOD, fCallN, wCallB, wCallK, wCallD, wDropK, frzE, frz1, wFld, wProp, wMeth, wMeth0, wLenI, dInI, dEqI, tyOk, iOwnD, iVk, wIsC, isC, wSelf, wSelfD, atS, wGet, asD, wGetO, wInDD, wDict, wTrev, dTrev, wMkI, wMkI0, wDropI, wAsgIO, frzL1, wSetO, dSumA, dEqT, dIntL, wCallF, flatR, wRaise1, fSrt, wItems, wTry, wAsgX, wDropX, wKd, wXf, wSeq, wAsg, wAsgO, wRet, wIfS, wNx, wPass, wBk, wCt, wDrop, wAug, wApp, wAppPop, wPop, wFor, wFz, wV, wVP, atV, atP, atO, wC, wOp, wCall, wCallN, wCB, aC, aN, wL, wTu, fL, wF, fCat, fList, wTB, wTru, wAnd, wOr, wNot, wAndV, wOrV, wNotV, wIf, wChain, wIsN, wNeg, dNeg, wSl, pN, pP, dSl, wLrev, dLrev, wIsi, wIsi2, iL, iT, iV, iS, iR1, iR2, gN, fLc, wYes, wiL,
  dAdd, dSub, dMul, dMulS, dMulL, dDiv, dMod, dLt, dLe, dGt, dGe, dEq, dNe, eqD, dIn, dNi, dIx, dTru, isNon, dLen, dInt, dAbs, dMax, dMin, dList, dTup, dStr, dIAdd, frzE, frz1, startD, List.map_cons, List.map_nil, List.length_cons, List.length_nil, List.replicate_succ, List.replicate_zero, List.cons_append, List.nil_append, List.append_nil, List.getElem?_cons_zero, List.getElem?_cons_succ, List.set_cons_zero, List.set_cons_succ, Nat.reduceSub, Nat.reduceAdd, if_true, if_false, ite_true, ite_false, reduceIte, Bool.false_eq_true, decide_true, decide_false, Bool.not_true, Bool.not_false, Bool.not_eq_true', decide_eq_true_eq, decide_eq_false_iff_not, isi_dic_bool, isi_dic_int, isi_dic_str, isi_dic_dict, Bool.true_eq_false, isi_int_int, isi_int_bool, isi_bl_int, isi_bl_bool, isi_non_int, isi_non_bool, isi_str_int, isi_str_bool, isi_str_str, isi_lst_list, isi_tup_tuple, Option.some.injEq, exists_eq_left', exists_eq_left, DV.int.injEq, DV.str.injEq, DV.bl.injEq, List.cons.injEq, and_true, true_and])
local macro_rules | `(tactic| walk_at "dl") => `(tactic| try walk_at "dl1")
local macro_rules | `(tactic| walk_at "go") => `(tactic| repeat' (first
  | (intro _)
  | walk_at "dl1"
  | (refine ⟨by first | decide | omega, ?_⟩)
  | split))
end DL
namespace DL
open PySem PySem.Spec PyProof.Rows L2 NW
local macro_rules | `(tactic| walk_at "dl1") => `(tactic| simp only [wForK, fLcK, sFd, sV, wExt, dAddT, dBinI, dBinX, wAsgB, fSortI, fSl, wAsgD, wPutD, atD, atDR, asK, wInOD, wLenOD, fCallN, wCallB, wCallK, wCallD, wDropK, frzE, frz1, wFld, wProp, wMeth, wMeth0, wLenI, dInI, dEqI, tyOk, iOwnD, iVk, wIsC, isC, wSelf, wSelfD, atS, wGet, asD, wGetO, wInDD, wDict, wTrev, dTrev, wMkI, wMkI0, wDropI, wAsgIO, frzL1, wSetO, dSumA, dEqT, dIntL, wCallF, flatR, wRaise1, fSrt, wItems, wTry, wAsgX, wDropX, wKd, wXf, wSeq, wAsg, wAsgO, wRet, wIfS, wNx, wPass, wBk, wCt, wDrop, wAug, wApp, wAppPop, wPop, wFor, wFz, wV, wVP, atV, atP, atO, wC, wOp, wCall, wCallN, wCB, aC, aN, wL, wTu, fL, wF, fCat, fList, wTB, wTru, wAnd, wOr, wNot, wAndV, wOrV, wNotV, wIf, wChain, wIsN, wNeg, dNeg, wSl, pN, pP, dSl, wLrev, dLrev, wIsi, wIsi2, iL, iT, iV, iS, iR1, iR2, gN, fLc, wYes, wiL,
  dAdd, dSub, dMul, dMulS, dMulL, dDiv, dMod, dLt, dLe, dGt, dGe, dEq, dNe, eqD, dIn, dNi, dIx, dTru, isNon, dLen, dInt, dAbs, dMax, dMin, dList, dTup, dStr, dIAdd, frzE, frz1, startD, List.map_cons, List.map_nil, List.length_cons, List.length_nil, List.replicate_succ, List.replicate_zero, List.cons_append, List.nil_append, List.append_nil, List.getElem?_cons_zero, List.getElem?_cons_succ, List.set_cons_zero, List.set_cons_succ, Nat.reduceSub, Nat.reduceAdd, if_true, if_false, ite_true, ite_false, reduceIte, Bool.false_eq_true, decide_true, decide_false, Bool.not_true, Bool.not_false, Bool.not_eq_true', decide_eq_true_eq, decide_eq_false_iff_not, isi_dic_bool, isi_dic_int, isi_dic_str, isi_dic_dict, Bool.true_eq_false, isi_int_int, isi_int_bool, isi_bl_int, isi_bl_bool, isi_non_int, isi_non_bool, isi_str_int, isi_str_bool, isi_str_str, isi_lst_list, isi_tup_tuple, Option.some.injEq, exists_eq_left', exists_eq_left, DV.int.injEq, DV.str.injEq, DV.bl.injEq, List.cons.injEq, and_true, true_and])
local macro_rules | `(tactic| walk_at "dl") => `(tactic| try walk_at "dl1")
local macro_rules | `(tactic| walk_at "go") => `(tactic| repeat' (first
  | (intro _)
  | walk_at "dl1"
  | (refine ⟨by first | decide | omega, ?_⟩)
  | split))
end DL
namespace DL
open PySem PySem.Spec PyProof.Rows L2 NW
local macro_rules | `(tactic| walk_at "dl1") => `(tactic| simp only [wForK, fLcK, sFd, sV, wExt, dAddT, dBinI, dBinX, wAsgB, fSortI, fSl, wAsgD, wPutD, atD, atDR, asK, wInOD, wLenOD, fCallN, wCallB, wCallK, wCallD, wDropK, frzE, frz1, wFld, wProp, wMeth, wMeth0, wLenI, dInI, dEqI, tyOk, iOwnD, iVk, wIsC, isC, wSelf, wSelfD, atS, wGet, asD, wGetO, wInDD, wDict, wTrev, dTrev, wMkI, wMkI0, wDropI, wAsgIO, frzL1, wSetO, dSumA, dEqT, dIntL, wCallF, flatR, wRaise1, fSrt, wItems, wTry, wAsgX, wDropX, wKd, wXf, wSeq, wAsg, wAsgO, wRet, wIfS, wNx, wPass, wBk, wCt, wDrop, wAug, wApp, wAppPop, wPop, wFor, wFz, wV, wVP, atV, atP, atO, wC, wOp, wCall, wCallN, wCB, aC, aN, wL, wTu, fL, wF, fCat, fList, wTB, wTru, wAnd, wOr, wNot, wAndV, wOrV, wNotV, wIf, wChain, wIsN, wNeg, dNeg, wSl, pN, pP, dSl, wLrev, dLrev, wIsi, wIsi2, iL, iT, iV, iS, iR1, iR2, gN, fLc, wYes, wiL,
  dAdd, dSub, dMul, dMulS, dMulL, dDiv, dMod, dLt, dLe, dGt, dGe, dEq, dNe, eqD, dIn, dNi, dIx, dTru, isNon, dLen, dInt, dAbs, dMax, dMin, dList, dTup, dStr, dIAdd, frzE, frz1, startD, List.map_cons, List.map_nil, List.length_cons, List.length_nil, List.replicate_succ, List.replicate_zero, List.cons_append, List.nil_append, List.append_nil, List.getElem?_cons_zero, List.getElem?_cons_succ, List.set_cons_zero, List.set_cons_succ, Nat.reduceSub, Nat.reduceAdd, if_true, if_false, ite_true, ite_false, reduceIte, Bool.false_eq_true, decide_true, decide_false, Bool.not_true, Bool.not_false, Bool.not_eq_true', decide_eq_true_eq, decide_eq_false_iff_not, isi_dic_bool, isi_dic_int, isi_dic_str, isi_dic_dict, Bool.true_eq_false, isi_int_int, isi_int_bool, isi_bl_int, isi_bl_bool, isi_non_int, isi_non_bool, isi_str_int, isi_str_bool, isi_str_str, isi_lst_list, isi_tup_tuple, Option.some.injEq, exists_eq_left', exists_eq_left, DV.int.injEq, DV.str.injEq, DV.bl.injEq, List.cons.injEq, and_true, true_and])
local macro_rules | `(tactic| walk_at "dl") => `(tactic| try walk_at "dl1")
local macro_rules | `(tactic| walk_at "go") => `(tactic| repeat' (first
  | (intro _)
  | walk_at "dl1"
  | (refine ⟨by first | decide | omega, ?_⟩)
  | split))
end DL
namespace DL
open PySem PySem.Spec PyProof.Rows L2 NW
abbrev DSFD := List DV → (List Key → List DV → Prop) → (DV → Prop) → Prop
abbrev WFD := Env → (List Key → List DV → Prop) → Prop
def FinFD (W : Wd) (H : Hp) (R : List Key → List DV → Prop) (Q : VK) : Prop := ∀ ks xs (kvs : List (Key × V)) q H1, R ks xs → Kp W.st H H1 → W.Ok H1 → Iss W H1 (kvs.map (·.2)) xs → kvs.map (·.1) = ks → ks.Nodup → kvs.length ≤ 1000000 → H1 q = none → Q (.ref q) (upd H1 q (.dK kvs))
/-- .. taken as data -/
def sD (s : DSFD) : DS2 := fun ds R RX => s ds (fun ks xs => R (.dic ks xs)) RX
theorem Fin.fd {W : Wd} {H : Hp} {R : DV → Prop} {Q : VK} (f : Fin W H R Q) : FinFD W H (fun ks xs => R (.dic ks xs)) Q := fun ks xs kvs q H1 r k o i e n l hq =>
  f (.dic ks xs) (.ref q) _ r (k.trans (Kp.same (same_new hq))) (o.new hq) (.dic (.inl upd_same) (o.fresh hq) l e n (i.mono (Kp.same (same_new hq))))
def liftFD (w : WFD) : TE := fun σ H Q => ∃ W own ρ R, W.Ok H ∧ IsE W own H σ ρ ∧ w ρ R ∧ FinFD W H R Q
theorem FinFD.mono {W : Wd} {H H' : Hp} {R : List Key → List DV → Prop} {Q : VK} (f : FinFD W H R Q) (k : Kp W.st H H') : FinFD W H' R Q := fun ks xs kvs q H1 r k1 => f ks xs kvs q H1 r (k.trans k1)
section
variable {Ex : L2.WX} {X : Cx} {e : Expr} {st : Stmt} {w : WE} {r : WA} {C : Addr} {m : Str}
/-- dict(d) -/
def fDict (w : WE) : WFD := fun ρ R => w ρ fun d => asDI R d
/-- a call of such a def -/
def fCallD (s : DSFD) (r : WA) : WFD := fun ρ R => r ρ fun ds => s ds R fun _ => False
/-- .. of such a method -/
def fMethD (C : Addr) (m : Str) (s : DSFD) (w : WE) : WFD := fun ρ R => w ρ fun d => (∃ ns xs, d = .obj C ns xs ∧ m ∉ ns) ∧ s [d] R fun _ => False
/-- x = such a dict -/
def wAsgFD (i : Nat) (w : WFD) : WS := fun E ρ => w ρ fun ks xs => E.nx (ρ.set i (.od ks xs))
end
end DL
namespace NW
open PySem PySem.Spec PyProof.Rows L2
end NW
namespace DL
open PySem PySem.Spec PyProof.Rows L2 NW
abbrev SCM := List Key → List DV → (DV → Prop) → (DV → Prop) → Prop
section
variable {Ex : L2.WX} {X : Cx} {e : Expr} {st : Stmt} {r : WA} {C : Addr} {s : SCM}
def asD1 (R : List Key → List DV → Prop) : List DV → Prop
  | [.dic ks xs] => R ks xs
  | _ => False
def wCM (s : SCM) (r : WA) : WE := fun ρ R => r ρ fun ds => asD1 (fun ks xs => s ks xs R fun _ => False) ds
def wDropCM (s : SCM) (r : WA) : WS := fun E ρ => r ρ fun ds => asD1 (fun ks xs => s ks xs (fun _ => E.nx ρ) fun x => E.xc x ρ) ds
/-- x = C.m(y), y a dict of one's own -/
def wAsgCM (i j : Nat) (s : SCM) : WS := fun E ρ => atD (fun ks xs => s ks xs (fun d => E.nx (ρ.set i (.dt d))) fun _ => False) ρ[j]?
/-- list(x.items()), x a dict of one's own or not -/
def wItemsO (i : Nat) : WE := fun ρ R => atDR (fun ks xs => R (.lst (items ks xs))) ρ[i]?
/-- sorted(xs) of pairs of ints -/
def pairD (p : Int × Int) : DV := .tup [.int p.1, .int p.2]
def fSortP (w : WE) : WF := fun ρ R => w ρ fun d => ∃ ps : List (Int × Int), d = .lst (ps.map pairD) ∧ ∀ qs : List (Int × Int), qs.Perm ps → qs.Pairwise (fun a b => SrtO.lexB b a = false) → R (qs.map pairD)
end
end DL
namespace DL
open PySem PySem.Spec PyProof.Rows L2 NW
def gP (i j : Nat) : WG := fun d ρ K => match d with
  | .tup [x, y] => K ((ρ.set i (.dt x)).set j (.dt y))
  | _ => False
theorem tgP {K : PySem.W.Frag} (i j : Nat) : Tg (gTup K 2 (gCons (gName i) (gCons (gName j) gNil))) (gP i j) := fun B own H σ ρ v d K' Q c h k q => by
  unfold gP at k
  split at k
  · cases h with
    | @tup a vs _ h1 h2 h3 h4 =>
      cases h4 with
      | cons x r => cases r with
        | cons y r =>
          cases r
          have c1 := c.set i x
          have y1 : Is (B.w (DL.cut own i)) H _ _ := y.cut
          exact ⟨a, _, rfl, SqT.of h1, rfl, _, _, rfl, _, _, rfl, rfl, q _ _ _ k (c1.set j y1)⟩
  · exact k.elim
theorem passNS {X : Cx} : ∀ σ : L2.St, PassesAt (L2N.CX X.prog X.w) X σ E0 := fun σ pins H s e s' I c => passN pins σ H s e s' I c
local macro_rules | `(tactic| walk_at "dl1") => `(tactic| simp only [gP, wAsgFD, fCallD, fMethD, fDict, wCM, asD1, wDropCM, wAsgCM, wItemsO, fSortP, wForK, fLcK, sFd, sV, wExt, dAddT, dBinI, dBinX, wAsgB, fSortI, fSl, wAsgD, wPutD, atD, atDR, asK, wInOD, wLenOD, fCallN, wCallB, wCallK, wCallD, wDropK, frzE, frz1, wFld, wProp, wMeth, wMeth0, wLenI, dInI, dEqI, tyOk, iOwnD, iVk, wIsC, isC, wSelf, wSelfD, atS, wGet, asD, wGetO, wInDD, wDict, wTrev, dTrev, wMkI, wMkI0, wDropI, wAsgIO, frzL1, wSetO, dSumA, dEqT, dIntL, wCallF, flatR, wRaise1, fSrt, wItems, wTry, wAsgX, wDropX, wKd, wXf, wSeq, wAsg, wAsgO, wRet, wIfS, wNx, wPass, wBk, wCt, wDrop, wAug, wApp, wAppPop, wPop, wFor, wFz, wV, wVP, atV, atP, atO, wC, wOp, wCall, wCallN, wCB, aC, aN, wL, wTu, fL, wF, fCat, fList, wTB, wTru, wAnd, wOr, wNot, wAndV, wOrV, wNotV, wIf, wChain, wIsN, wNeg, dNeg, wSl, pN, pP, dSl, wLrev, dLrev, wIsi, wIsi2, iL, iT, iV, iS, iR1, iR2, gN, fLc, wYes, wiL,
  dAdd, dSub, dMul, dMulS, dMulL, dDiv, dMod, dLt, dLe, dGt, dGe, dEq, dNe, eqD, dIn, dNi, dIx, dTru, isNon, dLen, dInt, dAbs, dMax, dMin, dList, dTup, dStr, dIAdd, frzE, frz1, startD, List.map_cons, List.map_nil, List.length_cons, List.length_nil, List.replicate_succ, List.replicate_zero, List.cons_append, List.nil_append, List.append_nil, List.getElem?_cons_zero, List.getElem?_cons_succ, List.set_cons_zero, List.set_cons_succ, Nat.reduceSub, Nat.reduceAdd, if_true, if_false, ite_true, ite_false, reduceIte, Bool.false_eq_true, decide_true, decide_false, Bool.not_true, Bool.not_false, Bool.not_eq_true', decide_eq_true_eq, decide_eq_false_iff_not, isi_dic_bool, isi_dic_int, isi_dic_str, isi_dic_dict, Bool.true_eq_false, isi_int_int, isi_int_bool, isi_bl_int, isi_bl_bool, isi_non_int, isi_non_bool, isi_str_int, isi_str_bool, isi_str_str, isi_lst_list, isi_tup_tuple, Option.some.injEq, exists_eq_left', exists_eq_left, DV.int.injEq, DV.str.injEq, DV.bl.injEq, List.cons.injEq, and_true, true_and])
local macro_rules | `(tactic| walk_at "dl") => `(tactic| try walk_at "dl1")
local macro_rules | `(tactic| walk_at "go") => `(tactic| repeat' (first
  | (intro _)
  | walk_at "dl1"
  | (refine ⟨by first | decide | omega, ?_⟩)
  | split))
def isNum (v : DV) (lo hi : Int) : Bool := match v with
  | .int i => decide (lo ≤ i) && decide (i ≤ hi)
  | _ => false
def w_Pis_number : WS :=
  (wRet (wAndV (wIsi "int" (wVP 0)) (wAndV (wNotV (wIsi "bool" (wVP 0))) (wChain dLe dLe (wVP 1) (wVP 0) (wVP 2)))))
def s_Pis_number : DS1 := fun ds R => ∃ v lo hi, ds = [v, .int lo, .int hi] ∧ flatR v ∧ R (.bl (isNum v lo hi))
theorem l_Pis_number : ∀ ds R, s_Pis_number ds R → ds.length = 3 := by
  rintro ds R ⟨_, _, _, rfl, _⟩
  rfl
theorem o_Pis_number : Owes 3 s_Pis_number w_Pis_number := by
  rintro ds R ⟨v, lo, hi, rfl, hv, r⟩
  unfold w_Pis_number
  cases v with
  | int i =>
    walk_at "dl"
    by_cases h : lo ≤ i
    · rw [if_pos h]
      have e : isNum (.int i) lo hi = decide (i ≤ hi) := by
        show (decide (lo ≤ i) && decide (i ≤ hi)) = _
        rw [decide_eq_true h]
        rfl
      rw [← e]
      exact r
    · rw [if_neg h]
      have e : isNum (.int i) lo hi = false := by
        show (decide (lo ≤ i) && decide (i ≤ hi)) = _
        rw [decide_eq_false h]
        rfl
      rw [← e]
      exact r
  | bl b =>
    walk_at "dl"
    exact r
  | str s =>
    walk_at "dl"
    exact r
  | non =>
    walk_at "dl"
    exact r
  | _ => exact hv.elim
end DL
namespace DL
open PySem PySem.Spec PyProof.Rows L2 NW
local macro_rules | `(tactic| walk_at "dl1") => `(tactic| simp only [gP, wAsgFD, fCallD, fMethD, fDict, wCM, asD1, wDropCM, wAsgCM, wItemsO, fSortP, wForK, fLcK, sFd, sV, wExt, dAddT, dBinI, dBinX, wAsgB, fSortI, fSl, wAsgD, wPutD, atD, atDR, asK, wInOD, wLenOD, fCallN, wCallB, wCallK, wCallD, wDropK, frzE, frz1, wFld, wProp, wMeth, wMeth0, wLenI, dInI, dEqI, tyOk, iOwnD, iVk, wIsC, isC, wSelf, wSelfD, atS, wGet, asD, wGetO, wInDD, wDict, wTrev, dTrev, wMkI, wMkI0, wDropI, wAsgIO, frzL1, wSetO, dSumA, dEqT, dIntL, wCallF, flatR, wRaise1, fSrt, wItems, wTry, wAsgX, wDropX, wKd, wXf, wSeq, wAsg, wAsgO, wRet, wIfS, wNx, wPass, wBk, wCt, wDrop, wAug, wApp, wAppPop, wPop, wFor, wFz, wV, wVP, atV, atP, atO, wC, wOp, wCall, wCallN, wCB, aC, aN, wL, wTu, fL, wF, fCat, fList, wTB, wTru, wAnd, wOr, wNot, wAndV, wOrV, wNotV, wIf, wChain, wIsN, wNeg, dNeg, wSl, pN, pP, dSl, wLrev, dLrev, wIsi, wIsi2, iL, iT, iV, iS, iR1, iR2, gN, fLc, wYes, wiL,
  dAdd, dSub, dMul, dMulS, dMulL, dDiv, dMod, dLt, dLe, dGt, dGe, dEq, dNe, eqD, dIn, dNi, dIx, dTru, isNon, dLen, dInt, dAbs, dMax, dMin, dList, dTup, dStr, dIAdd, frzE, frz1, startD, List.map_cons, List.map_nil, List.length_cons, List.length_nil, List.replicate_succ, List.replicate_zero, List.cons_append, List.nil_append, List.append_nil, List.getElem?_cons_zero, List.getElem?_cons_succ, List.set_cons_zero, List.set_cons_succ, Nat.reduceSub, Nat.reduceAdd, if_true, if_false, ite_true, ite_false, reduceIte, Bool.false_eq_true, decide_true, decide_false, Bool.not_true, Bool.not_false, Bool.not_eq_true', decide_eq_true_eq, decide_eq_false_iff_not, isi_dic_bool, isi_dic_int, isi_dic_str, isi_dic_dict, Bool.true_eq_false, isi_int_int, isi_int_bool, isi_bl_int, isi_bl_bool, isi_non_int, isi_non_bool, isi_str_int, isi_str_bool, isi_str_str, isi_lst_list, isi_tup_tuple, Option.some.injEq, exists_eq_left', exists_eq_left, DV.int.injEq, DV.str.injEq, DV.bl.injEq, List.cons.injEq, and_true, true_and])
local macro_rules | `(tactic| walk_at "dl") => `(tactic| try walk_at "dl1")
local macro_rules | `(tactic| walk_at "go") => `(tactic| repeat' (first
  | (intro _)
  | walk_at "dl1"
  | (refine ⟨by first | decide | omega, ?_⟩)
  | split))
end DL
namespace DL
open PySem PySem.Spec PyProof.Rows L2 NW
local macro_rules | `(tactic| walk_at "dl1") => `(tactic| simp only [gP, wAsgFD, fCallD, fMethD, fDict, wCM, asD1, wDropCM, wAsgCM, wItemsO, fSortP, wForK, fLcK, sFd, sV, wExt, dAddT, dBinI, dBinX, wAsgB, fSortI, fSl, wAsgD, wPutD, atD, atDR, asK, wInOD, wLenOD, fCallN, wCallB, wCallK, wCallD, wDropK, frzE, frz1, wFld, wProp, wMeth, wMeth0, wLenI, dInI, dEqI, tyOk, iOwnD, iVk, wIsC, isC, wSelf, wSelfD, atS, wGet, asD, wGetO, wInDD, wDict, wTrev, dTrev, wMkI, wMkI0, wDropI, wAsgIO, frzL1, wSetO, dSumA, dEqT, dIntL, wCallF, flatR, wRaise1, fSrt, wItems, wTry, wAsgX, wDropX, wKd, wXf, wSeq, wAsg, wAsgO, wRet, wIfS, wNx, wPass, wBk, wCt, wDrop, wAug, wApp, wAppPop, wPop, wFor, wFz, wV, wVP, atV, atP, atO, wC, wOp, wCall, wCallN, wCB, aC, aN, wL, wTu, fL, wF, fCat, fList, wTB, wTru, wAnd, wOr, wNot, wAndV, wOrV, wNotV, wIf, wChain, wIsN, wNeg, dNeg, wSl, pN, pP, dSl, wLrev, dLrev, wIsi, wIsi2, iL, iT, iV, iS, iR1, iR2, gN, fLc, wYes, wiL,
  dAdd, dSub, dMul, dMulS, dMulL, dDiv, dMod, dLt, dLe, dGt, dGe, dEq, dNe, eqD, dIn, dNi, dIx, dTru, isNon, dLen, dInt, dAbs, dMax, dMin, dList, dTup, dStr, dIAdd, frzE, frz1, startD, List.map_cons, List.map_nil, List.length_cons, List.length_nil, List.replicate_succ, List.replicate_zero, List.cons_append, List.nil_append, List.append_nil, List.getElem?_cons_zero, List.getElem?_cons_succ, List.set_cons_zero, List.set_cons_succ, Nat.reduceSub, Nat.reduceAdd, if_true, if_false, ite_true, ite_false, reduceIte, Bool.false_eq_true, decide_true, decide_false, Bool.not_true, Bool.not_false, Bool.not_eq_true', decide_eq_true_eq, decide_eq_false_iff_not, isi_dic_bool, isi_dic_int, isi_dic_str, isi_dic_dict, Bool.true_eq_false, isi_int_int, isi_int_bool, isi_bl_int, isi_bl_bool, isi_non_int, isi_non_bool, isi_str_int, isi_str_bool, isi_str_str, isi_lst_list, isi_tup_tuple, Option.some.injEq, exists_eq_left', exists_eq_left, DV.int.injEq, DV.str.injEq, DV.bl.injEq, List.cons.injEq, and_true, true_and])
local macro_rules | `(tactic| walk_at "dl") => `(tactic| try walk_at "dl1")
local macro_rules | `(tactic| walk_at "go") => `(tactic| repeat' (first
  | (intro _)
  | walk_at "dl1"
  | (refine ⟨by first | decide | omega, ?_⟩)
  | split))
end DL
namespace DL
open PySem PySem.Spec PyProof.Rows L2 NW
local macro_rules | `(tactic| walk_at "dl1") => `(tactic| simp only [gP, wAsgFD, fCallD, fMethD, fDict, wCM, asD1, wDropCM, wAsgCM, wItemsO, fSortP, wForK, fLcK, sFd, sV, wExt, dAddT, dBinI, dBinX, wAsgB, fSortI, fSl, wAsgD, wPutD, atD, atDR, asK, wInOD, wLenOD, fCallN, wCallB, wCallK, wCallD, wDropK, frzE, frz1, wFld, wProp, wMeth, wMeth0, wLenI, dInI, dEqI, tyOk, iOwnD, iVk, wIsC, isC, wSelf, wSelfD, atS, wGet, asD, wGetO, wInDD, wDict, wTrev, dTrev, wMkI, wMkI0, wDropI, wAsgIO, frzL1, wSetO, dSumA, dEqT, dIntL, wCallF, flatR, wRaise1, fSrt, wItems, wTry, wAsgX, wDropX, wKd, wXf, wSeq, wAsg, wAsgO, wRet, wIfS, wNx, wPass, wBk, wCt, wDrop, wAug, wApp, wAppPop, wPop, wFor, wFz, wV, wVP, atV, atP, atO, wC, wOp, wCall, wCallN, wCB, aC, aN, wL, wTu, fL, wF, fCat, fList, wTB, wTru, wAnd, wOr, wNot, wAndV, wOrV, wNotV, wIf, wChain, wIsN, wNeg, dNeg, wSl, pN, pP, dSl, wLrev, dLrev, wIsi, wIsi2, iL, iT, iV, iS, iR1, iR2, gN, fLc, wYes, wiL,
  dAdd, dSub, dMul, dMulS, dMulL, dDiv, dMod, dLt, dLe, dGt, dGe, dEq, dNe, eqD, dIn, dNi, dIx, dTru, isNon, dLen, dInt, dAbs, dMax, dMin, dList, dTup, dStr, dIAdd, frzE, frz1, startD, List.map_cons, List.map_nil, List.length_cons, List.length_nil, List.replicate_succ, List.replicate_zero, List.cons_append, List.nil_append, List.append_nil, List.getElem?_cons_zero, List.getElem?_cons_succ, List.set_cons_zero, List.set_cons_succ, Nat.reduceSub, Nat.reduceAdd, if_true, if_false, ite_true, ite_false, reduceIte, Bool.false_eq_true, decide_true, decide_false, Bool.not_true, Bool.not_false, Bool.not_eq_true', decide_eq_true_eq, decide_eq_false_iff_not, isi_dic_bool, isi_dic_int, isi_dic_str, isi_dic_dict, Bool.true_eq_false, isi_int_int, isi_int_bool, isi_bl_int, isi_bl_bool, isi_non_int, isi_non_bool, isi_str_int, isi_str_bool, isi_str_str, isi_lst_list, isi_tup_tuple, Option.some.injEq, exists_eq_left', exists_eq_left, DV.int.injEq, DV.str.injEq, DV.bl.injEq, List.cons.injEq, and_true, true_and])
local macro_rules | `(tactic| walk_at "dl") => `(tactic| try walk_at "dl1")
local macro_rules | `(tactic| walk_at "go") => `(tactic| repeat' (first
  | (intro _)
  | walk_at "dl1"
  | (refine ⟨by first | decide | omega, ?_⟩)
  | split))
end DL
namespace DL
open PySem PySem.Spec PyProof.Rows L2 NW
local macro_rules | `(tactic| walk_at "dl1") => `(tactic| simp only [gP, wAsgFD, fCallD, fMethD, fDict, wCM, asD1, wDropCM, wAsgCM, wItemsO, fSortP, wForK, fLcK, sFd, sV, wExt, dAddT, dBinI, dBinX, wAsgB, fSortI, fSl, wAsgD, wPutD, atD, atDR, asK, wInOD, wLenOD, fCallN, wCallB, wCallK, wCallD, wDropK, frzE, frz1, wFld, wProp, wMeth, wMeth0, wLenI, dInI, dEqI, tyOk, iOwnD, iVk, wIsC, isC, wSelf, wSelfD, atS, wGet, asD, wGetO, wInDD, wDict, wTrev, dTrev, wMkI, wMkI0, wDropI, wAsgIO, frzL1, wSetO, dSumA, dEqT, dIntL, wCallF, flatR, wRaise1, fSrt, wItems, wTry, wAsgX, wDropX, wKd, wXf, wSeq, wAsg, wAsgO, wRet, wIfS, wNx, wPass, wBk, wCt, wDrop, wAug, wApp, wAppPop, wPop, wFor, wFz, wV, wVP, atV, atP, atO, wC, wOp, wCall, wCallN, wCB, aC, aN, wL, wTu, fL, wF, fCat, fList, wTB, wTru, wAnd, wOr, wNot, wAndV, wOrV, wNotV, wIf, wChain, wIsN, wNeg, dNeg, wSl, pN, pP, dSl, wLrev, dLrev, wIsi, wIsi2, iL, iT, iV, iS, iR1, iR2, gN, fLc, wYes, wiL,
  dAdd, dSub, dMul, dMulS, dMulL, dDiv, dMod, dLt, dLe, dGt, dGe, dEq, dNe, eqD, dIn, dNi, dIx, dTru, isNon, dLen, dInt, dAbs, dMax, dMin, dList, dTup, dStr, dIAdd, frzE, frz1, startD, List.map_cons, List.map_nil, List.length_cons, List.length_nil, List.replicate_succ, List.replicate_zero, List.cons_append, List.nil_append, List.append_nil, List.getElem?_cons_zero, List.getElem?_cons_succ, List.set_cons_zero, List.set_cons_succ, Nat.reduceSub, Nat.reduceAdd, if_true, if_false, ite_true, ite_false, reduceIte, Bool.false_eq_true, decide_true, decide_false, Bool.not_true, Bool.not_false, Bool.not_eq_true', decide_eq_true_eq, decide_eq_false_iff_not, isi_dic_bool, isi_dic_int, isi_dic_str, isi_dic_dict, Bool.true_eq_false, isi_int_int, isi_int_bool, isi_bl_int, isi_bl_bool, isi_non_int, isi_non_bool, isi_str_int, isi_str_bool, isi_str_str, isi_lst_list, isi_tup_tuple, Option.some.injEq, exists_eq_left', exists_eq_left, DV.int.injEq, DV.str.injEq, DV.bl.injEq, List.cons.injEq, and_true, true_and])
local macro_rules | `(tactic| walk_at "dl") => `(tactic| try walk_at "dl1")
local macro_rules | `(tactic| walk_at "go") => `(tactic| repeat' (first
  | (intro _)
  | walk_at "dl1"
  | (refine ⟨by first | decide | omega, ?_⟩)
  | split))
end DL
namespace DL
open PySem PySem.Spec PyProof.Rows L2 NW
local macro_rules | `(tactic| walk_at "dl1") => `(tactic| simp only [gP, wAsgFD, fCallD, fMethD, fDict, wCM, asD1, wDropCM, wAsgCM, wItemsO, fSortP, wForK, fLcK, sFd, sV, wExt, dAddT, dBinI, dBinX, wAsgB, fSortI, fSl, wAsgD, wPutD, atD, atDR, asK, wInOD, wLenOD, fCallN, wCallB, wCallK, wCallD, wDropK, frzE, frz1, wFld, wProp, wMeth, wMeth0, wLenI, dInI, dEqI, tyOk, iOwnD, iVk, wIsC, isC, wSelf, wSelfD, atS, wGet, asD, wGetO, wInDD, wDict, wTrev, dTrev, wMkI, wMkI0, wDropI, wAsgIO, frzL1, wSetO, dSumA, dEqT, dIntL, wCallF, flatR, wRaise1, fSrt, wItems, wTry, wAsgX, wDropX, wKd, wXf, wSeq, wAsg, wAsgO, wRet, wIfS, wNx, wPass, wBk, wCt, wDrop, wAug, wApp, wAppPop, wPop, wFor, wFz, wV, wVP, atV, atP, atO, wC, wOp, wCall, wCallN, wCB, aC, aN, wL, wTu, fL, wF, fCat, fList, wTB, wTru, wAnd, wOr, wNot, wAndV, wOrV, wNotV, wIf, wChain, wIsN, wNeg, dNeg, wSl, pN, pP, dSl, wLrev, dLrev, wIsi, wIsi2, iL, iT, iV, iS, iR1, iR2, gN, fLc, wYes, wiL,
  dAdd, dSub, dMul, dMulS, dMulL, dDiv, dMod, dLt, dLe, dGt, dGe, dEq, dNe, eqD, dIn, dNi, dIx, dTru, isNon, dLen, dInt, dAbs, dMax, dMin, dList, dTup, dStr, dIAdd, frzE, frz1, startD, List.map_cons, List.map_nil, List.length_cons, List.length_nil, List.replicate_succ, List.replicate_zero, List.cons_append, List.nil_append, List.append_nil, List.getElem?_cons_zero, List.getElem?_cons_succ, List.set_cons_zero, List.set_cons_succ, Nat.reduceSub, Nat.reduceAdd, if_true, if_false, ite_true, ite_false, reduceIte, Bool.false_eq_true, decide_true, decide_false, Bool.not_true, Bool.not_false, Bool.not_eq_true', decide_eq_true_eq, decide_eq_false_iff_not, isi_dic_bool, isi_dic_int, isi_dic_str, isi_dic_dict, Bool.true_eq_false, isi_int_int, isi_int_bool, isi_bl_int, isi_bl_bool, isi_non_int, isi_non_bool, isi_str_int, isi_str_bool, isi_str_str, isi_lst_list, isi_tup_tuple, Option.some.injEq, exists_eq_left', exists_eq_left, DV.int.injEq, DV.str.injEq, DV.bl.injEq, List.cons.injEq, and_true, true_and])
local macro_rules | `(tactic| walk_at "dl") => `(tactic| try walk_at "dl1")
local macro_rules | `(tactic| walk_at "go") => `(tactic| repeat' (first
  | (intro _)
  | walk_at "dl1"
  | (refine ⟨by first | decide | omega, ?_⟩)
  | split))
end DL
namespace EnT
open PySem PySem.Spec PyProof.Rows L2
set_option maxHeartbeats 1000000 in
theorem meets_new1 {v : Value} {o : Obj} {H : Heap → Prop} (B : Begins v o H) :
    Meets (Builtin.«enumerate.__new__» ⟨[.type "enumerate", v], []⟩) (fun _ R s => H s.heap ∧
      R (.ok (.ret (.ref (s.heap.push o).objs.size))) { s with heap := (s.heap.push o).push { cls := .type "enumerate", data := .fields #[.none, .bool false, .ref s.heap.objs.size, rawInt 0, .none, .none] } }) :=
  .of_wp fun prog w A R s h => by
    obtain ⟨hp, g, d, tk, os⟩ := s; obtain ⟨h1, h⟩ := h
    have hsub := sub_enumerate
    have q1 : ∀ {A' : Around} {E : Value → Shared → Prop} {Q : Value → Shared → Prop}, Q (.ref hp.objs.size) ⟨hp.push o, g, d, tk, os⟩ → wpAny (model prog w) A' (pyIter v) Q E ⟨hp, g, d, tk, os⟩ :=
      fun q => B.iter prog w _ _ ⟨hp, g, d, tk, os⟩ _ h1 q
    wp_walk using q1
    refine wpAny_stack_any fun st => wpAny_pure ?_
    split
    · rename_i c _ _ _ _ _
      cases (c == Value.type "enumerate")
      · wp_walk using q1
        exact ⟨_, rfl, h⟩
      · wp_walk using q1
        exact ⟨_, rfl, h⟩
    · wp_walk using q1
      exact ⟨_, rfl, h⟩
section
variable {prog : Program} {w : World} {A : Around} {E : Value → Shared → Prop} {s : Shared}
theorem enum_begins1 {v : Value} {o : Obj} {H : Heap → Prop} {Q : Value → Shared → Prop} (B : Begins v o H) (h1 : H s.heap)
    (h : ∀ h', IsEnum h' (s.heap.objs.size + 1) s.heap.objs.size 0 .none → h'.get? s.heap.objs.size = some o → h'.objs.size = s.heap.objs.size + 2 →
      (∀ b o, s.heap.get? b = some o → h'.get? b = some o) → Q (.ref (s.heap.objs.size + 1)) { s with heap := h' }) :
    wpAny (model prog w) A (call (.type "enumerate") [v]) Q E s := by
  refine callType_new F.called_enumerate (by decide) (F.typeCall_enumerate_1 _) (F.newCall_enumerate_1 _) (fun obj => F.args_object_init_2 obj _) F.entry_enumerate_new
    (meets_new1 B) ⟨h1, ?_⟩
  have hz : (s.heap.push o).objs.size = s.heap.objs.size + 1 := Heap.size_push ..
  show _ ∧ _
  rw [hz]
  have he : IsEnum ((s.heap.push o).push { cls := .type "enumerate", data := .fields #[.none, .bool false, .ref s.heap.objs.size, rawInt 0, .none, .none] }) (s.heap.objs.size + 1) s.heap.objs.size 0 .none := by
    have := Heap.get?_push_size (s.heap.push o) (o := { cls := .type "enumerate", data := .fields #[.none, .bool false, .ref s.heap.objs.size, rawInt 0, .none, .none] }) rfl
    rw [hz] at this; exact this
  refine ⟨⟨_, he, rfl⟩, h _ he (Heap.get?_push_of_some _ (Heap.get?_push_size _ B.free)) (by rw [Heap.size_push, hz]) fun b o x => Heap.get?_push_of_some _ (Heap.get?_push_of_some _ x)⟩
end
/-- the tuple at a as it stands at each turn, each item in a new pair -/
def Itet (K : PySem.W.Frag) (a : Addr) : It :=
  ⟨fun i H => ∃ (xs : List V) (x : V), SqT K H a xs ∧ xs[i]? = some x, fun i H v H' => ∃ T x, v = .ref T ∧ H T = none ∧ H' = upd H T (.tup [.int (i : Nat), x]) ∧ ∀ xs, SqT K H a xs → xs[i]? = some x, fun i H => ∃ xs : List V, SqT K H a xs ∧ xs.length = i⟩
theorem turn_enumT {P : Program} {w : World} {K : PySem.W.Frag} {elts : List Expr} {kk : Nat} {tpos : Pos} (a e it : Addr) :
    Turn P w K (.Tuple elts kk tpos) (Itet K a) [e, it] e (fun i h => (∃ old, IsEnum h e it ((i : Nat) : Int) old) ∧ h.IsTupleIter it a i ∧ e ≠ it ∧ e ≠ a ∧ a ≠ it) where
  mem := by simp
  obj := fun i h st b hb => by
    obtain ⟨⟨old, he⟩, ⟨o, ho, hc, hd⟩, _⟩ := st
    have e' : b = e ∨ b = it := by simpa using hb
    rcases e' with z | z
    · rw [z]; exact ⟨_, he, fun v q => nomatch q⟩
    · rw [z]; exact ⟨o, ho, fun v q => by rw [hd] at q; cases q⟩
  keep := fun i h h' st k => let ⟨⟨old, he⟩, hi, hne⟩ := st; ⟨⟨old, k e (by simp) _ he⟩, hi.at fun o q => k it (by simp) o q, hne⟩
  item := by
    intro X hP hw hK hc i pins s σ H E I hf st hg
    subst hP hw hK
    obtain ⟨⟨old, he⟩, hit, hne, hea, hai⟩ := st
    obtain ⟨xs, x, hq, hx⟩ := hg
    obtain ⟨its, rv, p, hz⟩ := I.tuple hq
    obtain ⟨u, hu, ru⟩ := rv.get hx
    have hel : e < s.heap.objs.size := Heap.lt_size he
    have hil : it < s.heap.objs.size := by obtain ⟨_, q, _⟩ := hit; exact Heap.lt_size q
    have hlt : i < its.toArray.size := by
      have := (List.getElem?_eq_some_iff.mp hu).1
      simpa using this
    refine wpAny_pyNext_enum_itemC (Draws.tuple (prog := X.prog) (w := X.w) (A := X.A.in1) (show X.A.in1.handled = none from I.ok.hd hc) it a hai its.toArray) he ⟨hit, p⟩ hlt hne (by simp [hne, hea]) fun y h' tk hP ho hst' hT hsz hk => ?_
    obtain rfl : y = u := by
      have z : its.toArray[i]? = some y := hP
      rw [show its.toArray[i]? = its[i]? by simp] at z
      rw [hu] at z
      exact (Option.some.inj z).symm
    refine ⟨_, rfl, wpAny_letOwnedTupleGo_enum (s := { s with heap := h', toks := tk + 1 }) ho fun h'' he' sb => ?_⟩
    have hT2 : h''.get? s.heap.objs.size = some { cls := .type "tuple", data := .seq #[.int i tk, y] } := (sb.2 _ (Nat.ne_of_gt hel)).trans hT
    have new : ObjOk X.prog X.w (upd H s.heap.objs.size (.tup [.int (i : Nat), x])) h'' s.heap.objs.size (.tup [.int (i : Nat), x]) :=
      ⟨by show 2 ≤ sizeLine; decide, [.int i tk, y], .cons ⟨_, rfl⟩ (.cons ru .nil), ⟨_, hT2, rfl, _, rfl⟩⟩
    have I1 : Inv X pins σ (upd H s.heap.objs.size (.tup [.int (i : Nat), x])) { s with heap := h'', toks := tk + 1 } :=
      I.turnedNew (ch := [e, it]) (fun b ob hb q => (sb.2 b (fun z => hb (by simp [z]))).trans (hk b ob (fun z => hb (by simp [z])) (fun z => hb (by simp [z])) q)) hf (Nat.le_refl _) new
    refine ⟨.ref s.heap.objs.size, _, I1, rfl, ⟨_, x, rfl, I.hok.fresh (Nat.le_refl _), rfl, fun ys hy => by rw [I.tuple_inj hy hq]; exact hx⟩, ⟨⟨y, ?_⟩, hst'.1.at fun o q => (sb.2 it (Ne.symm hne)).trans q, hne, hea, hai⟩, fun b hb => ?_⟩
    · have e1 : ((i + 1 : Nat) : Int) = (i : Int) + 1 := by omega
      rw [e1]; exact he'
    · have hb' : b < s.heap.objs.size := by
        have e' : b = e ∨ b = it := by simpa using hb
        rcases e' with z | z
        · rw [z]; exact hel
        · rw [z]; exact hil
      rw [upd_ne (Nat.ne_of_lt hb')]
      exact (hf b hb).1
  done := by
    intro X hP hw hK hc i pins s σ H E I hf st hg
    subst hP hw hK
    obtain ⟨⟨old, he⟩, hit, hne, hea, hai⟩ := st
    obtain ⟨xs, hq, hx⟩ := hg
    obtain ⟨its, rv, p, hz⟩ := I.tuple hq
    obtain ⟨f0, f1, f2, f3, f4, f5⟩ := hf it (by simp)
    have hl := rv.length
    refine wpAny_pyNext_enum_endD (Draws.tuple (prog := X.prog) (w := X.w) (A := X.A.in1) (show X.A.in1.handled = none from I.ok.hd hc) it a hai its.toArray) he ⟨?_, p⟩ fun h' eb => ⟨rfl, I.turned (t' := s.toks) (fun b o hb q => eb b o hb q) f0 f1 f3 f4 f5⟩
    have e : its.toArray.size = i := by simp; omega
    rw [e]; exact hit
  self := fun A i s Q E st h => let ⟨⟨_, he⟩, _⟩ := st; wpAny_pyIter_enum he h
def iEnumT (K : PySem.W.Frag) (ta : TA) : TI := fun σ H R => ta σ H fun vs H1 => ∃ a xs, vs = [.ref a] ∧ SqT K H1 a xs ∧ R (Itet K a) H1
theorem pi_enumT {X : Cx} {e : Expr} {ta : TA} {p pos tpos : Pos} {elts : List Expr} {kk : Nat} (hg : Gl X "enumerate") (hm : X.mg "enumerate" = none) (ha : PA X [e] ta) (hs : starEach [e] X.env = [(false, eval e X.env)] := by rfl) :
    PI X (.Tuple elts kk tpos) (.Call (.Name "enumerate" p) [e] [] pos) (iEnumT X.K ta) := by
  refine ⟨fun pins s σ H R I h => ?_⟩
  refine Call_ (ld_blt I hg hm boot_enumerate (PyProof.Rows.callWith_type1 (thn (ha.run pos pins s σ H _ I h) fun us s1 ⟨vs, H1, I1, r1, q1⟩ => ?_) hs rfl))
  obtain ⟨a, xs, ex, hq, q⟩ := q1
  subst ex
  cases r1 with
  | cons r rr =>
    cases rr
    cases r
    obtain ⟨its, rv, p', hz⟩ := I1.tuple hq
    have hal : a < s1.heap.objs.size := by obtain ⟨_, q, _⟩ := p'; exact Heap.lt_size q
    refine enum_begins1 (begins_tuple a its.toArray) p' fun h' he hit hsz hk => wpAny_pyIter_enum he ?_
    have I2 : Inv X pins σ H1 { s1 with heap := h' } := I1.kept (t' := s1.toks) hk
    refine ⟨s1.heap.objs.size + 1, [s1.heap.objs.size + 1, s1.heap.objs.size], _, _, H1, rfl, I2, turn_enumT a (s1.heap.objs.size + 1) s1.heap.objs.size, ⟨⟨.none, he⟩, ⟨_, hit, rfl, rfl⟩, Nat.succ_ne_self _, fun z => by rw [← z] at hal; exact Nat.lt_irrefl _ (Nat.lt_trans (Nat.lt_succ_self _) hal), Nat.ne_of_lt hal⟩, fun b hb => ?_, q⟩
    have e' : b = s1.heap.objs.size + 1 ∨ b = s1.heap.objs.size := by simpa using hb
    have hle : s1.heap.objs.size ≤ b := by
      rcases e' with z | z
      · rw [z]; exact Nat.le_add_right _ _
      · rw [z]; exact Nat.le_refl _
    exact I1.fpOk hle (I1.hok.fresh hle)
end EnT
namespace EnT
open PySem PySem.Spec PyProof.Rows L2
def rListDR : List V → Hp → VK → Prop := fun xs H Q => ∃ p kvs, xs = [.ref p] ∧ Rd H p (.dK kvs) ∧ ∀ q, H q = none → Q (.ref q) (upd H q (.lst (kvs.map fun kv => kV kv.1)))
theorem call_list_dKR {X : Cx} (hc : X.calm = true) : CallR X (.type "list") rListDR := by
  intro pins s σ H xs us Q I r h
  obtain ⟨p, kvs, e, hk, q⟩ := h
  subst e
  obtain ⟨u, eu, rx⟩ := vals1 r
  subst eu
  obtain rfl : u = Value.ref p := rx
  obtain ⟨z, lo, vs, rk, hd⟩ := hk.ok I.hok
  obtain ⟨ep, hat⟩ := hd.dictAt
  have hl : kvs.length = vs.length := Paired.length rk
  refine PySem.W.kdl_call (PySem.W.kdl_dict (knd := mixKind X.prog X.w) (kvs := vs) (ep := ep) lo) (I.ok.hd hc) hat (by rw [← hl]; exact z) fun h' tk acc' c' hkeep hS hacc => ?_
  refine ⟨.ref s.heap.objs.size, upd H s.heap.objs.size (.lst (kvs.map fun kv => kV kv.1)), I.laid hkeep (Nat.le_refl _) (show ObjOk X.prog X.w _ _ _ (.lst (kvs.map fun kv => kV kv.1)) from ⟨?_, acc'.toList, c', ?_, ?_⟩), rfl, q _ (I.hok.fresh (Nat.le_refl _))⟩
  · rw [List.length_map]; exact z
  · have el : acc'.toList.length = acc'.size := by simp
    refine vals_of_at (by rw [List.length_map, el, hacc.1, hl]) fun j x w h1 h2 => ?_
    obtain ⟨k, y, hky, hi⟩ := hacc.2 j w (by rw [← Array.getElem?_toList]; exact h2)
    have e1 : (kvs.map (·.1))[j]? = some k := by
      rw [KV.keys rk, List.getElem?_map, hky] <;> rfl
    have e2 : (kvs.map fun kv => kV kv.1)[j]? = some (kV k) := by
      have e3 : (kvs.map fun kv => kV kv.1) = (kvs.map (·.1)).map kV := by rw [List.map_map] <;> rfl
      rw [e3, List.getElem?_map, e1] <;> rfl
    rw [e2] at h1
    cases h1
    exact keyIs_rel hi
  · rw [Array.toArray_toList]; exact hS
section
variable {prog : Program} {w : World} {A : Around} {E : Value → Shared → Prop} {s : Shared}
theorem sorted_tupS {l : Addr} {vs : List Value} {xs : List Str} {Q : Value → Shared → Prop} (hl : s.heap.IsTuple l vs.toArray) (hz : vs.length ≤ sizeLine) (hI : StrsAre vs xs)
    (h : ∀ (out : List Value) (ys : List Str), StrsAre out ys → ys.Perm xs → sortedS ys = true → Q (.ref (s.heap.objs.size + 1)) { s with heap := sortedAll s.heap vs out.toArray }) :
    wpAny (model prog w) A (call (.builtin "sorted") [.ref l]) Q E s := by
  refine Calls.call_function_entry kind_sorted plain_sorted entry_sorted (args_sorted1 _) ?_
  unfold Builtin.«sorted»
  refine wpAny_bind (m := checkCount "sorted" 1 1 _) (wpAny_pure ?_)
  refine wpAny_bind (NW.collect_tup hl ?_ hz)
  refine wpAny_bind (wpAny_newList ?_ hz)
  have hsz : ((s.heap.push (seqObj "list" #[] 0)).update s.heap.objs.size (Obj.mapSeq (· ++ vs.toArray))).objs.size = s.heap.objs.size + 1 := by
    rw [Heap.size_update, size_push']
  have hoL : (((s.heap.push (seqObj "list" #[] 0)).update s.heap.objs.size (Obj.mapSeq (· ++ vs.toArray))).push (seqObj "list" vs.toArray 0)).get? (s.heap.objs.size + 1) = some (seqObj "list" vs.toArray 0) := by
    rw [← hsz]; exact Heap.get?_push_size _ rfl
  show wpAny _ _ _ _ _ { s with heap := ((s.heap.push (seqObj "list" #[] 0)).update s.heap.objs.size (Obj.mapSeq (· ++ vs.toArray))).push (seqObj "list" vs.toArray 0) }
  rw [hsz]
  refine wpAny_bind (wpAny_holding (wpAny_call_entry slot_list_sort ⟨_, hoL, rfl⟩ entry_list_sort (list_sort_treeKAny strKind_oneLt hoL hI.keysOf (fun v₁ v₂ rest e => keyKind_strs (by rw [← e]; exact hI)) hz fun st' a1 a2 => ⟨_, rfl, ?_⟩) (args_list_sort _)))
  obtain ⟨ys, h1, h2, h3⟩ := sorted_out_str hI a1 a2
  refine wpAny_pure ⟨_, rfl, ?_⟩
  have z := h ((arrOf st').map (·.2)).toList ys h1 h2 h3
  rw [Array.toArray_toList] at z
  exact z
end
def rSortedTS (K : PySem.W.Frag) : List V → Hp → VK → Prop := fun vs H Q => ∃ (a : Addr) (xs : List Str), vs = [V.ref a] ∧ SqT K H a (xs.map V.str) ∧
  ∀ (ys : List Str) (p : Addr), ys.Perm xs → sortedS ys = true → H p = none → Q (.ref p) (upd H p (.lst (ys.map V.str)))
def rSortedDR : List V → Hp → VK → Prop := fun xs H Q => ∃ (a : Addr) (kvs : List (Key × V)) (ks : List Str), xs = [.ref a] ∧ Rd H a (.dK kvs) ∧ kvs.map (·.1) = ks.map Sum.inr ∧ ks.length < 64 ∧
    ∀ ys p, ys.Perm ks → sortedS ys = true → H p = none → Q (.ref p) (upd H p (.lst (ys.map V.str)))
section
variable {X : Cx}
theorem cr_sortedTS : CallR X (.builtin "sorted") (rSortedTS X.K) := by
  intro pins s σ H vs us Q I r h
  obtain ⟨a, xs, rfl, hs, q⟩ := h
  obtain ⟨its, rv, hl, hz⟩ := I.tuple hs
  rw [Vals.ref1 r]
  have hi := rv.strs
  refine sorted_tupS (show s.heap.IsTuple a its.toArray from hl) (by rw [← rv.length]; exact hz) hi fun out ys k1 k2 k3 => ?_
  obtain ⟨ep, he'⟩ := PyProof.Rows.sortedAll_at s.heap its out.toArray
  have hlen : (ys.map V.str).length ≤ sizeLine := by
    rw [List.length_map, k2.length_eq]
    rw [List.length_map] at hz
    exact hz
  exact ⟨.ref _, upd H (s.heap.objs.size + 1) (.lst (ys.map V.str)), I.laid (t' := s.toks) (fun _ _ => PyProof.Rows.sortedAll_old) (Nat.le_succ _) ⟨hlen, out, ep, vals_of_strs k1, he'⟩, rfl, q _ _ k2 k3 (I.hok.fresh (Nat.le_succ _))⟩
/-- sorted(x): a list below 64, a tuple, a dict below 64, of texts -/
def rSortedSA (K : PySem.W.Frag) : List V → Hp → VK → Prop := fun vs H Q => rSortedS K vs H Q ∨ rSortedTS K vs H Q ∨ rSortedDR vs H Q
theorem cr_sortedSA (hc : X.calm = true) : CallR X (.builtin "sorted") (rSortedSA X.K) := fun pins s σ H vs us Q I r h => h.elim (fun h => cr_sortedS pins s σ H vs us Q I r h) fun h => h.elim (fun h => cr_sortedTS pins s σ H vs us Q I r h) fun h => call_sortedD hc pins s σ H vs us Q I r h
end
end EnT
namespace DL
open PySem PySem.Spec PyProof.Rows L2 NW
def enumD (xs : List DV) : List DV := xs.mapIdx fun i x => .tup [.int (i : Nat), x]
theorem enumD_at (xs : List DV) (i : Nat) : (enumD xs)[i]? = xs[i]?.map fun x => .tup [.int (i : Nat), x] := by unfold enumD; rw [List.getElem?_mapIdx]
theorem enumD_len (xs : List DV) : (enumD xs).length = xs.length := List.length_mapIdx
section
variable {W : Wd} {H Hb : Hp} {K : PySem.W.Frag}
theorem yl_enum {H' H2 : Hp} {xs : List DV} {vs : List V} {n : Nat} {T : Addr} {x : V} (i2 : Iss W Hb vs xs) (k : Kp W.st Hb H') (hx : vs[n]? = some x) (hT : H' T = none) (e : H2 = upd H' T (.tup [.int (n : Nat), x])) :
    Same H' H2 ∧ ∃ y, (enumD xs)[n]? = some y ∧ ∀ W2 : Wd, W2.st = W.st → W2.Ok H' → (∀ b o, W.ok b → Hb b = some o → W2.ok b) → Is W2 H2 (.ref T) y := by
  subst e
  obtain ⟨d, hd, ix⟩ := i2.get' hx
  refine ⟨same_new hT, .tup [.int (n : Nat), d], by rw [enumD_at, hd]; rfl, fun W2 e o2 hw => ?_⟩
  exact .tup upd_same (o2.fresh hT) (by show 2 ≤ 1000000; decide) (.cons (.int _) (.cons (Is.tr (W := W) (W' := W2) e (fun b o kk z => ⟨hw b o kk z, same_new hT _ _ (k.o z kk.1)⟩) ix) .nil))
theorem wks_enumL {a : Addr} {vs : List V} {xs : List DV} (h1 : H a = some (.lst vs)) (h2 : W.ok a) (h4 : Iss W H vs xs) (t : Thr W H Hb) : Wks (Ite K a) W Hb (enumD xs) := by
  have hb := t a _ h2 h1
  have i2 : Iss W Hb vs xs := h4.tr rfl fun b o k z => ⟨k, t b o k z⟩
  refine ⟨fun n H' k l => ?_, fun n H' k l => ?_, fun n H' v H2 k y l => ?_⟩
  · rw [enumD_len, ← i2.len] at l
    exact ⟨vs, vs[n], SqL.of (k.o hb h2.1), List.getElem?_eq_getElem l⟩
  · exact ⟨vs, SqL.of (k.o hb h2.1), by rw [i2.len, l, enumD_len]; exact Nat.le_refl _⟩
  · obtain ⟨T, x, rfl, hT, e, z⟩ := y
    exact yl_enum i2 k (z vs (SqL.of (k.o hb h2.1))) hT e
theorem wks_enumT {a : Addr} {vs : List V} {xs : List DV} (h1 : H a = some (.tup vs)) (h2 : W.ok a) (h4 : Iss W H vs xs) (t : Thr W H Hb) : Wks (EnT.Itet K a) W Hb (enumD xs) := by
  have hb := t a _ h2 h1
  have i2 : Iss W Hb vs xs := h4.tr rfl fun b o k z => ⟨k, t b o k z⟩
  refine ⟨fun n H' k l => ?_, fun n H' k l => ?_, fun n H' v H2 k y l => ?_⟩
  · rw [enumD_len, ← i2.len] at l
    exact ⟨vs, vs[n], SqT.of (k.o hb h2.1), List.getElem?_eq_getElem l⟩
  · exact ⟨vs, SqT.of (k.o hb h2.1), by rw [i2.len, l, enumD_len]⟩
  · obtain ⟨T, x, rfl, hT, e, z⟩ := y
    exact yl_enum i2 k (z vs (SqT.of (k.o hb h2.1))) hT e
theorem wks_enumK {a : Addr} (h : KTu K a) : Wks (EnT.Itet K a) W Hb (enumD []) where
  go := fun i H' k z => absurd z (Nat.not_lt_zero _)
  yl := fun i H' v H2 k y z => absurd z (Nat.not_lt_zero _)
  stop := fun i H' k z => ⟨[], ktu_sq h H', z.symm⟩
end
section
variable {X : Cx} {tg e : Expr}
theorem pi_or {t1 t2 : TI} (h1 : PI X tg e t1) (h2 : PI X tg e t2) : PI X tg e (fun σ H R => t1 σ H R ∨ t2 σ H R) := ⟨fun pins s σ H R I q => q.elim (h1.run pins s σ H R I) (h2.run pins s σ H R I)⟩
def iEnV (K : PySem.W.Frag) (i : Nat) : WI := fun ρ R => atV (fun d => ∃ xs, (d = .lst xs ∨ d = .tup xs ∨ (d = .ktu K ∧ xs = [])) ∧ R (enumD xs)) ρ[i]?
theorem diEn (i : Nat) (h1 : PI X tg e (iEnum X.K (tCons (tVar i) tNil))) (h2 : PI X tg e (EnT.iEnumT X.K (tCons (tVar i) tNil))) : PI X tg e (liftI (iEnV X.K i)) := pi_weak (pi_or h1 h2) fun σ H R q => by
  obtain ⟨W, own, ρ, Rd, o, ie, z, g⟩ := q
  obtain ⟨d, z, xs, hd, r⟩ := atV_ex z
  obtain ⟨v, g1, g2⟩ := ie.dt i _ z
  rcases hd with rfl | rfl | ⟨rfl, rfl⟩
  · cases g2 with
    | lst a1 a2 a3 a4 => exact .inl ⟨_, g1, _, _, rfl, SqL.of a1, g _ _ H r (Kp.refl _ _) o fun Hb t => wks_enumL a1 a2 a4 t⟩
  · cases g2 with
    | tup a1 a2 a3 a4 => exact .inr ⟨_, g1, _, _, rfl, SqT.of a1, g _ _ H r (Kp.refl _ _) o fun Hb t => wks_enumT a1 a2 a4 t⟩
  · cases g2 with
    | ktu a1 => exact .inr ⟨_, g1, _, _, rfl, ktu_sq a1 H, g _ _ H r (Kp.refl _ _) o fun Hb t => wks_enumK a1⟩
end
section
variable {X : Cx} {st : Stmt}
def wRaiseN (K : PySem.W.Frag) (cn : Str) (fls : List Str) (r : WA) : WS := fun E ρ => r ρ fun ds => ds.length = fls.length ∧ ds.length ≤ 100 ∧ E.xc (.err (He.ga K cn) fls.reverse ds.reverse) ρ
theorem draiseN {K : PySem.W.Frag} {E0' : XK} {cn : Str} {fls : List Str} {r : WA} (he : PS X st (tRaise E0' (tMkO (He.ga K cn) (sp_initE K (He.ga K cn) fls) [] (liftA r)))) : PS X st (liftS (fun cls d _ H => E0' cls d H) (wRaiseN K cn fls r)) := ps_weak he fun D σ H q => by
  obtain ⟨B, own, ρ, E, c, h, d⟩ := q
  refine ⟨B.w own, own, ρ, _, c.ok, c.e, h, fun ds vs H1 r1 k1 o1 i1 => ?_⟩
  obtain ⟨l1, l2, r1⟩ := r1
  have lv := i1.len
  refine ⟨by omega, fun a ha => ⟨a, vs, by rw [List.append_nil], by omega, upd_same, fun dx H' hdx ne h1 h2 h3 => ⟨rfl, dx, _, h1, h2, ?_, ?_⟩⟩⟩
  · rw [upd_ne ne] at hdx; exact hdx
  · rw [upd_ne ne] at hdx
    have z : upd (del H' a) dx (.xd (fls.zip vs).reverse) = upd H1 dx (.xd (fls.zip vs).reverse) := by
      funext b
      by_cases b1 : b = dx
      · subst b1; rw [upd_same, upd_same]
      · rw [upd_ne b1, upd_ne b1]
        by_cases b2 : b = a
        · subst b2; rw [ha]; unfold del; rw [if_pos rfl]
        · unfold del; rw [if_neg b2, h3 b b2 b1, upd_ne b2]
    rw [z]
    have s := same_new (o := .xd (fls.zip vs).reverse) hdx
    have c1 := (c.mono k1 o1).mono (Kp.same s) (o1.same s)
    refine d.xc own ρ σ _ _ _ _ dx _ r1 c1 upd_same (o1.fresh hdx) ?_ ?_
    · rw [List.map_reverse, ← List.unzip_fst, List.unzip_zip_left (by omega)]
    · rw [List.map_reverse, ← List.unzip_snd, List.unzip_zip_right (by omega)]
      exact (i1.mono (Kp.same s)).rev
end
section
variable {X : Cx} {e : Expr}
theorem dcval {C : Addr} {f : Str} {i : Int} (c : ∃ mc u, ClX.CRead X.K C mc ∧ ClX.CVal X.K C mc f (.int i) u) (h : PE X e (ClX.tCVal X.K (tC (.ref C)) f)) : PE X e (lift (wC (.int i))) :=
  dc (v := .int i) (pe_weak h fun σ H Q q => by
    obtain ⟨mc, u, r, k⟩ := c
    exact ⟨C, mc, .int i, u, rfl, r, k, q⟩) fun _ _ => .int _
end
section
variable {X : Cx} {e a : Expr} {w wd wk : WE} {pos : Pos}
def fKeys (w : WE) : WF := fun ρ R => w ρ fun d => ∃ ks xs, d = .dic ks xs ∧ R (ks.map kD)
theorem kD_iss {W : Wd} {H : Hp} : ∀ ks : List Key, Iss W H (ks.map kV) (ks.map kD)
  | [] => .nil
  | k :: ks => .cons (kD_is k) (kD_iss ks)
theorem dkeysF (h : PE X e (tCB EnT.rListDR (tCons (lift w) tNil))) : PE X e (liftF (fKeys w)) := pe_weak h fun σ H Q q => by
  obtain ⟨W, own, ρ, R, o, i, z, f⟩ := q
  refine ⟨W, own, ρ, _, o, i, z, fun d v H1 r k o1 i1 => ?_⟩
  obtain ⟨ks, xs, rfl, r⟩ := r
  cases i1 with
  | @dic p kvs _ _ b1 b2 b3 b4 b5 b6 =>
    refine ⟨p, kvs, rfl, b1, fun q hq => ?_⟩
    have e : (kvs.map fun kv => kV kv.1) = (kvs.map (·.1)).map kV := by rw [List.map_map]; rfl
    rw [e, b4]
    exact f (ks.map kD) (ks.map kV) q H1 r k o1 (kD_iss ks) (by rw [List.length_map, ← b4, List.length_map]; exact b3) hq
/-- .. of a dict of one's own -/
def fKeysO (i : Nat) : WF := fun ρ R => atDR (fun ks _ => R (ks.map kD)) ρ[i]?
/-- sorted(x): texts in a list (below 64), a tuple, a dict (below 64) -/
def strsOf (d : DV) (ss : List Str) : Prop := (d = .lst (ss.map .str) ∧ ss.length < 64) ∨ d = .tup (ss.map .str) ∨ ((∃ xs, d = .dic (ss.map Sum.inr) xs) ∧ ss.length < 64)
def fSrtS (w : WE) : WF := fun ρ R => w ρ fun d => ∃ ss, strsOf d ss ∧ ∀ ys : List Str, ys.Perm ss → PyProof.Rows.sortedS ys = true → R (ys.map DV.str)
theorem dsrtSF (h : PE X e (tCB (EnT.rSortedSA X.K) (tCons (lift w) tNil))) : PE X e (liftF (fSrtS w)) := pe_weak h fun σ H Q q => by
  obtain ⟨W, own, ρ, R, o, i, z, f⟩ := q
  refine ⟨W, own, ρ, _, o, i, z, fun d v H1 r k o1 i1 => ?_⟩
  obtain ⟨ss, hd, r⟩ := r
  have fin : ∀ (ys : List Str) (p : Addr), ss.length ≤ 1000000 → ys.Perm ss → PyProof.Rows.sortedS ys = true → H1 p = none → Q (.ref p) (upd H1 p (.lst (ys.map V.str))) := fun ys p l hp hs hn =>
    f _ _ p H1 (r ys hp hs) k o1 (str_iss ys) (by rw [List.length_map, hp.length_eq]; exact l) hn
  rcases hd with ⟨rfl, hl⟩ | rfl | ⟨⟨xs, rfl⟩, hl⟩
  · cases i1 with
    | lst b1 b2 b3 b4 =>
      have e := iss_str b4
      subst e
      exact .inl ⟨_, ss, rfl, SqL.of b1, hl, fun ys p hp hs hn => fin ys p (by omega) hp hs hn⟩
  · cases i1 with
    | tup b1 b2 b3 b4 =>
      have e := iss_str b4
      subst e
      exact .inr (.inl ⟨_, ss, rfl, SqT.of b1, fun ys p hp hs hn => fin ys p (by rw [List.length_map] at b3; exact b3) hp hs hn⟩)
  · cases i1 with
    | dic b1 b2 b3 b4 b5 b6 => exact .inr (.inr ⟨_, _, ss, rfl, b1, b4, hl, fun ys p hp hs hn => fin ys p (by omega) hp hs hn⟩)
/-- d[k] -/
def wIxD (wd wk : WE) : WE := fun ρ R => wd ρ fun d => ∃ ks xs, d = .dic ks xs ∧ wk ρ fun y => asK y fun k => ∃ x, lkK ks xs k = some x ∧ R x
theorem lkK_val {W : Wd} {H : Hp} {m : Key} : ∀ {kvs : List (Key × V)} {xs : List DV} {x : DV}, Iss W H (kvs.map (·.2)) xs → lkK (kvs.map (·.1)) xs m = some x → ∃ v, valV kvs m = some v ∧ Is W H v x
  | [], _, x, h, e => by cases h; cases e
  | (n, v) :: kvs, _, x, h, e => by
    cases h with
    | @cons _ _ y ys a t =>
      have e : (if n = m then some y else lkK (kvs.map (·.1)) ys m) = some x := e
      have e1 : valV ((n, v) :: kvs) m = if n = m then some v else valV kvs m := by
        unfold valV
        rw [List.find?_cons]
        by_cases q : n = m
        · rw [decide_eq_true q, if_pos q]; rfl
        · rw [decide_eq_false q, if_neg q]
      by_cases hn : n = m
      · rw [if_pos hn] at e e1
        cases e
        exact ⟨v, e1, a⟩
      · rw [if_neg hn] at e e1
        obtain ⟨u, h1, h2⟩ := lkK_val t e
        exact ⟨u, by rw [e1]; exact h1, h2⟩
theorem dixD (h : PE X e (tDGet (lift wd) (lift wk))) : PE X e (lift (wIxD wd wk)) := pe_weak h fun σ H Q q => by
  obtain ⟨W, own, ρ, R, o, ie, z, g⟩ := q
  refine ⟨W, own, ρ, _, o, ie, z, fun d v H1 r1 k1 o1 i1 => ?_⟩
  obtain ⟨ks, xs, rfl, r1⟩ := r1
  refine ⟨W, own, ρ, _, o1, ie.mono o k1, r1, fun dk u H2 r2 k2 o2 i2 => ?_⟩
  obtain ⟨kk, ⟨x, hx, r2⟩, ek⟩ := asK_ex r2
  obtain rfl := ek i2
  have i3 := i1.mono k2
  cases i3 with
  | dic b1 b2 b3 b4 b5 b6 =>
    rw [← b4] at hx
    obtain ⟨u, hu, iu⟩ := lkK_val b6 hx
    exact ⟨_, u, rfl, .inl ⟨_, kk, b1, rfl, hu.symm⟩, g _ _ _ r2 (k1.trans k2) o2 iu⟩
/-- .. of a dict of one's own -/
def wIxO (i : Nat) (wk : WE) : WE := fun ρ R => atDR (fun ks xs => wk ρ fun y => asK y fun k => ∃ x, lkK ks xs k = some x ∧ R x) ρ[i]?
theorem dixO (i : Nat) (h : PE X e (tDGet (tVar i) (lift wk))) : PE X e (lift (wIxO i wk)) := pe_weak h fun σ H Q q => by
  obtain ⟨W, own, ρ, R, o, ie, z, g⟩ := q
  obtain ⟨ks, xs, hx, z⟩ := atDR_ex z
  obtain ⟨p, kvs, s1, _, _, _⟩ := ie.dd hx
  refine ⟨.ref p, s1, W, own, ρ, _, o, ie, z, fun dk u H2 r2 k2 o2 i2 => ?_⟩
  obtain ⟨kk, ⟨x, hx2, r2⟩, ek⟩ := asK_ex r2
  obtain rfl := ek i2
  obtain ⟨p', kvs', s1', b1, b4, b6⟩ := (ie.mono o k2).dd hx
  rw [s1] at s1'
  cases s1'
  rw [← b4] at hx2
  obtain ⟨u, hu, iu⟩ := lkK_val b6 hx2
  exact ⟨p, u, rfl, .inl ⟨_, kk, b1, rfl, hu.symm⟩, g _ _ _ r2 k2 o2 iu⟩
/-- slices of lists, texts and tuples -/
def dSlA (d : DV) (lo hi : Option Int) (R : DV → Prop) : Prop := match d with
  | .lst xs => R (.lst (cutG xs lo hi))
  | .str s => s.length ≤ 1000000 ∧ R (.str (cutS s lo hi))
  | .tup xs => R (.tup (cutG xs lo hi))
  | _ => False
def wSlA (w : WE) (l h : WP) : WE := fun ρ R => w ρ fun d => l ρ fun lo => h ρ fun hi => dSlA d lo hi R
def rSlC (K : PySem.W.Frag) : V → Option Int → Option Int → Hp → VK → Prop := fun x lo hi H Q => rSlB K x lo hi H Q ∨ rSlA K x lo hi H Q
theorem slC : SlR X (rSlC X.K) := slB.or sl_tupA
theorem cutG_all {α : Type} {xs : List α} {lo hi : Option Int} (h : HT.sIx xs.length 0 lo = 0 ∧ HT.sIx xs.length xs.length hi = xs.length) : cutG xs lo hi = xs := by
  unfold cutG
  rw [h.1, h.2, List.drop_zero, Nat.sub_zero, List.take_length]
theorem dslA {lo hi : Option Expr} {l h : WP} {p2 : Pos} (ha : PE X a (liftP w)) (hl : PO X lo (liftO l)) (hh : PO X hi (liftO h)) : PE X (.Subscript a (.Slice lo hi none p2) pos) (lift (wSlA w l h)) := pe_weak (pe_slice slC ha hl hh) fun σ H Q q => by
  obtain ⟨W, own, ρ, R, o, i, z, f⟩ := q
  refine ⟨W, own, ρ, _, o, i, z, fun d v H1 r k o1 i1 => ⟨W, own, ρ, _, o1, i.mono o k, r, fun lo H2 r2 k2 o2 => ⟨W, own, ρ, _, o2, i.mono o (k.trans k2), r2, fun hi H3 r3 k3 o3 => ?_⟩⟩⟩
  have i3 := i1.mono o1 (k2.trans k3)
  have f3 := f.mono (k.trans (k2.trans k3))
  unfold dSlA at r3
  split at r3
  · obtain ⟨p, vs, rfl, h1, h2, h3⟩ := i3.lst
    exact .inl (.inl ⟨p, vs, rfl, SqL.of h1, f3.f.new o3 (Nat.le_trans (cutV_length vs _ _) h2) (iss_cut h3) r3⟩)
  · cases i3.str
    exact .inl (.inr ⟨_, rfl, le_line r3.1, f3.str o3 r3.2⟩)
  · rename_i xs
    have ii := i3.is fun _ e => nomatch e
    cases ii with
    | @tup p vs _ h1 h2 h3 h4 =>
      refine .inr ⟨p, vs, rfl, SqT.of h1, fun hw => ?_, fun _ => f3.tup o3 (Nat.le_trans (cutV_length vs _ _) h3) (iss_cut h4) r3⟩
      rw [h4.len] at hw
      rw [cutG_all hw] at r3
      exact f3.at o3 (.tup h1 h2 h3 h4) r3
  · exact r3.elim
/-- y in d, y not in d -/
def wInDN (n : Bool) (w wd : WE) : WE := fun ρ R => w ρ fun y => wd ρ fun d => ∃ ks xs, d = .dic ks xs ∧ asK y fun k => R (.bl (if n then !hasK ks k else hasK ks k))
theorem indd_tr {te : TE} {n : Bool} (ht : ∀ σ H Q, (lift w σ H fun y H1 => lift wd σ H1 fun x H2 => ∃ a o, x = .ref a ∧ DGet H2 a y o ∧ Q (.bl (if n then !o.isSome else o.isSome)) H2) → te σ H Q) : ∀ σ H Q, lift (wInDN n w wd) σ H Q → te σ H Q := fun σ H Q q => ht σ H Q (by
  obtain ⟨W, own, ρ, R, o, ie, z, f⟩ := q
  refine ⟨W, own, ρ, _, o, ie, z, fun d v H1 r1 k1 o1 i1 => ⟨W, own, ρ, _, o1, ie.mono o k1, r1, fun d2 v2 H2 r2 k2 o2 i2 => ?_⟩⟩
  obtain ⟨ks, xs, rfl, r2⟩ := r2
  obtain ⟨kk, r2, ek⟩ := asK_ex r2
  obtain rfl := ek i1
  cases i2 with
  | dic b1 b2 b3 b4 b5 b6 =>
    refine ⟨_, _, rfl, .inl ⟨_, kk, b1, rfl, rfl⟩, ?_⟩
    rw [valV_mem, b4]
    exact f _ _ _ r2 (k1.trans k2) o2 (.bl _))
theorem dinDN (h : PE X e (tDIn (lift w) (lift wd))) : PE X e (lift (wInDN false w wd)) := pe_weak h (indd_tr (n := false) fun _ _ _ z => z)
theorem dtDN {n : Bool} {te : TE} (hw : ∀ σ H Q, lift (wInDN n w wd) σ H Q → te σ H Q) (h : PT X e (tB te)) : PT X e (liftT (wTB (wInDN n w wd))) := pt_weak h fun σ H Q q => hw σ H _ (by
  obtain ⟨W, own, ρ, R, o, i, z, f⟩ := q
  refine ⟨W, own, ρ, _, o, i, z, fun d v H' r k o' i' => ?_⟩
  split at r
  · cases i'
    exact ⟨_, rfl, f _ _ r k o'⟩
  · exact r.elim)
theorem dtinDN (h : PT X e (tB (tDIn (lift w) (lift wd)))) : PT X e (liftT (wTB (wInDN false w wd))) := dtDN (indd_tr (n := false) fun _ _ _ z => z) h
theorem dtninDN (h : PT X e (tB (tDNotIn (lift w) (lift wd)))) : PT X e (liftT (wTB (wInDN true w wd))) := dtDN (indd_tr (n := true) fun _ _ _ z => z) h
def wLenDD (w : WE) : WE := fun ρ R => w ρ fun d => ∃ ks xs, d = .dic ks xs ∧ R (.int (ks.length : Nat))
theorem dlenDD (h : PE X e (tCB (fun xs H Q => ∃ a kvs, xs = [V.ref a] ∧ Rd H a (.dK kvs) ∧ Q (.int kvs.length) H) (tCons (lift w) tNil))) : PE X e (lift (wLenDD w)) := pe_weak h fun σ H Q q => by
  obtain ⟨W, own, ρ, R, o, ie, z, f⟩ := q
  refine ⟨W, own, ρ, _, o, ie, z, fun d v H1 r1 k1 o1 i1 => ?_⟩
  obtain ⟨ks, xs, rfl, r1⟩ := r1
  cases i1 with
  | dic b1 b2 b3 b4 b5 b6 =>
    refine ⟨_, _, rfl, b1, ?_⟩
    rw [← b4, List.length_map] at r1
    exact f _ _ _ r1 k1 o1 (.int _)
end
end DL
namespace DL
open PySem PySem.Spec PyProof.Rows L2 NW
def dcL (g : WG) (t : WT) (wk wv : WE) : List DV → Env → List Key → List DV → (List Key → List DV → Prop) → Prop
  | [], _, ks, zs, R => R ks zs
  | x :: xs, ρ, ks, zs, R => g x ρ fun ρ' => t ρ' fun b => if b = true then wk ρ' fun y => wv ρ' fun z => asK y fun k => dcL g t wk wv xs ρ (putKs ks k) (putXs ks zs k z) R else dcL g t wk wv xs ρ ks zs R
def fDc (wi : WI) (gg : WG) (t : WT) (wk wv : WE) (vs : List Nat) : WFD := fun ρ R => wi ρ fun xs => xs.length ≤ 1000000 ∧ dcL gg t wk wv xs (wiL ρ vs) [] [] R
section
variable {X : Cx} {e : Expr} {wi : WI} {t : WT} {wk wv : WE} {g : TG} {gg : WG} {vs : List Nat}
theorem dc_wks (hg : Tc g gg vs) {tt : TT} (ht : ∀ σ H Q, liftT t σ H Q → tt σ H Q) {σ : L2.St} {H1 : Hp} {Q : VK} {W : Wd} {own : Nat → Option Addr} {ρ : Env} {R : List Key → List DV → Prop} {J : It} {xs : List DV} (o1 : W.Ok H1) (i1 : IsE W own H1 σ ρ) (ws : Wks J W H1 xs) (lx : xs.length ≤ 1000000)
    (r : dcL gg t wk wv xs (wiL ρ vs) [] [] R) (f : FinFD W H1 R Q) : tDc (fun _ H R => R J H) g tt (lift wk) (lift wv) vs σ H1 Q := by
  intro D hD
  have sD := same_new (o := .dK []) hD
  have okD := o1.fresh hD
  let W2 : Wd := ⟨W.st, fun a => W.hid a ∨ a = D⟩
  have e2 : IsE W own H1 (wipe σ vs) (wiL ρ vs) := i1.wipe vs
  have hideI : ∀ {v : V} {d : DV}, Is W H1 v d → Is W2 H1 v d := fun {v d} h => Is.tr (W := W) (W' := W2) rfl (fun b o k z => ⟨⟨k.1, fun w => w.elim k.2 fun e => ne_of_none z hD e⟩, z⟩) h
  have hideL : ∀ {v : List V} {d : List DV}, Iss W H1 v d → Iss W2 H1 v d := fun {v d} h => Iss.tr (W := W) (W' := W2) rfl (fun b o k z => ⟨⟨k.1, fun w => w.elim k.2 fun e => ne_of_none z hD e⟩, z⟩) h
  have e3 : ∀ {H' : Hp}, Kp W.st H1 H' → IsE W2 own H' (wipe σ vs) (wiL ρ vs) := fun {H'} k => ⟨e2.len, fun i d z => by
    obtain ⟨v, a, b⟩ := e2.dt i d z
    exact ⟨v, a, Is.mono (W := W2) k (hideI b)⟩, fun i xs z => by
    obtain ⟨a, us, h1, h2, h3, h4, h5⟩ := e2.ow i xs z
    exact ⟨a, us, h1, h2, k.o h3 (o1.h a (e2.hd i a h1)).2, h4, Iss.mono (W := W2) k (hideL h5)⟩, fun i ks xs z => by
    obtain ⟨a, us, h1, h2, h3, h4, h5⟩ := e2.od i ks xs z
    exact ⟨a, us, h1, h2, k.o h3 (o1.h a (e2.hd i a h1)).2, h4, Iss.mono (W := W2) k (hideL h5)⟩, fun i A C ns xs z => by
    obtain ⟨a, us, h1, h2, ⟨dx, h3⟩, h4, h5⟩ := e2.oi i A C ns xs z
    exact ⟨a, us, h1, h2, ⟨dx, k.o h3 (o1.h a (e2.hd i a h1)).2⟩, h4, Iss.mono (W := W2) k (hideL h5)⟩, fun i a z => .inl (e2.hd i a z)⟩
  have nD : W.st ≠ some D := okD.1
  have nkD : ¬ W2.ok D := fun k => k.2 (.inr rfl)
  refine ⟨fun n m H' => m = xs.length - n ∧ n ≤ xs.length ∧ ∃ (ks : List Key) (zs : List DV) (kvs : List (Key × V)), H' D = some (.dK kvs) ∧ Kp W.st H1 H' ∧ W2.Ok H' ∧ Iss W2 H' (kvs.map (·.2)) zs ∧ kvs.map (·.1) = ks ∧ ks.Nodup ∧ kvs.length ≤ n ∧ dcL gg t wk wv (xs.drop n) (wiL ρ vs) ks zs R, ?_, ?_⟩
  · refine ⟨_, rfl, Nat.zero_le _, [], [], [], upd_same, Kp.same sD, ⟨o1.s.same sD, fun a ha => ?_⟩, .nil, rfl, List.nodup_nil, Nat.le_refl _, r⟩
    rcases ha with ha | rfl
    · obtain ⟨⟨o, ho⟩, n⟩ := o1.h a ha
      exact ⟨⟨o, sD _ _ ho⟩, n⟩
    · exact ⟨⟨_, upd_same⟩, nD⟩
  · rintro n m H' ⟨rfl, hn, ks, zs, kvs, hus, kH, oH, iH, ek, nd, ln, hf⟩
    by_cases hlt : n < xs.length
    · refine .inr ⟨ws.go n H' kH hlt, fun H' => n + 1 ≤ xs.length ∧ ∃ (ks : List Key) (zs : List DV) (kvs : List (Key × V)), H' D = some (.dK kvs) ∧ Kp W.st H1 H' ∧ W2.Ok H' ∧ Iss W2 H' (kvs.map (·.2)) zs ∧ kvs.map (·.1) = ks ∧ ks.Nodup ∧ kvs.length ≤ n + 1 ∧ dcL gg t wk wv (xs.drop (n + 1)) (wiL ρ vs) ks zs R, fun H' z => ⟨xs.length - (n + 1), by omega, rfl, z⟩, fun v H2 y => ?_⟩
      obtain ⟨sm, x, hx, ix⟩ := ws.yl n H' v H2 kH y hlt
      have kH := kH.trans (Kp.same sm)
      have oH0 := oH
      have oH := oH.same sm
      have hus := sm _ _ hus
      have iH := iH.mono (Kp.same sm)
      rw [List.drop_eq_getElem_cons (List.getElem?_eq_some_iff.mp hx).1, (List.getElem?_eq_some_iff.mp hx).2] at hf
      refine hg W2 own H2 σ ρ v x _ _ oH (e3 kH) (ix W2 rfl oH0 fun b o k z => ⟨k.1, fun w => w.elim k.2 fun e => ne_of_none z hD e⟩) hf fun ρ' σ' h3 ie ew => ⟨ew, ht _ _ _ ⟨W2, own, ρ', _, oH, ie, h3, fun k H3 r3 k3 o3 => ?_⟩⟩
      have us3 := k3.o hus nD
      cases k with
      | false => exact ⟨hlt, ks, zs, kvs, us3, kH.trans k3, o3, iH.mono k3, ek, nd, by omega, r3⟩
      | true =>
        refine ⟨W2, own, ρ', _, o3, ie.mono oH k3, r3, fun y u H4 r4 k4 o4 i4 => ⟨W2, own, ρ', _, o4, (ie.mono oH k3).mono o3 k4, r4, fun z u2 H5 r5 k5 o5 i5 => ?_⟩⟩
        obtain ⟨kk, r5, hk⟩ := asK_ex r5
        have k35 := k3.trans (k4.trans k5)
        have kH5 : Kp W.st H1 H5 := kH.trans k35
        have us5 := k35.o hus nD
        have il := iH.mono k35
        have lu : kvs.length < 1000000 := by omega
        have hi : Iss W2 H5 ((putK kvs kk u2).map (·.2)) (putXs ks zs kk z) := by
          have q := put_iss (k := kk) il i5
          rw [ek] at q
          exact q
        refine ⟨kvs, kk, hk i4, us5, lt_line lu, hlt, putKs ks kk, putXs ks zs kk z, putK kvs kk u2, upd_same, kH5.own hD nD, ⟨StoW.own o1.s kH5 o5.s hD nD, fun a ha => ?_⟩, hi.off nkD, by rw [put_keys, ek], putKs_nodup nd, Nat.le_trans (length_putK _ _ _) (Nat.succ_le_succ ln), r5⟩
        obtain ⟨⟨o, ho⟩, na⟩ := o5.h a ha
        by_cases e : a = D
        · rw [e]; exact ⟨⟨_, upd_same⟩, nD⟩
        · exact ⟨⟨o, by rw [upd_ne e]; exact ho⟩, na⟩
    · have e : n = xs.length := by omega
      subst e
      rw [List.drop_length] at hf
      refine .inl ⟨ws.stop _ H' kH rfl, ?_⟩
      have z := f ks zs kvs D (mns H' D) hf (kH.mns hD nD) ⟨StoW.mns o1.s kH oH.s hD nD, fun a ha => ?_⟩ (Iss.tr (W := W2) (W' := W) rfl (fun b o k z => ⟨⟨k.1, fun w => k.2 (.inl w)⟩, by rw [mns_ne fun e => k.2 (.inr e)]; exact z⟩) iH) ek nd (Nat.le_trans ln lx) mns_same
      · rw [mns_upd hus] at z
        exact z
      · obtain ⟨⟨o, ho⟩, na⟩ := o1.h a ha
        exact ⟨⟨o, by rw [mns_ne fun e => by rw [e, hD] at ho; cases ho]; exact kH.o ho na⟩, na⟩
theorem ddc {tt : TT} (hg : Tc g gg vs) (ht : ∀ σ H Q, liftT t σ H Q → tt σ H Q) (h : PE X e (tDc (liftI wi) g tt (lift wk) (lift wv) vs)) : PE X e (liftFD (fDc wi gg t wk wv vs)) := pe_weak h fun σ H Q q => by
  obtain ⟨W, own, ρ, R, o, i, z, f⟩ := q
  exact ⟨W, own, ρ, _, o, i, z, fun J xs H1 r k1 o1 hw => dc_wks hg ht o1 (i.mono o k1) (hw H1 fun _ _ _ z => z) r.1 r.2 (f.mono k1)⟩
def wFD (w : WFD) : WE := fun ρ R => w ρ fun ks xs => R (.dic ks xs)
theorem dfd {w : WFD} (h : PE X e (liftFD w)) : PE X e (lift (wFD w)) := pe_weak h fun σ H Q q => by
  obtain ⟨W, own, ρ, R, o, i, z, g⟩ := q
  exact ⟨W, own, ρ, _, o, i, z, g.fd⟩
end
theorem dcL_ind {g : WG} {t : WT} {wk wv : WE} {xs : List DV} {ρ : Env} {ks : List Key} {zs : List DV} {R : List Key → List DV → Prop} (P : Nat → List Key → List DV → Prop) (h0 : P 0 ks zs) (hs : ∀ i x ks zs (K : List Key → List DV → Prop), xs[i]? = some x → P i ks zs → (∀ ks' zs', P (i + 1) ks' zs' → K ks' zs') → g x ρ fun ρ' => t ρ' fun b => if b = true then wk ρ' fun y => wv ρ' fun z => asK y fun k => K (putKs ks k) (putXs ks zs k z) else K ks zs) (hd : ∀ ks zs, P xs.length ks zs → R ks zs) : dcL g t wk wv xs ρ ks zs R := by
  induction xs generalizing P ks zs with
  | nil => exact hd _ _ h0
  | cons x xs ih =>
    refine hs 0 x ks zs (fun ks' zs' => dcL g t wk wv xs ρ ks' zs' R) rfl h0 fun ks' zs' p => ?_
    exact ih (fun i => P (i + 1)) p (fun i y ks zs K hy p k => hs (i + 1) y ks zs K hy p k) hd
section
def sIx (i k : Nat) (ρ : Env) (R : List Key → List DV → Prop) : Prop := atV (fun d => ∃ xs x, d = .lst xs ∧ xs[k]? = some x ∧ asDI R x) ρ[i]?
end
section
variable {P : Program} {w : World} {K : PySem.W.Frag} {mg : Str → Option Value} {base : Heap} {C : Addr} {m : Str} {k : Nat} {ps : List Str} {sp sp' : Sp}
theorem HasM.weak (h : HasM P w K mg base C m k ps sp) (z : ∀ vs H Q E, sp' vs H Q E → sp vs H Q E) : HasM P w K mg base C m k ps sp' := by
  obtain ⟨f, fd, F⟩ := h
  exact ⟨f, fd, F.m, F.b, ⟨fun vs H Q E q => F.ok.len vs H Q E (z _ _ _ _ q), fun A outer s H args us vs Q E r e b v q => F.ok.run A outer s H args us vs Q E r e b v (z _ _ _ _ q)⟩⟩
/-- .. raising nothing -/
def sNo (s : DS2) : DS1 := fun ds R => s ds R fun _ => False
theorem dspX_no {s : DS2} : ∀ vs H Q E, dsp (sNo s) vs H Q E → dspX s vs H Q E := fun vs H Q E q => by
  obtain ⟨W, ds, R, o, i, z, f⟩ := q
  exact ⟨W, ds, R, _, o, i, z, f, fun _ _ _ _ _ _ z => z.elim⟩
end
end DL
namespace NW
open PySem PySem.Spec PyProof.Rows L2
structure HasIKAt (P : Program) (w : World) (K : PySem.W.Frag) (mg : Str → Option Value) (base : Heap) (C : Addr) (k n : Nat) (ps ks : List Str) (gV : List V → List V → List V) (sp : Sp) (f : Addr) (fd : FuncData) : Prop where
  m : Mk K C f
  g : ∃ g, KBn K fd ps (n + 1) ks g gV
  ok : FnOk P w K mg base (L2N.CX P w) k f fd ps sp
def HasIK (P : Program) (w : World) (K : PySem.W.Frag) (mg : Str → Option Value) (base : Heap) (C : Addr) (k n : Nat) (ps ks : List Str) (gV : List V → List V → List V) (sp : Sp) : Prop := ∃ f fd, HasIKAt P w K mg base C k n ps ks gV sp f fd
def tMakeKS (C : Addr) (n m : Nat) (sp : Sp) (gV : List V → List V → List V) (E : L2.St → XK) (t tk : TA) : TE := fun σ H Q => t σ H fun vs H1 => tk σ H1 fun zs H2 => vs.length = n ∧ zs.length = m ∧ ∀ x dx, H2 x = none → H2 dx = none → dx ≠ x →
  sp (gV (.ref x :: vs) zs) (upd (upd H2 dx (.own x)) x (.ins C dx [])) (fun v H3 => v = .non ∧ Q (.ref x) H3) (E σ)
section
variable {X : Cx} {k n j : Nat} {f C : Addr} {fd : FuncData} {ps ks : List Str} {sp : Sp} {E : L2.St → XK} {x : Str} {p pos : Pos} {e : Expr} {es : List Expr} {kws : List Keyword} {t tk : TA} {g : List Value → List Value → List Value} {gV : List V → List V → List V}
theorem run_makeKS {pins : List (Addr × Obj)} {σ : L2.St} {H : Hp} {s : Shared} {Q : VK} {us ws : List Value} {vs zs : List V} (M : Mk X.K C f) (F : FnOk X.prog X.w X.K X.mg X.base (L2N.CX X.prog X.w) k f fd ps sp) (hr : Room (k + 1) X.A) (hb : KBn X.K fd ps (n + 1) ks g gV) (hx : PassesAt (L2N.CX X.prog X.w) X σ (E σ))
    (I : Inv X pins σ H s) (r : Vals vs us) (rz : Vals zs ws) (l1 : vs.length = n) (l2 : zs.length = ks.length)
    (h : ∀ x dx, H x = none → H dx = none → dx ≠ x → sp (gV (.ref x :: vs) zs) (upd (upd H dx (.own x)) x (.ins C dx [])) (fun v H2 => v = .non ∧ Q (.ref x) H2) (E σ)) :
    wpAny (model X.prog X.w) X.A (call (.ref C) us (ks.zip ws)) (EP X pins σ Q) X.xe s := by
  have hq := h (s.heap.objs.size + 1) s.heap.objs.size (I.hok.fresh (Nat.le_succ _)) (I.hok.fresh (Nat.le_refl _)) (Nat.ne_of_lt (Nat.lt_succ_self _))
  have I2 := Inv.made (C := C) I
  have r1 : Vals (V.ref (s.heap.objs.size + 1) :: vs) (Value.ref (s.heap.objs.size + 1) :: us) := .cons rfl r
  have r2 := hb.rel r1 rz
  have n1 : (Value.ref (s.heap.objs.size + 1) :: us).length = n + 1 := by
    rw [List.length_cons, ← r.length, l1]
  refine wpAny_call (make_map (f := f) I.kIn M.makes M.init (beq_iff_eq.mp M.fn) (codeAny_mono (F.run _ X.stack _ _ ⟨Value.ref (s.heap.objs.size + 1) :: us, ks.zip ws⟩ (g (Value.ref (s.heap.objs.size + 1) :: us) ws) _ _ (E σ) (hr.make C us (ks.zip ws))
    (I2.env0.make C us (ks.zip ws)) (hb.to _ (Value.ref (s.heap.objs.size + 1) :: us) ws I2.kIn n1 (rz.length.symm.trans l2)) r2 hq) fun r s' hq' => ?_))
  cases r with
  | error e => exact hx pins _ _ e s' I2 hq'
  | ok fl =>
    cases fl with
    | ret u =>
      obtain ⟨v, H', I3, rv, ev, q3⟩ := I2.after hq'
      subst ev
      exact ⟨rv, ⟨V.ref (s.heap.objs.size + 1), H', I3, rfl, q3⟩⟩
    | next => exact False.elim hq'
    | brk => exact False.elim hq'
    | cont => exact False.elim hq'
theorem pe_miKS (h : HasIK X.prog X.w X.K X.mg X.base C k n ps ks gV sp) (hm : X.mg x = some (.ref C)) (hr : Room j X.A) (hx : ∀ σ, PassesAt (L2N.CX X.prog X.w) X σ (E σ)) (ha : PA X (e :: es) t) (hkw : PK X kws tk) (hk : k + 1 ≤ j := by decide) (hg : Gl X x := by rfl)
    (hall : (backToKw pos (keywordEach kws X.env)).all (·.1.isSome) = true := by rfl) (hks : (backToKw pos (keywordEach kws X.env)).filterMap (·.1) = ks := by rfl) (hdb : (x == ("__debug__" : Str)) = false := by decide)
    (he : starEach (e :: es) X.env = (false, eval e X.env) :: starEach es X.env := by rfl) (hpl : ((backTo pos (starEach (e :: es) X.env)).any (·.1) || (backToKw pos (keywordEach kws X.env)).any (·.1.isNone)) = false := by rfl) :
    PE X (.Call (.Name x p) (e :: es) kws pos) (tMakeKS C n ks.length sp gV E t tk) := by
  obtain ⟨f, fd, F⟩ := h
  obtain ⟨g, G⟩ := F.g
  refine ⟨fun pins s σ H Q I h => ?_⟩
  refine wpAny_Call_Name_kw (ld_glob I hg hm ?_ hdb)
  refine PySem.W.callWith_KW (h₀ := X.base) I.ok.mod.kin F.m.kp hall (thn (ha.run pos pins s σ H _ I h) fun us s1 ⟨vs, H1, I1, r, q⟩ => ?_) hpl he
  refine thn (hkw.run pos pins s1 σ H1 _ I1 q) fun ws s2 ⟨zs, H2, I2, rz, l1, l2, q2⟩ => ⟨I2.kIn, ?_⟩
  rw [hks]
  exact run_makeKS F.m F.ok (hr.mono hk) G (hx σ) I2 r rz l1 l2 q2
end
theorem cvB_ok {K : PySem.W.Frag} {C : Addr} {f : Str} {i : Int} (h : cvB K C f i = true) : ∃ mc u, ClX.CRead K C mc ∧ ClX.CVal K C mc f (.int i) u := by
  obtain ⟨h1, h2⟩ := ba2 h
  have ga : PySem.W.specialIn K (.ref C) "__getattribute__" = some (some (.builtin "type.__getattribute__")) := by
    have h1 := h1
    unfold PySem.W.readsIn at h1
    obtain ⟨h1, _⟩ := ba2 h1
    obtain ⟨h1, _⟩ := ba2 h1
    obtain ⟨h1, k3⟩ := ba2 h1
    obtain ⟨_, k2⟩ := ba2 h1
    unfold PySem.W.specialIn
    rw [beq_iff_eq.mp k2, Option.bind_some]
    exact beq_iff_eq.mp k3
  split at h2
  · rename_i j t e
    obtain rfl : j = i := of_decide_eq_true h2
    exact ⟨_, _, ⟨h1, ga⟩, ⟨e, ⟨t, rfl⟩⟩⟩
  · cases h2
end NW
namespace DL
open PySem PySem.Spec PyProof.Rows L2 NW
section
variable {X : Cx} {p : Addr × Obj} {cls : Value} {d : Option Addr} {e : Expr} {te : TE} {pos : Pos}
/-- isinstance(error, C) there -/
def wIsH (K : PySem.W.Frag) (L : List Str) (a : Addr) (cls : Value) (d : Option Addr) (c : Str) (i : Nat) : WE := fun ρ R => atV (fun e => ∃ (cn : Str) (dd : Addr) (ns : List Str) (xs : List DV), e = .hote a (He.ga K cn) dd ns xs ∧ cls = .ref (He.ga K cn) ∧ d = some dd ∧ cn ∈ L ∧ R (.bl (inL (kindsOf cn) c))) ρ[i]?
/-- a call that is given the handled error -/
def wHF (K : PySem.W.Frag) (L : List Str) (cls : Value) (s : Addr → DS1) (r : WA) : WE := fun ρ R => ∃ cn, cls = .ref (He.ga K cn) ∧ cn ∈ L ∧ r ρ fun ds => s (He.ga K cn) ds R
end
section
variable {Ex : L2.WX} {X : Cx} {e : Expr} {st : Stmt} {r rk : WA} {C : Addr} {s : DS2} {n m : Nat}
def wMkK (n m : Nat) (s : DS2) (r rk : WA) : WE := fun ρ R => r ρ fun ds => rk ρ fun zs => ds.length = n ∧ zs.length = m ∧ s (ds ++ zs) R fun _ => False
theorem dmkK (h : PE X e (tMakeKS C n m (spI C s) gCat (fun _ => E0) (liftA r) (liftA rk))) : PE X e (lift (wMkK n m s r rk)) := pe_weak h fun σ H Q q => by
  obtain ⟨W, own, ρ, R, o, i, z, f⟩ := q
  refine ⟨W, own, ρ, _, o, i, z, fun ds vs H1 r1 k1 o1 i1 => ⟨W, own, ρ, _, o1, i.mono o k1, r1, fun zs us H2 r2 k2 o2 i2 => ?_⟩⟩
  obtain ⟨l1, l2, r2⟩ := r2
  refine ⟨by rw [i1.len]; exact l1, by rw [i2.len]; exact l2, ?_⟩
  exact mk_run (C := C) (s := s) (Q := Q) (E := E0) o2 ((i1.mono k2).app i2) r2 ((f.mono k1).mono k2) fun _ _ _ _ _ _ z => z.elim
def wAsgMK (i n m : Nat) (s : DS2) (r rk : WA) : WS := fun E ρ => r ρ fun ds => rk ρ fun zs => ds.length = n ∧ zs.length = m ∧ s (ds ++ zs) (fun d => E.nx (ρ.set i (.dt d))) fun x => E.xc x ρ
end
end DL
namespace DL
open PySem PySem.Spec PyProof.Rows L2 NW
local macro_rules | `(tactic| walk_at "dl1") => `(tactic| simp only [iEnV, wRaiseN, fKeys, fKeysO, fSrtS, wIxD, wIxO, wSlA, wInDN, wLenDD, fDc, wFD, sIx, sNo, wIsH, wHF, wMkK, wAsgMK, asDI, dAddT, gP, wAsgFD, fCallD, fMethD, fDict, wCM, asD1, wDropCM, wAsgCM, wItemsO, fSortP, wForK, fLcK, sFd, sV, wExt, dAddT, dBinI, dBinX, wAsgB, fSortI, fSl, wAsgD, wPutD, atD, atDR, asK, wInOD, wLenOD, fCallN, wCallB, wCallK, wCallD, wDropK, frzE, frz1, wFld, wProp, wMeth, wMeth0, wLenI, dInI, dEqI, tyOk, iOwnD, iVk, wIsC, isC, wSelf, wSelfD, atS, wGet, asD, wGetO, wInDD, wDict, wTrev, dTrev, wMkI, wMkI0, wDropI, wAsgIO, frzL1, wSetO, dSumA, dEqT, dIntL, wCallF, flatR, wRaise1, fSrt, wItems, wTry, wAsgX, wDropX, wKd, wXf, wSeq, wAsg, wAsgO, wRet, wIfS, wNx, wPass, wBk, wCt, wDrop, wAug, wApp, wAppPop, wPop, wFor, wFz, wV, wVP, atV, atP, atO, wC, wOp, wCall, wCallN, wCB, aC, aN, wL, wTu, fL, wF, fCat, fList, wTB, wTru, wAnd, wOr, wNot, wAndV, wOrV, wNotV, wIf, wChain, wIsN, wNeg, dNeg, wSl, pN, pP, dSl, wLrev, dLrev, wIsi, wIsi2, iL, iT, iV, iS, iR1, iR2, gN, fLc, wYes, wiL,
  dAdd, dSub, dMul, dMulS, dMulL, dDiv, dMod, dLt, dLe, dGt, dGe, dEq, dNe, eqD, dIn, dNi, dIx, dTru, isNon, dLen, dInt, dAbs, dMax, dMin, dList, dTup, dStr, dIAdd, frzE, frz1, startD, List.map_cons, List.map_nil, List.length_cons, List.length_nil, List.replicate_succ, List.replicate_zero, List.cons_append, List.nil_append, List.append_nil, List.getElem?_cons_zero, List.getElem?_cons_succ, List.set_cons_zero, List.set_cons_succ, Nat.reduceSub, Nat.reduceAdd, if_true, if_false, ite_true, ite_false, reduceIte, Bool.false_eq_true, decide_true, decide_false, Bool.not_true, Bool.not_false, Bool.not_eq_true', decide_eq_true_eq, decide_eq_false_iff_not, isi_dic_bool, isi_dic_int, isi_dic_str, isi_dic_dict, Bool.true_eq_false, isi_int_int, isi_int_bool, isi_bl_int, isi_bl_bool, isi_non_int, isi_non_bool, isi_str_int, isi_str_bool, isi_str_str, isi_lst_list, isi_tup_tuple, Option.some.injEq, exists_eq_left', exists_eq_left, DV.int.injEq, DV.str.injEq, DV.bl.injEq, List.cons.injEq, and_true, true_and])
local macro_rules | `(tactic| walk_at "dl") => `(tactic| try walk_at "dl1")
local macro_rules | `(tactic| walk_at "go") => `(tactic| repeat' (first
  | (intro _)
  | walk_at "dl1"
  | (refine ⟨by first | decide | omega, ?_⟩)
  | split))
inductive YErr where
  | count (what : Str) (n : Nat)
  | name (s : Str)
  | twice (s : Str)
  | unknown (s : Str)
  | weight (x : DV)
def yE (K : PySem.W.Frag) : YErr → DV
  | .count w n => .err (He.ga K "BadCount") ["many", "what"] [.int (n : Nat), .str w]
  | .name s => .err (He.ga K "BadName") ["name"] [.str s]
  | .twice s => .err (He.ga K "Twice") ["name"] [.str s]
  | .unknown s => .err (He.ga K "Unknown") ["name"] [.str s]
  | .weight x => .err (He.ga K "BadWeight") ["weight"] [x]
/-- the first of n places that has a fault -/
def fstE {α : Type} (f : Nat → Option α) : Nat → Option α
  | 0 => none
  | n + 1 => match fstE f n with
    | some e => some e
    | none => f n
theorem fstE_none {α : Type} {f : Nat → Option α} : ∀ {n : Nat}, (∀ j, j < n → f j = none) → fstE f n = none
  | 0, _ => rfl
  | n + 1, h => by
    unfold fstE
    rw [fstE_none fun j hj => h j (Nat.lt_succ_of_lt hj)]
    exact h n (Nat.lt_succ_self n)
theorem fstE_at {α : Type} {f : Nat → Option α} {i : Nat} {e : α} : ∀ {n : Nat}, (∀ j, j < i → f j = none) → f i = some e → i < n → fstE f n = some e
  | 0, _, _, h => absurd h (Nat.not_lt_zero _)
  | n + 1, h1, h2, h => by
    unfold fstE
    by_cases hn : i < n
    · rw [fstE_at h1 h2 hn]
    · obtain rfl : i = n := by omega
      rw [fstE_none h1]
      exact h2
def outE (K : PySem.W.Frag) (o : Option YErr) (A : Prop) (RX : DV → Prop) : Prop := match o with
  | none => A
  | some e => RX (yE K e)
theorem outE_none {K : PySem.W.Frag} {f : Nat → Option YErr} {n : Nat} {A : Prop} {RX : DV → Prop} (h : outE K (fstE f n) A RX) (z : ∀ j, j < n → f j = none) : A := by
  rw [fstE_none z] at h; exact h
theorem outE_at {K : PySem.W.Frag} {f : Nat → Option YErr} {n i : Nat} {e : YErr} {A : Prop} {RX : DV → Prop} (h : outE K (fstE f n) A RX) (z : ∀ j, j < i → f j = none) (he : f i = some e) (hi : i < n) : RX (yE K e) := by
  rw [fstE_at z he hi] at h; exact h
theorem upto {α : Type} {f : Nat → Option α} {i : Nat} (h : ∀ j, j < i → f j = none) (hi : f i = none) : ∀ j, j < i + 1 → f j = none := fun j hj => by
  by_cases e : j = i
  · rw [e]; exact hi
  · exact h j (by omega)
/-- a sequence of texts -/
def sqD (K : PySem.W.Frag) (d : DV) (ss : List Str) : Prop := d = .lst (ss.map .str) ∨ d = .tup (ss.map .str) ∨ (d = .ktu K ∧ ss = [])
theorem sqD.iter {K : PySem.W.Frag} {d : DV} {ss : List Str} (h : sqD K d ss) : d = .lst (ss.map .str) ∨ d = .tup (ss.map .str) ∨ (d = .ktu K ∧ ss.map DV.str = []) := h.imp_right (Or.imp_right fun z => ⟨z.1, by rw [z.2]; rfl⟩)
theorem str_at {ss : List Str} {i : Nat} {x : DV} (h : (enumD (ss.map .str))[i]? = some x) : ∃ s, ss[i]? = some s ∧ x = .tup [.int (i : Nat), .str s] ∧ i < ss.length := by
  rw [enumD_at, List.getElem?_map] at h
  cases z : ss[i]? with
  | none => rw [z] at h; cases h
  | some s =>
    rw [z] at h
    exact ⟨s, rfl, (Option.some.inj h).symm, (List.getElem?_eq_some_iff.mp z).1⟩
theorem take_map (ss : List Str) (i : Nat) : cutG (ss.map DV.str) none (some (i : Nat)) = (ss.take i).map DV.str := by rw [cutG_to, List.map_take]
/-- x in names[:i] -/
theorem in_cut {K : PySem.W.Frag} {d : DV} {ss : List Str} {i : Nat} {s : Str} {R : Bool → Prop} (h : sqD K d ss) (hi : i < ss.length) (r : R (decide (s ∈ ss.take i))) : dSlA d none (some (i : Nat)) fun y => inD (.str s) y R := by
  rcases h with rfl | rfl | ⟨_, rfl⟩
  · unfold dSlA
    dsimp only
    rw [take_map]; exact ⟨_, rfl, r⟩
  · unfold dSlA
    dsimp only
    rw [take_map]; exact ⟨_, rfl, r⟩
  · exact absurd hi (Nat.not_lt_zero _)
theorem in_sq {K : PySem.W.Frag} {d : DV} {ss : List Str} {s : Str} {R : Bool → Prop} (h : d = .lst (ss.map .str) ∨ d = .tup (ss.map .str)) (r : R (decide (s ∈ ss))) : inD (.str s) d R := by
  rcases h with rfl | rfl
  · exact ⟨_, rfl, r⟩
  · exact ⟨_, rfl, r⟩
def shF (ss : List Str) (i : Nat) : Option YErr := ss[i]?.bind fun s => if nmB s = true then (if s ∈ ss.take i then some (.twice s) else none) else some (.name s)
def liF (ns known : List Str) (i : Nat) : Option YErr := ns[i]?.bind fun s => if s ∈ known then (if s ∈ ns.take i then some (.twice s) else none) else some (.unknown s)
def bxF (bs : List Str) (ws : List DV) (sh : List Str) (i : Nat) : Option YErr := bs[i]?.bind fun b => ws[i]?.bind fun w => if nmB b = true then (if b ∈ sh then some (.twice b) else if isNum w 1 1000000000 = true then none else some (.weight w)) else some (.name b)
def cnt (what : Str) (n most : Nat) : Option YErr := if 1 ≤ n ∧ n ≤ most then none else some (.count what n)
/-- what is due of a yard's rows -/
def due (sh bs : List Str) (ws : List DV) (na se : List Str) : Option YErr :=
  (cnt "shelves" sh.length 4).or <| (cnt "boxes" bs.length 12).or <| (fstE (shF sh) sh.length).or <| (fstE (bxF bs ws sh) bs.length).or <| (fstE (liF na bs) na.length).or (fstE (liF se (sh ++ bs)) se.length)
theorem outE_or {K : PySem.W.Frag} {a b : Option YErr} {A : Prop} {RX : DV → Prop} (h : outE K (a.or b) A RX) : outE K a (outE K b A RX) RX := by
  cases a with
  | none => exact h
  | some e => exact h
def w_P_require_count (K : PySem.W.Frag) : WS :=
  (wIfS (wNot (wTB (wChain dLe dLe (wC (.int 1)) (wVP 1) (wVP 2)))) (wRaiseN K "BadCount" ["what", "many"] (aC (wV 0) (aC (wV 1) aN))) wNx)
def s_P_require_count (K : PySem.W.Frag) : DS2 := fun ds R RX => ∃ (w : Str) (n m : Nat), ds = [.str w, .int (n : Nat), .int (m : Nat)] ∧ outE K (cnt w n m) (R .non) RX
theorem l_P_require_count (K : PySem.W.Frag) : ∀ ds R RX, s_P_require_count K ds R RX → ds.length = 3 := by
  rintro ds R RX ⟨_, _, _, rfl, _⟩
  rfl
theorem o_P_require_count (K : PySem.W.Frag) : OwesX 3 (s_P_require_count K) (w_P_require_count K) := by
  rintro ds R RX ⟨w, n, m, rfl, h⟩
  unfold w_P_require_count
  walk_at "dl"
  unfold cnt at h
  by_cases h1 : 1 ≤ n
  · have e1 : (1 : Int) ≤ (n : Nat) := by omega
    by_cases h2 : n ≤ m
    · have e2 : ((n : Nat) : Int) ≤ (m : Nat) := by omega
      rw [if_pos ⟨h1, h2⟩] at h
      rw [if_pos e1, if_neg (not_not_intro e2)]
      exact h
    · have e2 : ¬ ((n : Nat) : Int) ≤ (m : Nat) := by omega
      rw [if_neg fun z => h2 z.2] at h
      rw [if_pos e1, if_pos e2]
      exact ⟨by decide, h⟩
  · have e1 : ¬ (1 : Int) ≤ (n : Nat) := by omega
    rw [if_neg fun z => h1 z.1] at h
    rw [if_neg e1]
    exact ⟨by decide, h⟩
def w_Pvalid_weight (K : PySem.W.Frag) : WS :=
  (wSeq (wIfS (wNot (wTru (wCall s_Pis_number (aC (wV 0) (aC (wC (.int 1)) (aC (wC (.int 1000000000)) aN)))))) (wRaise1 K "BadWeight" "weight" (wV 0)) wNx)
    (wRet (wV 0)))
def s_Pvalid_weight (K : PySem.W.Frag) : DS2 := fun ds R RX => ∃ v, ds = [v] ∧ flatR v ∧ (isNum v 1 1000000000 = true → R v) ∧ (isNum v 1 1000000000 = false → RX (.err (He.ga K "BadWeight") ["weight"] [v]))
theorem l_Pvalid_weight (K : PySem.W.Frag) : ∀ ds R RX, s_Pvalid_weight K ds R RX → ds.length = 1 := by
  rintro ds R RX ⟨_, rfl, _⟩
  rfl
theorem o_Pvalid_weight (K : PySem.W.Frag) : OwesX 1 (s_Pvalid_weight K) (w_Pvalid_weight K) := by
  rintro ds R RX ⟨v, rfl, hv, h1, h2⟩
  unfold w_Pvalid_weight
  walk_at "dl"
  refine ⟨_, _, _, rfl, hv, ?_⟩
  cases e : isNum v 1 1000000000 with
  | true => exact h1 e
  | false => exact h2 e
def w_P_require_shelves (K : PySem.W.Frag) : WS :=
  (wFor (iEnV K 0) (gP 1 2) (wSeq (wDropX (s_Pvalid_name K) (aC (wV 2) aN))
    (wIfS (wTB (wOp dIn (wVP 2) (wSlA (wVP 0) pN (pP (wVP 1))))) (wRaise1 K "Twice" "name" (wV 2)) wNx)))
def s_P_require_shelves (K : PySem.W.Frag) : DS2 := fun ds R RX => ∃ (d : DV) (ss : List Str), ds = [d] ∧ sqD K d ss ∧ (∀ s ∈ ss, s.length ≤ 1000000) ∧ outE K (fstE (shF ss) ss.length) (R .non) RX
theorem l_P_require_shelves (K : PySem.W.Frag) : ∀ ds R RX, s_P_require_shelves K ds R RX → ds.length = 1 := by
  rintro ds R RX ⟨_, _, rfl, _⟩
  rfl
theorem o_P_require_shelves (K : PySem.W.Frag) : OwesX 3 (s_P_require_shelves K) (w_P_require_shelves K) := by
  rintro ds R RX ⟨d, ss, rfl, hd, hl, h⟩
  unfold w_P_require_shelves
  walk_at "dl"
  refine ⟨ss.map .str, hd.iter, ?_⟩
  refine forL_ind (fun i ρ => (∀ j, j < i → shF ss j = none) ∧ ∃ v w : Sl, ρ = [.dt d, v, w]) ⟨fun j hj => absurd hj (Nat.not_lt_zero _), _, _, rfl⟩ ?_ ?_
  · rintro i x ρ K' hx ⟨hn, v, w, rfl⟩ k
    obtain ⟨s, hs, rfl, hi⟩ := str_at hx
    have hf : ∀ {o : Option YErr}, (if nmB s = true then (if s ∈ ss.take i then some (YErr.twice s) else none) else some (.name s)) = o → shF ss i = o := fun e => by unfold shF; rw [hs]; exact e
    walk_at "dl"
    simp only [s_Pvalid_name]
    refine ⟨hl s (List.mem_of_getElem? hs), fun e => ?_, fun e => ?_⟩
    · rw [if_pos e] at hf
      refine in_cut hd hi ?_
      walk_at "dl"
      by_cases hm : s ∈ ss.take i
      · rw [if_pos hm] at hf
        rw [if_pos hm]
        exact outE_at h hn (hf rfl) hi
      · rw [if_neg hm] at hf
        rw [if_neg hm]
        exact k _ ⟨upto hn (hf rfl), _, _, rfl⟩
    · rw [if_neg (by rw [e]; decide)] at hf
      exact outE_at h hn (hf rfl) hi
  · rintro ρ ⟨hn, _⟩
    rw [enumD_len, List.length_map] at hn
    exact outE_none h hn
def w_P_require_listed (K : PySem.W.Frag) : WS :=
  (wFor (iEnV K 0) (gP 2 3) (wSeq (wIfS (wTB (wOp dNi (wVP 3) (wVP 1))) (wRaise1 K "Unknown" "name" (wV 3)) wNx)
    (wIfS (wTB (wOp dIn (wVP 3) (wSlA (wVP 0) pN (pP (wVP 2))))) (wRaise1 K "Twice" "name" (wV 3)) wNx)))
def s_P_require_listed (K : PySem.W.Frag) : DS2 := fun ds R RX => ∃ (d : DV) (ns known : List Str), ds = [d, .lst (known.map .str)] ∧ sqD K d ns ∧ outE K (fstE (liF ns known) ns.length) (R .non) RX
theorem l_P_require_listed (K : PySem.W.Frag) : ∀ ds R RX, s_P_require_listed K ds R RX → ds.length = 2 := by
  rintro ds R RX ⟨_, _, _, rfl, _⟩
  rfl
theorem o_P_require_listed (K : PySem.W.Frag) : OwesX 4 (s_P_require_listed K) (w_P_require_listed K) := by
  rintro ds R RX ⟨d, ss, known, rfl, hd, h⟩
  unfold w_P_require_listed
  walk_at "dl"
  refine ⟨ss.map .str, hd.iter, ?_⟩
  refine forL_ind (fun i ρ => (∀ j, j < i → liF ss known j = none) ∧ ∃ v w : Sl, ρ = [.dt d, .dt (.lst (known.map .str)), v, w]) ⟨fun j hj => absurd hj (Nat.not_lt_zero _), _, _, rfl⟩ ?_ ?_
  · rintro i x ρ K' hx ⟨hn, v, w, rfl⟩ k
    obtain ⟨s, hs, rfl, hi⟩ := str_at hx
    have hf : ∀ {o : Option YErr}, (if s ∈ known then (if s ∈ ss.take i then some (YErr.twice s) else none) else some (.unknown s)) = o → liF ss known i = o := fun e => by unfold liF; rw [hs]; exact e
    walk_at "dl"
    refine in_sq (K := K) (.inl rfl) ?_
    walk_at "dl"
    by_cases e : s ∈ known
    · rw [if_pos e] at hf
      rw [if_neg (not_not_intro e)]
      refine in_cut hd hi ?_
      walk_at "dl"
      by_cases hm : s ∈ ss.take i
      · rw [if_pos hm] at hf
        rw [if_pos hm]
        exact outE_at h hn (hf rfl) hi
      · rw [if_neg hm] at hf
        rw [if_neg hm]
        exact k _ ⟨upto hn (hf rfl), _, _, rfl⟩
    · rw [if_neg e] at hf
      rw [if_pos e]
      exact outE_at h hn (hf rfl) hi
  · rintro ρ ⟨hn, _⟩
    rw [enumD_len, List.length_map] at hn
    exact outE_none h hn
theorem item_at {bs : List Str} {ws : List DV} {i : Nat} {x : DV} (h : (items (bs.map Sum.inr) ws)[i]? = some x) : ∃ b w, bs[i]? = some b ∧ ws[i]? = some w ∧ x = .tup [.str b, w] ∧ i < bs.length := by
  unfold items at h
  rw [List.getElem?_zipWith, List.getElem?_map] at h
  cases z : bs[i]? with
  | none => rw [z] at h; cases h
  | some b =>
    rw [z] at h
    cases y : ws[i]? with
    | none => rw [y] at h; cases h
    | some w =>
      rw [y] at h
      exact ⟨b, w, rfl, rfl, (Option.some.inj h).symm, (List.getElem?_eq_some_iff.mp z).1⟩
def w_P_require_boxes (K : PySem.W.Frag) : WS :=
  (wForK items (sV 0) (gP 2 3) (wSeq (wDropX (s_Pvalid_name K) (aC (wV 2) aN))
    (wSeq (wIfS (wTB (wOp dIn (wVP 2) (wVP 1))) (wRaise1 K "Twice" "name" (wV 2)) wNx)
    (wDropX (s_Pvalid_weight K) (aC (wV 3) aN)))))
def s_P_require_boxes (K : PySem.W.Frag) : DS2 := fun ds R RX => ∃ (d : DV) (sh bs : List Str) (ws : List DV), ds = [.dic (bs.map Sum.inr) ws, d] ∧ (d = .lst (sh.map .str) ∨ d = .tup (sh.map .str)) ∧ bs.length = ws.length ∧ (∀ b ∈ bs, b.length ≤ 1000000) ∧ (∀ w ∈ ws, flatR w) ∧ outE K (fstE (bxF bs ws sh) bs.length) (R .non) RX
theorem l_P_require_boxes (K : PySem.W.Frag) : ∀ ds R RX, s_P_require_boxes K ds R RX → ds.length = 2 := by
  rintro ds R RX ⟨_, _, _, _, rfl, _⟩
  rfl
theorem o_P_require_boxes (K : PySem.W.Frag) : OwesX 4 (s_P_require_boxes K) (w_P_require_boxes K) := by
  rintro ds R RX ⟨d, sh, bs, ws, rfl, hd, hlw, hl, hw, h⟩
  unfold w_P_require_boxes
  walk_at "dl"
  refine forL_ind (fun i ρ => (∀ j, j < i → bxF bs ws sh j = none) ∧ ∃ v w : Sl, ρ = [.dt (.dic (bs.map Sum.inr) ws), .dt d, v, w]) ⟨fun j hj => absurd hj (Nat.not_lt_zero _), _, _, rfl⟩ ?_ ?_
  · rintro i x ρ K' hx ⟨hn, v, w, rfl⟩ k
    obtain ⟨b, y, hb, hy, rfl, hi⟩ := item_at hx
    have hf : ∀ {o : Option YErr}, (if nmB b = true then (if b ∈ sh then some (YErr.twice b) else if isNum y 1 1000000000 = true then none else some (.weight y)) else some (.name b)) = o → bxF bs ws sh i = o := fun e => by unfold bxF; rw [hb, hy]; exact e
    walk_at "dl"
    simp only [s_Pvalid_name]
    refine ⟨hl b (List.mem_of_getElem? hb), fun e => ?_, fun e => ?_⟩
    · rw [if_pos e] at hf
      refine in_sq (K := K) hd ?_
      walk_at "dl"
      by_cases hm : b ∈ sh
      · rw [if_pos hm] at hf
        rw [if_pos hm]
        exact outE_at h hn (hf rfl) hi
      · rw [if_neg hm] at hf
        rw [if_neg hm]
        refine ⟨_, rfl, hw y (List.mem_of_getElem? hy), fun q => ?_, fun q => ?_⟩
        · rw [if_pos q] at hf
          exact k _ ⟨upto hn (hf rfl), _, _, rfl⟩
        · rw [if_neg (by rw [q]; decide)] at hf
          exact outE_at h hn (hf rfl) hi
    · rw [if_neg (by rw [e]; decide)] at hf
      exact outE_at h hn (hf rfl) hi
  · rintro ρ ⟨hn, _⟩
    have e : (items (bs.map Sum.inr) ws).length = bs.length := by unfold items; rw [List.length_zipWith, List.length_map]; omega
    rw [e] at hn
    exact outE_none h hn
end DL
namespace DL
open PySem PySem.Spec PyProof.Rows L2 NW
local macro_rules | `(tactic| walk_at "dl1") => `(tactic| simp only [iEnV, wRaiseN, fKeys, fKeysO, fSrtS, wIxD, wIxO, wSlA, wInDN, wLenDD, fDc, wFD, sIx, sNo, wIsH, wHF, wMkK, wAsgMK, asDI, dAddT, gP, wAsgFD, fCallD, fMethD, fDict, wCM, asD1, wDropCM, wAsgCM, wItemsO, fSortP, wForK, fLcK, sFd, sV, wExt, dAddT, dBinI, dBinX, wAsgB, fSortI, fSl, wAsgD, wPutD, atD, atDR, asK, wInOD, wLenOD, fCallN, wCallB, wCallK, wCallD, wDropK, frzE, frz1, wFld, wProp, wMeth, wMeth0, wLenI, dInI, dEqI, tyOk, iOwnD, iVk, wIsC, isC, wSelf, wSelfD, atS, wGet, asD, wGetO, wInDD, wDict, wTrev, dTrev, wMkI, wMkI0, wDropI, wAsgIO, frzL1, wSetO, dSumA, dEqT, dIntL, wCallF, flatR, wRaise1, fSrt, wItems, wTry, wAsgX, wDropX, wKd, wXf, wSeq, wAsg, wAsgO, wRet, wIfS, wNx, wPass, wBk, wCt, wDrop, wAug, wApp, wAppPop, wPop, wFor, wFz, wV, wVP, atV, atP, atO, wC, wOp, wCall, wCallN, wCB, aC, aN, wL, wTu, fL, wF, fCat, fList, wTB, wTru, wAnd, wOr, wNot, wAndV, wOrV, wNotV, wIf, wChain, wIsN, wNeg, dNeg, wSl, pN, pP, dSl, wLrev, dLrev, wIsi, wIsi2, iL, iT, iV, iS, iR1, iR2, gN, fLc, wYes, wiL,
  dAdd, dSub, dMul, dMulS, dMulL, dDiv, dMod, dLt, dLe, dGt, dGe, dEq, dNe, eqD, dIn, dNi, dIx, dTru, isNon, dLen, dInt, dAbs, dMax, dMin, dList, dTup, dStr, dIAdd, frzE, frz1, startD, List.map_cons, List.map_nil, List.length_cons, List.length_nil, List.replicate_succ, List.replicate_zero, List.cons_append, List.nil_append, List.append_nil, List.getElem?_cons_zero, List.getElem?_cons_succ, List.set_cons_zero, List.set_cons_succ, Nat.reduceSub, Nat.reduceAdd, if_true, if_false, ite_true, ite_false, reduceIte, Bool.false_eq_true, decide_true, decide_false, Bool.not_true, Bool.not_false, Bool.not_eq_true', decide_eq_true_eq, decide_eq_false_iff_not, isi_dic_bool, isi_dic_int, isi_dic_str, isi_dic_dict, Bool.true_eq_false, isi_int_int, isi_int_bool, isi_bl_int, isi_bl_bool, isi_non_int, isi_non_bool, isi_str_int, isi_str_bool, isi_str_str, isi_lst_list, isi_tup_tuple, Option.some.injEq, exists_eq_left', exists_eq_left, DV.int.injEq, DV.str.injEq, DV.bl.injEq, List.cons.injEq, and_true, true_and])
local macro_rules | `(tactic| walk_at "dl") => `(tactic| try walk_at "dl1")
local macro_rules | `(tactic| walk_at "go") => `(tactic| repeat' (first
  | (intro _)
  | walk_at "dl1"
  | (refine ⟨by first | decide | omega, ?_⟩)
  | split))
def srtS (ss : List Str) : List Str := ss.mergeSort fun a b => !ltS b a
theorem srtS_perm (ss : List Str) : (srtS ss).Perm ss := List.mergeSort_perm _ _
theorem ltS_le {a b : Str} : (!ltS b a) = true ↔ leS a b := by
  unfold ltS leS
  rw [Bool.not_eq_true', decide_eq_false_iff_not]
  exact List.not_lt
theorem srtS_pw (ss : List Str) : (srtS ss).Pairwise leS := by
  have z := List.pairwise_mergeSort (le := fun a b => !ltS b a) (fun a b c h g => ltS_le.mpr (leS_trans (ltS_le.mp h) (ltS_le.mp g))) (fun a b => by
    rcases List.le_total a.cps.toList b.cps.toList with h | h
    · rw [ltS_le.mpr h]; rfl
    · rw [ltS_le.mpr h]; exact Bool.or_true _) ss
  exact z.imp fun h => ltS_le.mp h
theorem pw_rising : ∀ {r : List Str} {p : Str}, (p :: r).Pairwise leS → PyProof.Rows.risingS p r = true
  | [], p, _ => rfl
  | x :: r, p, h => by
    obtain ⟨h1, h2⟩ := List.pairwise_cons.mp h
    unfold PyProof.Rows.risingS
    rw [Bool.and_eq_true, Bool.not_eq_true', ltCps_eq, decide_eq_false_iff_not]
    exact ⟨List.not_lt.mpr (h1 x List.mem_cons_self), pw_rising h2⟩
theorem pw_sorted : ∀ {r : List Str}, r.Pairwise leS → PyProof.Rows.sortedS r = true
  | [], _ => rfl
  | x :: r, h => pw_rising h
theorem srtS_eq {ys ss : List Str} (p : ys.Perm ss) (h : PyProof.Rows.sortedS ys = true) : ys = srtS ss := sorted_one h (pw_sorted (srtS_pw ss)) (p.trans (srtS_perm ss).symm)
theorem srtS_len (ss : List Str) : (srtS ss).length = ss.length := (srtS_perm ss).length_eq
theorem srtS_mem {ss : List Str} {s : Str} : s ∈ srtS ss ↔ s ∈ ss := (srtS_perm ss).mem_iff
theorem srtS_nodup {ss : List Str} (h : ss.Nodup) : (srtS ss).Nodup := (srtS_perm ss).nodup_iff.mpr h
def yNs : List Str := ["_shelves", "_boxes", "_holders", "_weights", "_nailed", "_sealed"]
def wtOf (bs : List Str) (ws : List DV) (b : Str) : DV := (lkK (bs.map Sum.inr) ws (.inr b)).getD .non
def yardD (K : PySem.W.Frag) (sh bs : List Str) (ws : List DV) (na se : List Str) : DV := .obj (He.ga K "Yard") yNs [.tup ((srtS sh).map .str), .tup ((srtS bs).map .str), .tup ((srtS (sh ++ bs)).map .str), .dic ((srtS bs).map Sum.inr) ((srtS bs).map (wtOf bs ws)), .tup ((srtS na).map .str), .tup ((srtS se).map .str)]
theorem lk_some {b : Str} : ∀ {bs : List Str} {ws : List DV}, bs.length = ws.length → b ∈ bs → ∃ w, lkK (bs.map Sum.inr) ws (.inr b) = some w ∧ w ∈ ws
  | [], _, _, h => by cases h
  | x :: bs, [], l, _ => by cases l
  | x :: bs, w :: ws, l, h => by
    show ∃ u, (if (Sum.inr x : Key) = .inr b then some w else lkK (bs.map Sum.inr) ws (.inr b)) = some u ∧ _
    by_cases e : x = b
    · rw [if_pos (by rw [e])]; exact ⟨w, rfl, List.mem_cons_self⟩
    · rw [if_neg fun z => e (Sum.inr.inj z)]
      obtain ⟨u, h1, h2⟩ := lk_some (Nat.succ.inj l) ((List.mem_cons.mp h).resolve_left fun z => e z.symm)
      exact ⟨u, h1, List.mem_cons_of_mem _ h2⟩
theorem lk_wt {b : Str} {bs : List Str} {ws : List DV} (l : bs.length = ws.length) (h : b ∈ bs) : lkK (bs.map Sum.inr) ws (.inr b) = some (wtOf bs ws b) := by
  obtain ⟨w, e, _⟩ := lk_some l h
  unfold wtOf
  rw [e]; rfl
theorem has_str {ks : List Str} {k : Str} : hasK (ks.map Sum.inr) (.inr k) = decide (k ∈ ks) := by
  rw [Bool.eq_iff_iff, hasK_iff, decide_eq_true_eq, List.mem_map]
  constructor
  · rintro ⟨x, hx, e⟩; rw [← Sum.inr.inj e]; exact hx
  · intro h; exact ⟨k, h, rfl⟩
theorem put_new {ks : List Str} {xs : List DV} {k : Str} {v : DV} (h : k ∉ ks) : putKs (ks.map Sum.inr) (.inr k) = (ks ++ [k]).map Sum.inr ∧ putXs (ks.map Sum.inr) xs (.inr k) v = xs ++ [v] := by
  have e : hasK (ks.map Sum.inr) (.inr k) = false := by rw [has_str, decide_eq_false h]
  unfold putKs putXs
  rw [e, if_neg (by decide), if_neg (by decide), List.map_append]
  exact ⟨rfl, rfl⟩
theorem take_snoc {α : Type} {l : List α} {i : Nat} {x : α} (h : l[i]? = some x) : l.take (i + 1) = l.take i ++ [x] := by rw [List.take_add_one, h]; rfl
theorem not_take {α : Type} {l : List α} {i : Nat} {x : α} (nd : l.Nodup) (h : l[i]? = some x) : x ∉ l.take i := fun z => by
  obtain ⟨hi, e⟩ := List.getElem?_eq_some_iff.mp h
  obtain ⟨j, hj, e2⟩ := List.mem_iff_getElem.mp z
  rw [List.length_take] at hj
  rw [List.getElem_take] at e2
  have ne := List.pairwise_iff_getElem.mp nd j i (by omega) hi (by omega)
  exact ne (e2.trans e.symm)
/-- {b: boxes[b] for b in sorted(boxes)} -/
theorem dc_weights {w1 w2 : WE} {bs : List Str} {ws : List DV} {ρ : Env} {R : List Key → List DV → Prop} {g : WG} (nd : bs.Nodup)
    (hg : ∀ b, b ∈ bs → ∀ (K : List Key → List DV → Prop) (ks : List Key) (zs : List DV), K (putKs ks (.inr b)) (putXs ks zs (.inr b) (wtOf bs ws b)) → g (.str b) ρ fun ρ' => wYes ρ' fun c => if c = true then w1 ρ' fun y => w2 ρ' fun z => asK y fun k => K (putKs ks k) (putXs ks zs k z) else K ks zs)
    (r : R ((srtS bs).map Sum.inr) ((srtS bs).map (wtOf bs ws))) : dcL g wYes w1 w2 ((srtS bs).map DV.str) ρ [] [] R := by
  refine dcL_ind (fun i ks zs => ks = ((srtS bs).take i).map Sum.inr ∧ zs = ((srtS bs).take i).map (wtOf bs ws)) ⟨rfl, rfl⟩ ?_ ?_
  · rintro i x ks zs K' hx ⟨rfl, rfl⟩ k
    rw [List.getElem?_map] at hx
    cases e : (srtS bs)[i]? with
    | none => rw [e] at hx; cases hx
    | some b =>
      rw [e] at hx
      obtain rfl : DV.str b = x := Option.some.inj hx
      refine hg b (srtS_mem.mp (List.mem_of_getElem? e)) K' _ _ ?_
      obtain ⟨p1, p2⟩ := put_new (xs := ((srtS bs).take i).map (wtOf bs ws)) (v := wtOf bs ws b) (not_take (srtS_nodup nd) e)
      rw [p1, p2]
      refine k _ _ ⟨by rw [take_snoc e], by rw [take_snoc e, List.map_append]; rfl⟩
  · rintro ks zs ⟨rfl, rfl⟩
    rw [List.length_map, List.take_length]
    exact r
theorem outE_imp {K : PySem.W.Frag} {o : Option YErr} {A B : Prop} {RX : DV → Prop} (h : outE K o A RX) (f : A → B) : outE K o B RX := by
  cases o with
  | none => exact f h
  | some e => exact h
theorem fKeys_str (bs : List Str) : (bs.map (Sum.inr : Str → Key)).map kD = bs.map DV.str := by rw [List.map_map]; rfl
def w_PYard___init__ (K : PySem.W.Frag) : WS :=
  (wSeq (wDropX (s_P_require_count K) (aC (wC (.str "shelves")) (aC (wCB dLen (aC (wVP 1) aN)) (aC (wC (.int 4)) aN))))
    (wSeq (wDropX (s_P_require_count K) (aC (wC (.str "boxes")) (aC (wLenDD (wV 2)) (aC (wC (.int 12)) aN))))
    (wSeq (wDropX (s_P_require_shelves K) (aC (wV 1) aN))
    (wSeq (wDropX (s_P_require_boxes K) (aC (wV 2) (aC (wV 1) aN)))
    (wSeq (wAsg 5 (wOp dAdd (wCB dList (aC (wVP 1) aN)) (wF (fKeys (wV 2)))))
    (wSeq (wDropX (s_P_require_listed K) (aC (wV 3) (aC (wF (fKeys (wV 2))) aN)))
    (wSeq (wDropX (s_P_require_listed K) (aC (wV 4) (aC (wV 5) aN)))
    (wSeq (wSelf (He.ga K "Yard") "_shelves" (wCB dTup (aC (wF (fSrtS (wV 1))) aN)))
    (wSeq (wSelf (He.ga K "Yard") "_boxes" (wCB dTup (aC (wF (fSrtS (wV 2))) aN)))
    (wSeq (wSelf (He.ga K "Yard") "_holders" (wCB dTup (aC (wF (fSrtS (wV 5))) aN)))
    (wSeq (wSelf (He.ga K "Yard") "_weights" (wFD (fDc (iL (wF (fSrtS (wV 2)))) (gN 6) wYes (wV 6) (wIxD (wV 2) (wV 6)) [6])))
    (wSeq (wSelf (He.ga K "Yard") "_nailed" (wCB dTup (aC (wF (fSrtS (wV 3))) aN)))
    (wSelf (He.ga K "Yard") "_sealed" (wCB dTup (aC (wF (fSrtS (wV 4))) aN)))))))))))))))
/-- a list or a tuple of texts -/
def seqD (d : DV) (ss : List Str) : Prop := d = .lst (ss.map .str) ∨ d = .tup (ss.map .str)
theorem seqD.sq {K : PySem.W.Frag} {d : DV} {ss : List Str} (h : seqD d ss) : sqD K d ss := h.imp_right .inl
theorem seqD.strs {d : DV} {ss : List Str} (h : seqD d ss) (l : ss.length < 64) : strsOf d ss := h.imp (fun e => ⟨e, l⟩) fun e => .inl e
def s_PYard___init__ (K : PySem.W.Frag) : DS2 := fun ds R RX => ∃ (d dn dz : DV) (sh bs : List Str) (ws : List DV) (na se : List Str), ds = [d, .dic (bs.map Sum.inr) ws, dn, dz] ∧ (seqD d sh ∧ seqD dn na ∧ seqD dz se) ∧ (bs.Nodup ∧ bs.length = ws.length ∧ (∀ s ∈ sh, s.length ≤ 1000000) ∧ (∀ s ∈ bs, s.length ≤ 1000000) ∧ (∀ w ∈ ws, flatR w)) ∧ (sh.length < 40 ∧ bs.length < 20 ∧ na.length < 64 ∧ se.length < 64) ∧ outE K (due sh bs ws na se) (R (yardD K sh bs ws na se)) RX
theorem l_PYard___init__ (K : PySem.W.Frag) : ∀ ds R RX, s_PYard___init__ K ds R RX → ds.length = 4 := by
  rintro ds R RX ⟨_, _, _, _, _, _, _, _, rfl, _⟩
  rfl
theorem o_PYard___init__ (K : PySem.W.Frag) : OwesI 6 (He.ga K "Yard") (s_PYard___init__ K) (w_PYard___init__ K) := by
  rintro a ds R RX ⟨d, dn, dz, sh, bs, ws, na, se, rfl, ⟨hd, hn, hz⟩, ⟨nd, lw, l1, l2, fw⟩, ⟨g1, g2, g3, g4⟩, h⟩
  have hd0 := hd
  unfold w_PYard___init__
  rcases hd with rfl | rfl <;>
  · walk_at "dl"
    refine ⟨_, sh.length, 4, by rw [List.length_map]; rfl, ?_⟩
    refine outE_imp (outE_or h) fun h => ?_
    refine ⟨_, _, rfl, ?_⟩
    refine ⟨_, bs.length, 12, by rw [List.length_map]; rfl, ?_⟩
    refine outE_imp (outE_or h) fun h => ?_
    refine ⟨_, sh, rfl, hd0.sq, l1, ?_⟩
    refine outE_imp (outE_or h) fun h => ?_
    refine ⟨_, sh, bs, ws, rfl, hd0, lw, l2, fw, ?_⟩
    refine outE_imp (outE_or h) fun h => ?_
    refine ⟨_, _, rfl, ?_⟩
    rw [fKeys_str]
    walk_at "dl"
    refine ⟨by rw [List.length_map, List.length_map]; omega, _, _, rfl, ?_⟩
    rw [fKeys_str]
    refine ⟨_, na, bs, rfl, hn.sq, ?_⟩
    refine outE_imp (outE_or h) fun h => ?_
    rw [← List.map_append]
    refine ⟨_, se, sh ++ bs, rfl, hz.sq, ?_⟩
    refine outE_imp h fun h => ?_
    have l3 : (sh ++ bs).length < 64 := by rw [List.length_append]; omega
    refine ⟨sh, hd0.strs (by omega), fun ys p q => ?_⟩
    rw [srtS_eq p q]
    refine ⟨by decide, by decide, ?_⟩
    refine ⟨bs, .inr (.inr ⟨⟨_, rfl⟩, by omega⟩), fun ys p q => ?_⟩
    rw [srtS_eq p q]
    refine ⟨by decide, by decide, ?_⟩
    refine ⟨sh ++ bs, .inl ⟨rfl, l3⟩, fun ys p q => ?_⟩
    rw [srtS_eq p q]
    refine ⟨by decide, by decide, ?_⟩
    refine ⟨bs, .inr (.inr ⟨⟨_, rfl⟩, by omega⟩), fun ys p q => ?_⟩
    rw [srtS_eq p q]
    refine ⟨_, rfl, by rw [List.length_map, srtS_len]; omega, ?_⟩
    refine dc_weights (ws := ws) nd (fun b hb K' ks zs hK => ?_) ?_
    · walk_at "dl"
      exact ⟨_, _, rfl, _, lk_wt lw hb, hK⟩
    refine ⟨by decide, by decide, ?_⟩
    refine ⟨na, hn.strs g3, fun ys p q => ?_⟩
    rw [srtS_eq p q]
    refine ⟨by decide, by decide, ?_⟩
    refine ⟨se, hz.strs g4, fun ys p q => ?_⟩
    rw [srtS_eq p q]
    refine ⟨by decide, by decide, ?_⟩
    exact ⟨_, _, rfl, h⟩
theorem y_shelves (a b c d e f : DV) : lkD yNs [a, b, c, d, e, f] "_shelves" = some a := rfl
theorem y_boxes (a b c d e f : DV) : lkD yNs [a, b, c, d, e, f] "_boxes" = some b := rfl
theorem y_weights (a b c d e f : DV) : lkD yNs [a, b, c, d, e, f] "_weights" = some d := rfl
theorem hasK_srt {bs : List Str} {s : Str} : hasK ((srtS bs).map Sum.inr) (.inr s) = decide (s ∈ bs) := by
  rw [has_str]; simp only [srtS_mem]
def w_PYard_is_box (K : PySem.W.Frag) : WS :=
  (wRet (wInDN false (wV 1) (wFld (He.ga K "Yard") "_weights" (wV 0))))
def s_PYard_is_box (K : PySem.W.Frag) : DS1 := fun ds R => ∃ sh bs ws na se s, ds = [yardD K sh bs ws na se, .str s] ∧ R (.bl (decide (s ∈ bs)))
theorem l_PYard_is_box (K : PySem.W.Frag) : ∀ ds R, s_PYard_is_box K ds R → ds.length = 2 := by
  rintro ds R ⟨_, _, _, _, _, _, rfl, _⟩
  rfl
theorem o_PYard_is_box (K : PySem.W.Frag) : Owes 2 (s_PYard_is_box K) (w_PYard_is_box K) := by
  rintro ds R ⟨sh, bs, ws, na, se, s, rfl, r⟩
  unfold w_PYard_is_box
  walk_at "dl"
  refine ⟨_, _, _, rfl, y_weights .., _, _, rfl, ?_⟩
  rw [hasK_srt]
  exact r
def w_Prequire_box (K : PySem.W.Frag) : WS :=
  (wIfS (wNot (wTru (wMeth (He.ga K "Yard") "is_box" (s_PYard_is_box K) (wV 0) (aC (wV 1) aN)))) (wRaise1 K "Unknown" "name" (wV 1)) wNx)
theorem y_obj (K : PySem.W.Frag) (sh bs : List Str) (ws : List DV) (na se : List Str) {m : Str} (h : m ∉ yNs) : ∃ ns xs, yardD K sh bs ws na se = .obj (He.ga K "Yard") ns xs ∧ m ∉ ns := ⟨_, _, rfl, h⟩
def s_Prequire_box (K : PySem.W.Frag) : DS2 := fun ds R RX => ∃ sh bs ws na se s, ds = [yardD K sh bs ws na se, .str s] ∧ (s ∈ bs → R .non) ∧ (s ∉ bs → RX (.err (He.ga K "Unknown") ["name"] [.str s]))
theorem l_Prequire_box (K : PySem.W.Frag) : ∀ ds R RX, s_Prequire_box K ds R RX → ds.length = 2 := by
  rintro ds R RX ⟨_, _, _, _, _, _, rfl, _⟩
  rfl
theorem o_Prequire_box (K : PySem.W.Frag) : OwesX 2 (s_Prequire_box K) (w_Prequire_box K) := by
  rintro ds R RX ⟨sh, bs, ws, na, se, s, rfl, h1, h2⟩
  unfold w_Prequire_box
  walk_at "dl"
  refine ⟨y_obj K sh bs ws na se (by decide +kernel), sh, bs, ws, na, se, s, rfl, ?_⟩
  by_cases h : s ∈ bs
  · rw [decide_eq_true h]; exact h1 h
  · rw [decide_eq_false h]; exact h2 h
end DL
namespace DL
open PySem PySem.Spec PyProof.Rows L2 NW
local macro_rules | `(tactic| walk_at "dl1") => `(tactic| simp only [iEnV, wRaiseN, fKeys, fKeysO, fSrtS, wIxD, wIxO, wSlA, wInDN, wLenDD, fDc, wFD, sIx, sNo, wIsH, wHF, wMkK, wAsgMK, asDI, dAddT, gP, wAsgFD, fCallD, fMethD, fDict, wCM, asD1, wDropCM, wAsgCM, wItemsO, fSortP, wForK, fLcK, sFd, sV, wExt, dAddT, dBinI, dBinX, wAsgB, fSortI, fSl, wAsgD, wPutD, atD, atDR, asK, wInOD, wLenOD, fCallN, wCallB, wCallK, wCallD, wDropK, frzE, frz1, wFld, wProp, wMeth, wMeth0, wLenI, dInI, dEqI, tyOk, iOwnD, iVk, wIsC, isC, wSelf, wSelfD, atS, wGet, asD, wGetO, wInDD, wDict, wTrev, dTrev, wMkI, wMkI0, wDropI, wAsgIO, frzL1, wSetO, dSumA, dEqT, dIntL, wCallF, flatR, wRaise1, fSrt, wItems, wTry, wAsgX, wDropX, wKd, wXf, wSeq, wAsg, wAsgO, wRet, wIfS, wNx, wPass, wBk, wCt, wDrop, wAug, wApp, wAppPop, wPop, wFor, wFz, wV, wVP, atV, atP, atO, wC, wOp, wCall, wCallN, wCB, aC, aN, wL, wTu, fL, wF, fCat, fList, wTB, wTru, wAnd, wOr, wNot, wAndV, wOrV, wNotV, wIf, wChain, wIsN, wNeg, dNeg, wSl, pN, pP, dSl, wLrev, dLrev, wIsi, wIsi2, iL, iT, iV, iS, iR1, iR2, gN, fLc, wYes, wiL,
  dAdd, dSub, dMul, dMulS, dMulL, dDiv, dMod, dLt, dLe, dGt, dGe, dEq, dNe, eqD, dIn, dNi, dIx, dTru, isNon, dLen, dInt, dAbs, dMax, dMin, dList, dTup, dStr, dIAdd, frzE, frz1, startD, List.map_cons, List.map_nil, List.length_cons, List.length_nil, List.replicate_succ, List.replicate_zero, List.cons_append, List.nil_append, List.append_nil, List.getElem?_cons_zero, List.getElem?_cons_succ, List.set_cons_zero, List.set_cons_succ, Nat.reduceSub, Nat.reduceAdd, if_true, if_false, ite_true, ite_false, reduceIte, Bool.false_eq_true, decide_true, decide_false, Bool.not_true, Bool.not_false, Bool.not_eq_true', decide_eq_true_eq, decide_eq_false_iff_not, isi_dic_bool, isi_dic_int, isi_dic_str, isi_dic_dict, Bool.true_eq_false, isi_int_int, isi_int_bool, isi_bl_int, isi_bl_bool, isi_non_int, isi_non_bool, isi_str_int, isi_str_bool, isi_str_str, isi_lst_list, isi_tup_tuple, Option.some.injEq, exists_eq_left', exists_eq_left, DV.int.injEq, DV.str.injEq, DV.bl.injEq, List.cons.injEq, and_true, true_and])
local macro_rules | `(tactic| walk_at "dl") => `(tactic| try walk_at "dl1")
local macro_rules | `(tactic| walk_at "go") => `(tactic| repeat' (first
  | (intro _)
  | walk_at "dl1"
  | (refine ⟨by first | decide | omega, ?_⟩)
  | split))
theorem nd_sub {α : Type} [DecidableEq α] : ∀ {a b : List α}, a.Nodup → (∀ x ∈ a, x ∈ b) → a.length ≤ b.length
  | [], _, _, _ => Nat.zero_le _
  | x :: a, b, h, hs => by
    obtain ⟨h1, h2⟩ := List.nodup_cons.mp h
    have hx : x ∈ b := hs x List.mem_cons_self
    have ih := nd_sub (a := a) (b := b.erase x) h2 fun y hy => (List.mem_erase_of_ne fun e => h1 (by rw [← e]; exact hy)).mpr (hs y (List.mem_cons_of_mem _ hy))
    rw [List.length_erase_of_mem hx] at ih
    have := List.length_pos_of_mem hx
    rw [List.length_cons]; omega
/-- the candidates of _law_unlike -/
def cand (s : Str) (k : Nat) : Str := cutS s none (some 6) ++ ⟨#[sg ((0 + (k : Int)) / 26 % 26 % 36).toNat]⟩ ++ ⟨#[sg ((0 + (k : Int)) % 26 % 36).toNat]⟩
theorem sg_inj : ∀ a < 26, ∀ b < 26, sg a = sg b → a = b := by decide +kernel
theorem cand_inj {s : Str} {i j : Nat} (hi : i < 676) (hj : j < 676) (e : cand s i = cand s j) : i = j := by
  have e2 := congrArg (fun z : Str => z.cps.toList) e
  unfold cand at e2
  simp only [app_cps, one_cps, List.append_assoc] at e2
  have e3 := List.append_cancel_left e2
  simp only [List.cons_append, List.nil_append, List.cons.injEq, and_true] at e3
  have a1 := sg_inj ((0 + (i : Int)) / 26 % 26 % 36).toNat (by omega) ((0 + (j : Int)) / 26 % 26 % 36).toNat (by omega) e3.1
  have a2 := sg_inj ((0 + (i : Int)) % 26 % 36).toNat (by omega) ((0 + (j : Int)) % 26 % 36).toNat (by omega) e3.2
  omega
theorem cand_free {s : Str} {ss : List Str} (hl : ss.length ≤ 600) (h : ∀ k, k < ss.length + 1 → cand s k ∈ ss) : False := by
  have z := nd_sub (a := (List.range (ss.length + 1)).map (cand s)) (b := ss) (by
    refine List.pairwise_map.mpr ?_
    refine (List.pairwise_iff_getElem.mpr fun i j hi hj hij e => ?_)
    rw [List.getElem_range, List.getElem_range] at e
    rw [List.length_range] at hi hj
    have := cand_inj (s := s) (by omega) (by omega) e
    omega) (fun x hx => by
    obtain ⟨k, hk, rfl⟩ := List.mem_map.mp hx
    exact h k (List.mem_range.mp hk))
  rw [List.length_map, List.length_range] at z
  omega
def s_unlikeN : DS1 := fun ds R => ∃ (s : Str) (ss : List Str), ds = [.str s, .lst (ss.map .str)] ∧ nmB s = true ∧ ss.length ≤ 600 ∧ ∀ t, nmB t = true → t ∉ ss → R (.str t)
theorem l_unlikeN : ∀ ds R, s_unlikeN ds R → ds.length = 2 := by
  rintro ds R ⟨_, _, rfl, _⟩
  rfl
theorem o_unlikeN : Owes 4 (s_unlikeN) (w_unlike) := by
  rintro ds R ⟨s, ss, rfl, h0, h1, h⟩
  unfold w_unlike
  walk_at "dl"
  refine ⟨ss, rfl, ?_⟩
  by_cases hm : s ∈ ss
  · rw [decide_eq_true hm]
    walk_at "dl"
    rw [List.length_map]
    refine ⟨by omega, by omega, ?_⟩
    refine forL_ind (fun i ρ => (∀ k, k < i → cand s k ∈ ss) ∧ ∃ v2 v3 : Sl, ρ = [.dt (.str s), .dt (.lst (ss.map DV.str)), v2, v3]) ⟨fun k hk => absurd hk (Nat.not_lt_zero _), _, _, rfl⟩ ?_ ?_
    · rintro i x ρ K hx ⟨hk, v2, v3, rfl⟩ hK
      obtain ⟨rfl, hi⟩ := intL_at hx
      walk_at "dl"
      simp only [s_sign]
      have nl := nm_len h0
      have c6 : (cutS s none (some 6)).cps.toList = s.cps.toList.take 6 := by rw [cut_cps, show (some (6 : Int)) = some (((6 : Nat) : Int)) from rfl, cutG_to]
      have l6 : (cutS s none (some 6)).length ≤ 8 := by rw [len_cps, c6, List.length_take, ← len_cps]; omega
      refine ⟨by omega, ⟨by decide, by decide⟩, by decide, by rw [one_len]; omega, by decide, by rw [app_len, one_len, one_len]; omega, ss, rfl, ?_⟩
      have hn : nmB (cand s i) = true :=
        nm_ext h0 (k := 6) (by decide) (t := [sg ((0 + (i : Int)) / 26 % 26 % 36).toNat, sg ((0 + (i : Int)) % 26 % 36).toNat])
          (by simp only [List.all_cons, List.all_nil, sg_lod (show ((0 + (i : Int)) / 26 % 26 % 36).toNat < 36 by omega), sg_lod (show ((0 + (i : Int)) % 26 % 36).toNat < 36 by omega), Bool.and_true])
          (by simp only [List.length_cons, List.length_nil]; omega) (by unfold cand; rw [app_cps, app_cps, c6, one_cps, one_cps, List.append_assoc]; rfl)
      generalize hb : decide (_ ∈ ss) = b
      have hb : decide (cand s i ∈ ss) = b := hb
      cases b with
      | true =>
        walk_at "dl"
        refine hK _ ⟨fun k hk2 => ?_, _, _, rfl⟩
        by_cases e : k = i
        · rw [e]; exact of_decide_eq_true hb
        · exact hk k (by omega)
      | false =>
        walk_at "dl"
        exact h _ hn (of_decide_eq_false hb)
    · rintro ρ ⟨hk, v2, v3, rfl⟩
      rw [intL_len] at hk
      exact (cand_free h1 fun k hk2 => hk k (by omega)).elim
  · rw [decide_eq_false hm]
    walk_at "dl"
    exact h s h0 hm
def w_namesN : WS :=
  (wSeq (wAsg 3 (wCall s_take (aC (wV 0) (aC (wC (.int 6)) aN))))
    (wSeq (wAsg 4 (wCall s_name (aC (wV 0) aN)))
    (wSeq (wAsgO 5 (fL aN))
    (wSeq (wFor (iR1 (aC (wV 1) aN)) (gN 6) (wApp 5 (wCall s_unlikeN (aC (wCall s_name_like_by (aC (wV 0) (aC (wV 3) (aC (wV 4) aN)))) (aC (wOp dAdd (wCB dList (aC (wVP 2) aN)) (wVP 5)) aN)))))
    (wRet (wV 5))))))
def s_namesN : DS1 := fun ds R => ∃ m : Int, ds = [.sto, .int m, .lst []] ∧ 0 ≤ m ∧ m ≤ 60 ∧ ∀ ss : List Str, ss.length = m.toNat → ss.Nodup → (∀ s ∈ ss, nmB s = true) → R (.lst (ss.map DV.str))
theorem l_namesN : ∀ ds R, s_namesN ds R → ds.length = 3 := by
  rintro ds R ⟨_, rfl, _⟩
  rfl
theorem o_namesN : Owes 7 (s_namesN) (w_namesN) := by
  rintro ds R ⟨m, rfl, h0, h1, h⟩
  unfold w_namesN
  walk_at "dl"
  simp only [s_take, s_name]
  refine ⟨by decide, fun r r0 r1 st hst => ⟨by omega, by omega, by omega, ?_⟩⟩
  refine forL_ind (fun i ρ => ∃ (ss : List Str) (v : Sl), ρ = [.dt .sto, .dt (.int m), .dt (.lst []), .dt (.int r), .dt (.str st), .ow (ss.map DV.str), v] ∧ ss.length = i ∧ ss.Nodup ∧ ∀ s ∈ ss, nmB s = true) ⟨[], _, rfl, rfl, List.nodup_nil, fun _ z => nomatch z⟩ ?_ ?_
  · rintro i x ρ K hx ⟨ss, v, rfl, hl, nd, hs⟩ hK
    obtain ⟨rfl, hi⟩ := intL_at hx
    walk_at "dl"
    simp only [s_name_like_by, s_unlikeN]
    have lm : (ss.map DV.str).length = i := by rw [List.length_map, hl]
    refine ⟨hst, fun t ht => ⟨by omega, _, ss, rfl, ht, by omega, fun u hu hn => ⟨by omega, hK _ ⟨ss ++ [u], _, by rw [List.map_append]; rfl, by rw [List.length_append, hl]; rfl, ?_, fun s hs' => ?_⟩⟩⟩⟩
    · rw [List.nodup_append]
      exact ⟨nd, List.pairwise_singleton _ _, fun a ha b hb e => hn (by rw [List.mem_singleton.mp hb] at e; rw [← e]; exact ha)⟩
    · rcases List.mem_append.mp hs' with z | z
      · exact hs s z
      · rw [List.mem_singleton.mp z]; exact hu
  · rintro ρ ⟨ss, v, rfl, hl, nd, hs⟩
    rw [intL_len] at hl
    walk_at "dl"
    exact h ss hl nd hs
def w_markedN : WS :=
  (wSeq (wAsg 2 (wCall s_take (aC (wV 0) (aC (wC (.int 8)) aN))))
    (wSeq (wIfS (wTB (wOp dLt (wVP 2) (wC (.int 4)))) (wRet (wL aN)) wNx)
    (wSeq (wIfS (wTB (wOp dEq (wVP 2) (wC (.int 4)))) (wRet (wL (aC (wCall s_pick (aC (wV 0) (aC (wV 1) aN))) aN))) wNx)
    (wSeq (wIfS (wTB (wOp dEq (wVP 2) (wC (.int 7)))) (wRet (wCB dList (aC (wVP 1) aN))) wNx)
    (wSeq (wAsgO 3 (fL aN))
    (wSeq (wFor (iL (wV 1)) (gN 4) (wIfS (wTB (wOp dLt (wCall s_take (aC (wV 0) (aC (wC (.int 4)) aN))) (wOp dSub (wVP 2) (wC (.int 4))))) (wApp 3 (wV 4)) wNx))
    (wRet (wV 3))))))))
/-- some of the names, in their order -/
def s_markedN : DS1 := fun ds R => ∃ ss : List Str, ds = [.sto, .lst (ss.map .str)] ∧ ss ≠ [] ∧ ss.length ≤ 1000 ∧ ∀ zs : List Str, zs.Sublist ss → R (.lst (zs.map .str))
theorem l_markedN : ∀ ds R, s_markedN ds R → ds.length = 2 := by
  rintro ds R ⟨_, rfl, _⟩
  rfl
theorem o_markedN : Owes 5 (s_markedN) (w_markedN) := by
  rintro ds R ⟨ss, rfl, hne, hl, h⟩
  unfold w_markedN
  walk_at "dl"
  simp only [s_take]
  refine ⟨by decide, fun r r0 r1 => ?_⟩
  by_cases e : r < 4
  · rw [if_pos e]; walk_at "dl"; exact ⟨by decide, h [] (List.nil_sublist _)⟩
  rw [if_neg e]
  walk_at "dl"
  by_cases e : r = 4
  · rw [if_pos e]; walk_at "dl"
    simp only [s_pick]
    refine ⟨by rw [List.length_map]; exact List.length_pos_iff.mpr hne, by rw [List.length_map]; omega, fun x hx => ⟨by decide, ?_⟩⟩
    obtain ⟨s, hs, rfl⟩ := List.mem_map.mp hx
    exact h [s] (List.singleton_sublist.mpr hs)
  rw [if_neg e]
  walk_at "dl"
  by_cases e : r = 7
  · rw [if_pos e]; walk_at "dl"; exact h ss (List.Sublist.refl _)
  rw [if_neg e]
  walk_at "dl"
  refine ⟨by decide, _, rfl, ?_⟩
  refine forL_ind (fun i ρ => ∃ (zs : List Str) (v : Sl), ρ = [.dt .sto, .dt (.lst (ss.map .str)), .dt (.int r), .ow (zs.map .str), v] ∧ zs.length ≤ i ∧ zs.Sublist (ss.take i)) ⟨[], _, rfl, Nat.le_refl _, List.nil_sublist _⟩ ?_ ?_
  · rintro i x ρ K hx ⟨zs, v, rfl, hz, hs⟩ hK
    rw [List.getElem?_map] at hx
    cases ei : ss[i]? with
    | none => rw [ei] at hx; cases hx
    | some s =>
      rw [ei] at hx
      obtain rfl : DV.str s = x := Option.some.inj hx
      have hi := (List.getElem?_eq_some_iff.mp ei).1
      walk_at "dl"
      refine ⟨by decide, fun q q0 q1 => ?_⟩
      dsimp only
      by_cases e3 : q < r - 4
      · rw [if_pos e3]; walk_at "dl"
        refine ⟨by rw [List.length_map]; omega, hK _ ⟨zs ++ [s], _, by rw [List.map_append]; rfl, by rw [List.length_append]; exact Nat.succ_le_succ hz, ?_⟩⟩
        rw [take_snoc ei]
        exact hs.append_right [s]
      · rw [if_neg e3]
        refine hK _ ⟨zs, _, rfl, by omega, ?_⟩
        rw [take_snoc ei]
        exact hs.trans (List.sublist_append_left _ _)
  · rintro ρ ⟨zs, v, rfl, hz, hs⟩
    rw [List.length_map, List.take_length] at hs
    walk_at "dl"
    exact h zs hs
end DL
namespace DL
open PySem PySem.Spec PyProof.Rows L2 NW
local macro_rules | `(tactic| walk_at "dl1") => `(tactic| simp only [iEnV, wRaiseN, fKeys, fKeysO, fSrtS, wIxD, wIxO, wSlA, wInDN, wLenDD, fDc, wFD, sIx, sNo, wIsH, wHF, wMkK, wAsgMK, asDI, dAddT, gP, wAsgFD, fCallD, fMethD, fDict, wCM, asD1, wDropCM, wAsgCM, wItemsO, fSortP, wForK, fLcK, sFd, sV, wExt, dAddT, dBinI, dBinX, wAsgB, fSortI, fSl, wAsgD, wPutD, atD, atDR, asK, wInOD, wLenOD, fCallN, wCallB, wCallK, wCallD, wDropK, frzE, frz1, wFld, wProp, wMeth, wMeth0, wLenI, dInI, dEqI, tyOk, iOwnD, iVk, wIsC, isC, wSelf, wSelfD, atS, wGet, asD, wGetO, wInDD, wDict, wTrev, dTrev, wMkI, wMkI0, wDropI, wAsgIO, frzL1, wSetO, dSumA, dEqT, dIntL, wCallF, flatR, wRaise1, fSrt, wItems, wTry, wAsgX, wDropX, wKd, wXf, wSeq, wAsg, wAsgO, wRet, wIfS, wNx, wPass, wBk, wCt, wDrop, wAug, wApp, wAppPop, wPop, wFor, wFz, wV, wVP, atV, atP, atO, wC, wOp, wCall, wCallN, wCB, aC, aN, wL, wTu, fL, wF, fCat, fList, wTB, wTru, wAnd, wOr, wNot, wAndV, wOrV, wNotV, wIf, wChain, wIsN, wNeg, dNeg, wSl, pN, pP, dSl, wLrev, dLrev, wIsi, wIsi2, iL, iT, iV, iS, iR1, iR2, gN, fLc, wYes, wiL,
  dAdd, dSub, dMul, dMulS, dMulL, dDiv, dMod, dLt, dLe, dGt, dGe, dEq, dNe, eqD, dIn, dNi, dIx, dTru, isNon, dLen, dInt, dAbs, dMax, dMin, dList, dTup, dStr, dIAdd, frzE, frz1, startD, List.map_cons, List.map_nil, List.length_cons, List.length_nil, List.replicate_succ, List.replicate_zero, List.cons_append, List.nil_append, List.append_nil, List.getElem?_cons_zero, List.getElem?_cons_succ, List.set_cons_zero, List.set_cons_succ, Nat.reduceSub, Nat.reduceAdd, if_true, if_false, ite_true, ite_false, reduceIte, Bool.false_eq_true, decide_true, decide_false, Bool.not_true, Bool.not_false, Bool.not_eq_true', decide_eq_true_eq, decide_eq_false_iff_not, isi_dic_bool, isi_dic_int, isi_dic_str, isi_dic_dict, Bool.true_eq_false, isi_int_int, isi_int_bool, isi_bl_int, isi_bl_bool, isi_non_int, isi_non_bool, isi_str_int, isi_str_bool, isi_str_str, isi_lst_list, isi_tup_tuple, Option.some.injEq, exists_eq_left', exists_eq_left, DV.int.injEq, DV.str.injEq, DV.bl.injEq, List.cons.injEq, and_true, true_and])
local macro_rules | `(tactic| walk_at "dl") => `(tactic| try walk_at "dl1")
local macro_rules | `(tactic| walk_at "go") => `(tactic| repeat' (first
  | (intro _)
  | walk_at "dl1"
  | (refine ⟨by first | decide | omega, ?_⟩)
  | split))
end DL
namespace DL
open PySem PySem.Spec PyProof.Rows L2 NW
local macro_rules | `(tactic| walk_at "dl1") => `(tactic| simp only [iEnV, wRaiseN, fKeys, fKeysO, fSrtS, wIxD, wIxO, wSlA, wInDN, wLenDD, fDc, wFD, sIx, sNo, wIsH, wHF, wMkK, wAsgMK, asDI, dAddT, gP, wAsgFD, fCallD, fMethD, fDict, wCM, asD1, wDropCM, wAsgCM, wItemsO, fSortP, wForK, fLcK, sFd, sV, wExt, dAddT, dBinI, dBinX, wAsgB, fSortI, fSl, wAsgD, wPutD, atD, atDR, asK, wInOD, wLenOD, fCallN, wCallB, wCallK, wCallD, wDropK, frzE, frz1, wFld, wProp, wMeth, wMeth0, wLenI, dInI, dEqI, tyOk, iOwnD, iVk, wIsC, isC, wSelf, wSelfD, atS, wGet, asD, wGetO, wInDD, wDict, wTrev, dTrev, wMkI, wMkI0, wDropI, wAsgIO, frzL1, wSetO, dSumA, dEqT, dIntL, wCallF, flatR, wRaise1, fSrt, wItems, wTry, wAsgX, wDropX, wKd, wXf, wSeq, wAsg, wAsgO, wRet, wIfS, wNx, wPass, wBk, wCt, wDrop, wAug, wApp, wAppPop, wPop, wFor, wFz, wV, wVP, atV, atP, atO, wC, wOp, wCall, wCallN, wCB, aC, aN, wL, wTu, fL, wF, fCat, fList, wTB, wTru, wAnd, wOr, wNot, wAndV, wOrV, wNotV, wIf, wChain, wIsN, wNeg, dNeg, wSl, pN, pP, dSl, wLrev, dLrev, wIsi, wIsi2, iL, iT, iV, iS, iR1, iR2, gN, fLc, wYes, wiL,
  dAdd, dSub, dMul, dMulS, dMulL, dDiv, dMod, dLt, dLe, dGt, dGe, dEq, dNe, eqD, dIn, dNi, dIx, dTru, isNon, dLen, dInt, dAbs, dMax, dMin, dList, dTup, dStr, dIAdd, frzE, frz1, startD, List.map_cons, List.map_nil, List.length_cons, List.length_nil, List.replicate_succ, List.replicate_zero, List.cons_append, List.nil_append, List.append_nil, List.getElem?_cons_zero, List.getElem?_cons_succ, List.set_cons_zero, List.set_cons_succ, Nat.reduceSub, Nat.reduceAdd, if_true, if_false, ite_true, ite_false, reduceIte, Bool.false_eq_true, decide_true, decide_false, Bool.not_true, Bool.not_false, Bool.not_eq_true', decide_eq_true_eq, decide_eq_false_iff_not, isi_dic_bool, isi_dic_int, isi_dic_str, isi_dic_dict, Bool.true_eq_false, isi_int_int, isi_int_bool, isi_bl_int, isi_bl_bool, isi_non_int, isi_non_bool, isi_str_int, isi_str_bool, isi_str_str, isi_lst_list, isi_tup_tuple, Option.some.injEq, exists_eq_left', exists_eq_left, DV.int.injEq, DV.str.injEq, DV.bl.injEq, List.cons.injEq, and_true, true_and])
local macro_rules | `(tactic| walk_at "dl") => `(tactic| try walk_at "dl1")
local macro_rules | `(tactic| walk_at "go") => `(tactic| repeat' (first
  | (intro _)
  | walk_at "dl1"
  | (refine ⟨by first | decide | omega, ?_⟩)
  | split))
theorem atS_map {ss : List Str} {i : Nat} {s : Str} (h : ss[i]? = some s) : atI (ss.map DV.str) (i : Int) = some (.str s) := atI_nat (by rw [List.getElem?_map, h]; rfl)
end DL
namespace DL
open PySem PySem.Spec PyProof.Rows L2 NW
local macro_rules | `(tactic| walk_at "dl1") => `(tactic| simp only [iEnV, wRaiseN, fKeys, fKeysO, fSrtS, wIxD, wIxO, wSlA, wInDN, wLenDD, fDc, wFD, sIx, sNo, wIsH, wHF, wMkK, wAsgMK, asDI, dAddT, gP, wAsgFD, fCallD, fMethD, fDict, wCM, asD1, wDropCM, wAsgCM, wItemsO, fSortP, wForK, fLcK, sFd, sV, wExt, dAddT, dBinI, dBinX, wAsgB, fSortI, fSl, wAsgD, wPutD, atD, atDR, asK, wInOD, wLenOD, fCallN, wCallB, wCallK, wCallD, wDropK, frzE, frz1, wFld, wProp, wMeth, wMeth0, wLenI, dInI, dEqI, tyOk, iOwnD, iVk, wIsC, isC, wSelf, wSelfD, atS, wGet, asD, wGetO, wInDD, wDict, wTrev, dTrev, wMkI, wMkI0, wDropI, wAsgIO, frzL1, wSetO, dSumA, dEqT, dIntL, wCallF, flatR, wRaise1, fSrt, wItems, wTry, wAsgX, wDropX, wKd, wXf, wSeq, wAsg, wAsgO, wRet, wIfS, wNx, wPass, wBk, wCt, wDrop, wAug, wApp, wAppPop, wPop, wFor, wFz, wV, wVP, atV, atP, atO, wC, wOp, wCall, wCallN, wCB, aC, aN, wL, wTu, fL, wF, fCat, fList, wTB, wTru, wAnd, wOr, wNot, wAndV, wOrV, wNotV, wIf, wChain, wIsN, wNeg, dNeg, wSl, pN, pP, dSl, wLrev, dLrev, wIsi, wIsi2, iL, iT, iV, iS, iR1, iR2, gN, fLc, wYes, wiL,
  dAdd, dSub, dMul, dMulS, dMulL, dDiv, dMod, dLt, dLe, dGt, dGe, dEq, dNe, eqD, dIn, dNi, dIx, dTru, isNon, dLen, dInt, dAbs, dMax, dMin, dList, dTup, dStr, dIAdd, frzE, frz1, startD, List.map_cons, List.map_nil, List.length_cons, List.length_nil, List.replicate_succ, List.replicate_zero, List.cons_append, List.nil_append, List.append_nil, List.getElem?_cons_zero, List.getElem?_cons_succ, List.set_cons_zero, List.set_cons_succ, Nat.reduceSub, Nat.reduceAdd, if_true, if_false, ite_true, ite_false, reduceIte, Bool.false_eq_true, decide_true, decide_false, Bool.not_true, Bool.not_false, Bool.not_eq_true', decide_eq_true_eq, decide_eq_false_iff_not, isi_dic_bool, isi_dic_int, isi_dic_str, isi_dic_dict, Bool.true_eq_false, isi_int_int, isi_int_bool, isi_bl_int, isi_bl_bool, isi_non_int, isi_non_bool, isi_str_int, isi_str_bool, isi_str_str, isi_lst_list, isi_tup_tuple, Option.some.injEq, exists_eq_left', exists_eq_left, DV.int.injEq, DV.str.injEq, DV.bl.injEq, List.cons.injEq, and_true, true_and])
local macro_rules | `(tactic| walk_at "dl") => `(tactic| try walk_at "dl1")
local macro_rules | `(tactic| walk_at "go") => `(tactic| repeat' (first
  | (intro _)
  | walk_at "dl1"
  | (refine ⟨by first | decide | omega, ?_⟩)
  | split))
end DL
namespace DL
open PySem PySem.Spec PyProof.Rows L2 NW
local macro_rules | `(tactic| walk_at "dl1") => `(tactic| simp only [iEnV, wRaiseN, fKeys, fKeysO, fSrtS, wIxD, wIxO, wSlA, wInDN, wLenDD, fDc, wFD, sIx, sNo, wIsH, wHF, wMkK, wAsgMK, asDI, dAddT, gP, wAsgFD, fCallD, fMethD, fDict, wCM, asD1, wDropCM, wAsgCM, wItemsO, fSortP, wForK, fLcK, sFd, sV, wExt, dAddT, dBinI, dBinX, wAsgB, fSortI, fSl, wAsgD, wPutD, atD, atDR, asK, wInOD, wLenOD, fCallN, wCallB, wCallK, wCallD, wDropK, frzE, frz1, wFld, wProp, wMeth, wMeth0, wLenI, dInI, dEqI, tyOk, iOwnD, iVk, wIsC, isC, wSelf, wSelfD, atS, wGet, asD, wGetO, wInDD, wDict, wTrev, dTrev, wMkI, wMkI0, wDropI, wAsgIO, frzL1, wSetO, dSumA, dEqT, dIntL, wCallF, flatR, wRaise1, fSrt, wItems, wTry, wAsgX, wDropX, wKd, wXf, wSeq, wAsg, wAsgO, wRet, wIfS, wNx, wPass, wBk, wCt, wDrop, wAug, wApp, wAppPop, wPop, wFor, wFz, wV, wVP, atV, atP, atO, wC, wOp, wCall, wCallN, wCB, aC, aN, wL, wTu, fL, wF, fCat, fList, wTB, wTru, wAnd, wOr, wNot, wAndV, wOrV, wNotV, wIf, wChain, wIsN, wNeg, dNeg, wSl, pN, pP, dSl, wLrev, dLrev, wIsi, wIsi2, iL, iT, iV, iS, iR1, iR2, gN, fLc, wYes, wiL,
  dAdd, dSub, dMul, dMulS, dMulL, dDiv, dMod, dLt, dLe, dGt, dGe, dEq, dNe, eqD, dIn, dNi, dIx, dTru, isNon, dLen, dInt, dAbs, dMax, dMin, dList, dTup, dStr, dIAdd, frzE, frz1, startD, List.map_cons, List.map_nil, List.length_cons, List.length_nil, List.replicate_succ, List.replicate_zero, List.cons_append, List.nil_append, List.append_nil, List.getElem?_cons_zero, List.getElem?_cons_succ, List.set_cons_zero, List.set_cons_succ, Nat.reduceSub, Nat.reduceAdd, if_true, if_false, ite_true, ite_false, reduceIte, Bool.false_eq_true, decide_true, decide_false, Bool.not_true, Bool.not_false, Bool.not_eq_true', decide_eq_true_eq, decide_eq_false_iff_not, isi_dic_bool, isi_dic_int, isi_dic_str, isi_dic_dict, Bool.true_eq_false, isi_int_int, isi_int_bool, isi_bl_int, isi_bl_bool, isi_non_int, isi_non_bool, isi_str_int, isi_str_bool, isi_str_str, isi_lst_list, isi_tup_tuple, Option.some.injEq, exists_eq_left', exists_eq_left, DV.int.injEq, DV.str.injEq, DV.bl.injEq, List.cons.injEq, and_true, true_and])
local macro_rules | `(tactic| walk_at "dl") => `(tactic| try walk_at "dl1")
local macro_rules | `(tactic| walk_at "go") => `(tactic| repeat' (first
  | (intro _)
  | walk_at "dl1"
  | (refine ⟨by first | decide | omega, ?_⟩)
  | split))
def wNotN (w : WE) : WE := fun ρ R => w ρ fun d => R (.bl (!isNon d))
theorem dtisnn {X : Cx} {a e : Expr} {wa : WE} (ha : PE X a (liftP wa)) (h : ∀ t, PE X a t → PT X e (tB (tNotN t))) : PT X e (liftT (wTB (wNotN wa))) := pt_weak (h _ ha) fun σ H Q q => by
  obtain ⟨W, own, ρ, R, o, i, z, f⟩ := q
  refine ⟨W, own, ρ, _, o, i, z, fun x v H1 r1 k1 o1 i1 => ⟨_, rfl, ?_⟩⟩
  show Q (!decide (v = .non)) H1
  rw [is_non i1]
  exact f _ _ r1 k1 o1
end DL
namespace DL
open PySem PySem.Spec PyProof.Rows L2 NW
local macro_rules | `(tactic| walk_at "dl1") => `(tactic| simp only [iEnV, wRaiseN, fKeys, fKeysO, fSrtS, wIxD, wIxO, wSlA, wInDN, wLenDD, fDc, wFD, sIx, sNo, wIsH, wHF, wMkK, wAsgMK, asDI, dAddT, gP, wAsgFD, fCallD, fMethD, fDict, wCM, asD1, wDropCM, wAsgCM, wItemsO, fSortP, wForK, fLcK, sFd, sV, wExt, dAddT, dBinI, dBinX, wAsgB, fSortI, fSl, wAsgD, wPutD, atD, atDR, asK, wInOD, wLenOD, fCallN, wCallB, wCallK, wCallD, wDropK, frzE, frz1, wFld, wProp, wMeth, wMeth0, wLenI, dInI, dEqI, tyOk, iOwnD, iVk, wIsC, isC, wSelf, wSelfD, atS, wGet, asD, wGetO, wInDD, wDict, wTrev, dTrev, wMkI, wMkI0, wDropI, wAsgIO, frzL1, wSetO, dSumA, dEqT, dIntL, wCallF, flatR, wRaise1, fSrt, wItems, wTry, wAsgX, wDropX, wKd, wXf, wSeq, wAsg, wAsgO, wRet, wIfS, wNx, wPass, wBk, wCt, wDrop, wAug, wApp, wAppPop, wPop, wFor, wFz, wV, wVP, atV, atP, atO, wC, wOp, wCall, wCallN, wCB, aC, aN, wL, wTu, fL, wF, fCat, fList, wTB, wTru, wAnd, wOr, wNot, wAndV, wOrV, wNotV, wIf, wChain, wIsN, wNeg, dNeg, wSl, pN, pP, dSl, wLrev, dLrev, wIsi, wIsi2, iL, iT, iV, iS, iR1, iR2, gN, fLc, wYes, wiL,
  dAdd, dSub, dMul, dMulS, dMulL, dDiv, dMod, dLt, dLe, dGt, dGe, dEq, dNe, eqD, dIn, dNi, dIx, dTru, isNon, dLen, dInt, dAbs, dMax, dMin, dList, dTup, dStr, dIAdd, frzE, frz1, startD, List.map_cons, List.map_nil, List.length_cons, List.length_nil, List.replicate_succ, List.replicate_zero, List.cons_append, List.nil_append, List.append_nil, List.getElem?_cons_zero, List.getElem?_cons_succ, List.set_cons_zero, List.set_cons_succ, Nat.reduceSub, Nat.reduceAdd, if_true, if_false, ite_true, ite_false, reduceIte, Bool.false_eq_true, decide_true, decide_false, Bool.not_true, Bool.not_false, Bool.not_eq_true', decide_eq_true_eq, decide_eq_false_iff_not, isi_dic_bool, isi_dic_int, isi_dic_str, isi_dic_dict, Bool.true_eq_false, isi_int_int, isi_int_bool, isi_bl_int, isi_bl_bool, isi_non_int, isi_non_bool, isi_str_int, isi_str_bool, isi_str_str, isi_lst_list, isi_tup_tuple, Option.some.injEq, exists_eq_left', exists_eq_left, DV.int.injEq, DV.str.injEq, DV.bl.injEq, List.cons.injEq, and_true, true_and])
local macro_rules | `(tactic| walk_at "dl") => `(tactic| try walk_at "dl1")
local macro_rules | `(tactic| walk_at "go") => `(tactic| repeat' (first
  | (intro _)
  | walk_at "dl1"
  | (refine ⟨by first | decide | omega, ?_⟩)
  | split))
theorem putKs_ite {ks : List Str} {k : Str} : putKs (ks.map Sum.inr) (.inr k) = if k ∈ ks then ks.map Sum.inr else (ks ++ [k]).map Sum.inr := by
  unfold putKs
  rw [has_str]
  by_cases h : k ∈ ks
  · rw [decide_eq_true h, if_pos rfl, if_pos h]
  · rw [decide_eq_false h, if_neg (by decide), if_neg h, List.map_append]; rfl
end DL
namespace DL
open PySem PySem.Spec PyProof.Rows L2 NW
def wAugD (i : Nat) (d2 : D2) (wk wv : WE) : WS := fun E ρ => atD (fun ks xs => wk ρ fun k => asK k fun kk => ∃ x, lkK ks xs kk = some x ∧ wv ρ fun v => d2 x v fun z => ks.length < 1000000 ∧ E.nx (ρ.set i (.od (putKs ks kk) (putXs ks xs kk z)))) ρ[i]?
section
variable {Ex : L2.WX} {X : Cx} {a b : Expr} {wk wv : WE} {st : Stmt}
theorem daugD (i : Nat) {r : TIp} {d2 : D2} (op : Op r d2) (h : ∀ ty tv, PE X a ty → PE X b tv → PS X st (sDAug (tVar i) ty tv r)) (hk : PE X a (lift wk)) (hv : PE X b (liftP wv)) : PS X st (liftS Ex (wAugD i d2 wk wv)) := ps_weak (h _ _ hk hv) fun D σ H q => by
  obtain ⟨B, own, ρ, E, c, h, d⟩ := q
  obtain ⟨ks, xs, hx, h⟩ := atD_ex h
  obtain ⟨p, kvs, g1, g2, g3, g4, g5⟩ := c.e.od i ks xs hx
  refine ⟨.ref p, g2, B.w own, own, ρ, _, c.ok, c.e, h, fun dk u H2 r2 k2 o2 i2 => ?_⟩
  obtain ⟨kk, ⟨x, hl, r2⟩, ek⟩ := asK_ex r2
  obtain rfl := ek i2
  have c2 := c.mono k2 o2
  obtain ⟨p', kvs', f1, f2, f3, ⟨f4, f6, f7⟩, f5⟩ := c2.e.od i ks xs hx
  rw [g1] at f1; cases f1
  rw [← f6] at hl
  obtain ⟨v, hv2, iv⟩ := lkK_val f5 hl
  refine ⟨p, v, rfl, .inl ⟨_, kk, .inl f3, rfl, hv2.symm⟩, B.w own, own, ρ, _, o2, c2.e, r2, fun y u H3 r3 k3 o3 i3 => ?_⟩
  refine op (B.w own) own H3 v u x y _ _ o3 (.inl (iv.mono k3)) i3 r3 fun z zv H4 r4 k4 o4 i4 => ?_
  have c4 := c2.mono (k3.trans k4) o4
  obtain ⟨p4, kvs4, e1, e2, e3, ⟨e4, e6, e7⟩, e5⟩ := c4.e.od i ks xs hx
  rw [g1] at e1; cases e1
  obtain ⟨hl4, r4⟩ := r4
  have ll : kvs4.length < 1000000 := by
    rw [← e6, List.length_map] at hl4; exact hl4
  have hi : Iss (B.w own) H4 ((putK kvs4 kk zv).map (·.2)) (putXs ks xs kk z) := by
    have z := put_iss (k := kk) e5 i4
    rw [e6] at z
    exact z
  exact ⟨_, DPut.k e3 (Nat.lt_of_lt_of_le ll (by decide)), d.nx own _ _ _ r4 (c4.updD i g1 hx ⟨Nat.le_trans (length_putK _ _ _) ll, by rw [put_keys, e6], putKs_nodup e7⟩ hi)⟩
end
end DL
namespace DL
open PySem PySem.Spec PyProof.Rows L2 NW
def fLcO (j : Nat) (gg : WG) (t : WT) (w : WE) (vs : List Nat) : WF := fun ρ R => atO (fun xs => xs.length ≤ 1000000 ∧ lcL gg t w xs (wiL ρ vs) [] R) ρ[j]?
section
variable {Ex : L2.WX} {X : Cx} {e : Expr} {st : Stmt} {g : TG} {gg : WG} {t : WT} {tt : TT} {w : WE} {vs : List Nat} {K : PySem.W.Frag}
theorem wks_own {W : Wd} {H : Hp} {a : Addr} {us : List V} {xs : List DV} (h1 : H a = some (.lst us)) (h2 : W.st ≠ some a) (h4 : Iss W H us xs) : Wks (Itl K a) W H xs := by
  refine Wks.old (fun n H' k l => ?_) (fun n H' k l => ?_) (fun n H' v H2 k y l => ?_)
  · rw [← h4.len] at l
    exact ⟨us, us[n], SqL.of (k.o h1 h2), List.getElem?_eq_getElem l⟩
  · exact ⟨us, SqL.of (k.o h1 h2), by rw [h4.len, l]; exact Nat.le_refl _⟩
  · obtain ⟨e, z⟩ := y
    have zz := z us (SqL.of (k.o h1 h2))
    obtain ⟨x, hx, ix⟩ := h4.get' zz
    exact ⟨e, x, hx, ix⟩
theorem lcO_tr {j : Nat} (hg : Tc g gg vs) (ht : ∀ σ H Q, liftT t σ H Q → tt σ H Q) {σ : L2.St} {H : Hp} {Q : VK} (q : liftF (fLcO j gg t w vs) σ H Q) : tLc (iList K (tVar j)) g tt (lift w) vs σ H Q := by
  obtain ⟨W, own, ρ, R, o, ie, z, f⟩ := q
  obtain ⟨xs, hx, z⟩ := atO_ex z
  obtain ⟨b, us, f1, f2, f3, f4, f5⟩ := ie.ow j xs hx
  exact ⟨_, f2, b, rfl, ⟨us, SqL.of f3⟩, lc_wks hg ht o ie (wks_own f3 (o.h b (ie.hd j b f1)).2 f5) z.1 z.2 f⟩
theorem dsetLcOw (i j : Nat) (hg : Tc g gg vs) (ht : ∀ σ H Q, liftT t σ H Q → tt σ H Q) (h : PS X st (tAsg (tLc (iList X.K (tVar j)) g tt (lift w) vs) (gName i))) : PS X st (liftS Ex (wAsg i (wF (fLcO j gg t w vs)))) := ps_weak h fun D σ H q => by
  obtain ⟨B, own, ρ, E, c, h, d⟩ := q
  refine lcO_tr hg ht ⟨B.w own, own, ρ, _, c.ok, c.e, h, fun xs us q H1 r k o i1 l hq => ?_⟩
  have s := same_new (o := .lst us) hq
  exact d.nx _ _ _ _ r (((c.mono k o).mono (Kp.same s) (o.same s)).set i (.lst upd_same (o.fresh hq) l (i1.mono (Kp.same s))))
end
end DL
namespace DL
open PySem PySem.Spec PyProof.Rows L2 NW
local macro_rules | `(tactic| walk_at "dl1") => `(tactic| simp only [wAugD, fLcO, wNotN, iEnV, wRaiseN, fKeys, fKeysO, fSrtS, wIxD, wIxO, wSlA, wInDN, wLenDD, fDc, wFD, sIx, sNo, wIsH, wHF, wMkK, wAsgMK, asDI, dAddT, gP, wAsgFD, fCallD, fMethD, fDict, wCM, asD1, wDropCM, wAsgCM, wItemsO, fSortP, wForK, fLcK, sFd, sV, wExt, dAddT, dBinI, dBinX, wAsgB, fSortI, fSl, wAsgD, wPutD, atD, atDR, asK, wInOD, wLenOD, fCallN, wCallB, wCallK, wCallD, wDropK, frzE, frz1, wFld, wProp, wMeth, wMeth0, wLenI, dInI, dEqI, tyOk, iOwnD, iVk, wIsC, isC, wSelf, wSelfD, atS, wGet, asD, wGetO, wInDD, wDict, wTrev, dTrev, wMkI, wMkI0, wDropI, wAsgIO, frzL1, wSetO, dSumA, dEqT, dIntL, wCallF, flatR, wRaise1, fSrt, wItems, wTry, wAsgX, wDropX, wKd, wXf, wSeq, wAsg, wAsgO, wRet, wIfS, wNx, wPass, wBk, wCt, wDrop, wAug, wApp, wAppPop, wPop, wFor, wFz, wV, wVP, atV, atP, atO, wC, wOp, wCall, wCallN, wCB, aC, aN, wL, wTu, fL, wF, fCat, fList, wTB, wTru, wAnd, wOr, wNot, wAndV, wOrV, wNotV, wIf, wChain, wIsN, wNeg, dNeg, wSl, pN, pP, dSl, wLrev, dLrev, wIsi, wIsi2, iL, iT, iV, iS, iR1, iR2, gN, fLc, wYes, wiL,
  dAdd, dSub, dMul, dMulS, dMulL, dDiv, dMod, dLt, dLe, dGt, dGe, dEq, dNe, eqD, dIn, dNi, dIx, dTru, isNon, dLen, dInt, dAbs, dMax, dMin, dList, dTup, dStr, dIAdd, frzE, frz1, startD, List.map_cons, List.map_nil, List.length_cons, List.length_nil, List.replicate_succ, List.replicate_zero, List.cons_append, List.nil_append, List.append_nil, List.getElem?_cons_zero, List.getElem?_cons_succ, List.set_cons_zero, List.set_cons_succ, Nat.reduceSub, Nat.reduceAdd, if_true, if_false, ite_true, ite_false, reduceIte, Bool.false_eq_true, decide_true, decide_false, Bool.not_true, Bool.not_false, Bool.not_eq_true', decide_eq_true_eq, decide_eq_false_iff_not, isi_dic_bool, isi_dic_int, isi_dic_str, isi_dic_dict, Bool.true_eq_false, isi_int_int, isi_int_bool, isi_bl_int, isi_bl_bool, isi_non_int, isi_non_bool, isi_str_int, isi_str_bool, isi_str_str, isi_lst_list, isi_tup_tuple, Option.some.injEq, exists_eq_left', exists_eq_left, DV.int.injEq, DV.str.injEq, DV.bl.injEq, List.cons.injEq, and_true, true_and])
local macro_rules | `(tactic| walk_at "dl") => `(tactic| try walk_at "dl1")
local macro_rules | `(tactic| walk_at "go") => `(tactic| repeat' (first
  | (intro _)
  | walk_at "dl1"
  | (refine ⟨by first | decide | omega, ?_⟩)
  | split))
structure TreeOk (sh bs hs : List Str) : Prop where
  l : hs.length = bs.length
  t : ∀ (k : Nat) (h : Str), hs[k]? = some h → h ∈ sh ∨ h ∈ bs.take k
def tabD (bs hs : List Str) : DV := .dic (bs.map Sum.inr) (hs.map .str)
def w_tree : WS :=
  (wSeq (wAsg 3 (wCall s_take (aC (wV 0) (aC (wC (.int 4)) aN))))
    (wSeq (wAsgD 4)
    (wSeq (wFor (iR1 (aC (wCB dLen (aC (wVP 2) aN)) aN)) (gN 5) (wSeq (wAsg 6 (wOp dAdd (wCB dList (aC (wVP 1) aN)) (wSl (wVP 2) pN (pP (wVP 5)))))
    (wCut (wIfS (wTB (wOp dEq (wVP 3) (wC (.int 0)))) (wAsg 6 (wCB dList (aC (wVP 1) aN))) wNx)
    (wCut (wIfS (wTB (wOp dEq (wVP 3) (wC (.int 1)))) (wAsg 6 (wOp dAdd (wCB dList (aC (wVP 1) aN)) (wSl (wVP 2) pN (pP (wCB dMin (aC (wVP 5) (aC (wC (.int 2)) aN))))))) wNx)
    (wSeq (wAsg 7 (wCall s_pick (aC (wV 0) (aC (wV 6) aN))))
    (wCut (wIfS (wAnd (wTB (wOp dEq (wVP 3) (wC (.int 2)))) (wAnd (wTB (wOp dGt (wVP 5) (wC (.int 0)))) (wTB (wOp dGt (wCall s_take (aC (wV 0) (aC (wC (.int 4)) aN))) (wC (.int 0)))))) (wAsg 7 (wOp dIx (wVP 2) (wOp dSub (wVP 5) (wC (.int 1))))) wNx)
    (wPutD 4 (wOp dIx (wVP 2) (wVP 5)) (wV 7))))))))
    (wRet (wV 4)))))
def s_tree : DS1 := fun ds R => ∃ sh bs : List Str, ds = [.sto, .lst (sh.map .str), .lst (bs.map .str)] ∧ (sh ≠ [] ∧ bs.Nodup ∧ sh.length ≤ 1000 ∧ bs.length ≤ 1000) ∧ ∀ hs, TreeOk sh bs hs → R (tabD bs hs)
theorem l_tree : ∀ ds R, s_tree ds R → ds.length = 3 := by
  rintro ds R ⟨_, _, rfl, _⟩
  rfl
theorem o_tree : Owes 8 (s_tree) (w_tree) := by
  rintro ds R ⟨sh, bs, rfl, ⟨h0, nd, l1, l2⟩, h⟩
  have sp : 0 < sh.length := List.length_pos_iff.mpr h0
  unfold w_tree
  walk_at "dl"
  simp only [s_take]
  refine ⟨by decide, fun m m0 m1 => ?_⟩
  rw [List.length_map]
  refine ⟨by omega, by omega, ?_⟩
  refine forL_ind (fun i ρ => ∃ (hs : List Str) (v w z : Sl), ρ = [.dt .sto, .dt (.lst (sh.map .str)), .dt (.lst (bs.map .str)), .dt (.int m), .od ((bs.take i).map Sum.inr) (hs.map .str), v, w, z] ∧ hs.length = (bs.take i).length ∧ ∀ (k : Nat) (h : Str), hs[k]? = some h → h ∈ sh ∨ h ∈ bs.take k) ⟨[], _, _, _, rfl, rfl, fun k h z => by cases z⟩ ?_ ?_
  · rintro i x ρ K hx ⟨hs, v, w, z, rfl, lh, th⟩ hK
    obtain ⟨rfl, hi⟩ := intL_at hx
    rw [Int.zero_add]
    have hi : i < bs.length := by omega
    walk_at "dl"
    rw [cutG_to, ← List.map_take, ← List.map_append]
    have good : ∀ zs : List Str, zs = sh ++ bs.take i ∨ zs = sh ∨ zs = sh ++ bs.take (min i 2) → zs ≠ [] ∧ zs.length ≤ 2000 ∧ ∀ z ∈ zs, z ∈ sh ∨ z ∈ bs.take i := fun zs hz => by
      rcases hz with rfl | rfl | rfl
      · refine ⟨fun e => h0 (List.append_eq_nil_iff.mp e).1, ?_, fun z hz => List.mem_append.mp hz⟩
        rw [List.length_append, List.length_take]; omega
      · exact ⟨h0, by omega, fun z hz => .inl hz⟩
      · refine ⟨fun e => h0 (List.append_eq_nil_iff.mp e).1, ?_, fun z hz => (List.mem_append.mp hz).imp_right fun z => ?_⟩
        · rw [List.length_append, List.length_take]; omega
        · exact (List.take_sublist_take_left (by omega)).mem z
    have gl : ∀ zs : List Str, zs ≠ [] → 0 < (zs.map DV.str).length := fun zs hz => by
      rw [List.length_map]; exact List.length_pos_iff.mpr hz
    let e6 : List Str → Sl → Env := fun zs z => [.dt .sto, .dt (.lst (sh.map .str)), .dt (.lst (bs.map .str)), .dt (.int m), .od ((bs.take i).map Sum.inr) (hs.map .str), .dt (.int (i : Nat)), .dt (.lst (zs.map .str)), z]
    let M1 : Env → Prop := fun ρ => ∃ (zs : List Str) (z : Sl), (zs ≠ [] ∧ zs.length ≤ 2000 ∧ ∀ z ∈ zs, z ∈ sh ∨ z ∈ bs.take i) ∧ ρ = e6 zs z
    have eb : bs[i]? = some bs[i] := List.getElem?_eq_getElem hi
    have fin : ∀ (t : Str) (v : Sl), (t ∈ sh ∨ t ∈ bs.take i) → wPutD 4 (wOp dIx (wVP 2) (wVP 5)) (wV 7) { nx := K, rt := R, bk := fun ρ' => match (List.map frz1 ρ')[4]? with | some (Sl.dt d) => R d | x => False, ct := K } [.dt .sto, .dt (.lst (sh.map .str)), .dt (.lst (bs.map .str)), .dt (.int m), .od ((bs.take i).map Sum.inr) (hs.map .str), .dt (.int (i : Nat)), v, .dt (.str t)] := fun t v ht => by
      walk_at "dl"
      refine ⟨_, atS_map eb, ?_⟩
      have nb : bs[i] ∉ bs.take i := fun z => by
        obtain ⟨j, hj, e⟩ := List.mem_iff_getElem.mp z
        rw [List.length_take] at hj
        rw [List.getElem_take] at e
        exact List.pairwise_iff_getElem.mp nd j i (by omega) hi (by omega) e
      have tk : bs.take i ++ [bs[i]] = bs.take (i + 1) := (List.take_append_getElem hi)
      dsimp only
      refine ⟨by rw [List.length_map, List.length_take]; omega, ?_⟩
      rw [(put_new (xs := hs.map .str) (v := .str t) nb).1, (put_new (xs := hs.map .str) (v := .str t) nb).2, tk]
      refine hK _ ⟨hs ++ [t], _, _, _, by rw [List.map_append]; rfl, by rw [List.length_append, lh, List.length_take, List.length_take, List.length_singleton]; omega, fun k h z => ?_⟩
      by_cases hk : k < hs.length
      · rw [List.getElem?_append_left hk] at z
        exact th k h z
      · rw [List.getElem?_append_right (by omega)] at z
        have : k - hs.length = 0 := by
          by_cases q : k - hs.length = 0
          · exact q
          · rw [List.getElem?_eq_none (by rw [List.length_singleton]; omega)] at z; cases z
        rw [this] at z
        cases z
        rw [List.length_take] at lh
        have : k = i := by omega
        rw [this]; exact ht
    refine ⟨by rw [List.length_map, List.length_map, List.length_take]; omega, M1, ?_, ?_⟩
    · walk_at "dl"
      split
      · exact ⟨sh, _, good _ (.inr (.inl rfl)), rfl⟩
      · exact ⟨_, _, good _ (.inl rfl), rfl⟩
    rintro ρ ⟨zs, z, gz, rfl⟩
    refine ⟨M1, ?_, ?_⟩
    · dsimp only [e6]
      walk_at "dl"
      split
      · rw [show (if (2 : Int) < i then (2 : Int) else i) = (((min i 2 : Nat)) : Int) by split <;> omega, cutG_to, ← List.map_take, ← List.map_append]
        refine ⟨by rw [List.length_map, List.length_map, List.length_take]; omega, ?_⟩
        exact ⟨_, _, good _ (.inr (.inr rfl)), rfl⟩
      · exact ⟨_, _, gz, rfl⟩
    rintro ρ ⟨zs, z, ⟨g1, g2, g3⟩, rfl⟩
    dsimp only [e6]
    walk_at "dl"
    simp only [s_pick]
    refine ⟨gl zs g1, by rw [List.length_map]; omega, fun x hx => ?_⟩
    obtain ⟨t, ht, rfl⟩ := List.mem_map.mp hx
    have ht := g3 t ht
    let M2 : Env → Prop := fun ρ => ∃ (t : Str) (v : Sl), (t ∈ sh ∨ t ∈ bs.take i) ∧ ρ = [.dt .sto, .dt (.lst (sh.map .str)), .dt (.lst (bs.map .str)), .dt (.int m), .od ((bs.take i).map Sum.inr) (hs.map .str), .dt (.int (i : Nat)), v, .dt (.str t)]
    refine ⟨M2, ?_, ?_⟩
    · walk_at "dl"
      simp only [s_take]
      have no : M2 [Sl.dt .sto, .dt (.lst (sh.map .str)), .dt (.lst (bs.map .str)), .dt (.int m), .od ((bs.take i).map Sum.inr) (hs.map .str), .dt (.int (i : Nat)), .dt (.lst (zs.map .str)), .dt (.str t)] := ⟨t, _, ht, rfl⟩
      split
      · split
        · refine ⟨by decide, fun r r0 r1 => ?_⟩
          split
          · rename_i hpos _
            have e1 : bs[i - 1]? = some (bs[i - 1]'(by omega)) := List.getElem?_eq_getElem (by omega)
            refine ⟨_, by rw [show (i : Int) - 1 = ((i - 1 : Nat) : Int) by omega]; exact atS_map e1, _, _, .inr ?_, rfl⟩
            refine List.mem_of_getElem? (i := i - 1) ?_
            rw [List.getElem?_take_of_lt (by omega)]
            exact e1
          · exact no
        · exact no
      · exact no
    rintro ρ ⟨t, v, ht, rfl⟩
    exact fin t v ht
  · rintro ρ ⟨hs, v, w, z, rfl, lh, th⟩
    rw [intL_len, Int.toNat_natCast, List.take_length] at lh ⊢
    walk_at "dl"
    exact h hs ⟨lh, th⟩
end DL
namespace DL
open PySem PySem.Spec PyProof.Rows L2 NW
local macro_rules | `(tactic| walk_at "dl1") => `(tactic| simp only [wAugD, fLcO, wNotN, iEnV, wRaiseN, fKeys, fKeysO, fSrtS, wIxD, wIxO, wSlA, wInDN, wLenDD, fDc, wFD, sIx, sNo, wIsH, wHF, wMkK, wAsgMK, asDI, dAddT, gP, wAsgFD, fCallD, fMethD, fDict, wCM, asD1, wDropCM, wAsgCM, wItemsO, fSortP, wForK, fLcK, sFd, sV, wExt, dAddT, dBinI, dBinX, wAsgB, fSortI, fSl, wAsgD, wPutD, atD, atDR, asK, wInOD, wLenOD, fCallN, wCallB, wCallK, wCallD, wDropK, frzE, frz1, wFld, wProp, wMeth, wMeth0, wLenI, dInI, dEqI, tyOk, iOwnD, iVk, wIsC, isC, wSelf, wSelfD, atS, wGet, asD, wGetO, wInDD, wDict, wTrev, dTrev, wMkI, wMkI0, wDropI, wAsgIO, frzL1, wSetO, dSumA, dEqT, dIntL, wCallF, flatR, wRaise1, fSrt, wItems, wTry, wAsgX, wDropX, wKd, wXf, wSeq, wAsg, wAsgO, wRet, wIfS, wNx, wPass, wBk, wCt, wDrop, wAug, wApp, wAppPop, wPop, wFor, wFz, wV, wVP, atV, atP, atO, wC, wOp, wCall, wCallN, wCB, aC, aN, wL, wTu, fL, wF, fCat, fList, wTB, wTru, wAnd, wOr, wNot, wAndV, wOrV, wNotV, wIf, wChain, wIsN, wNeg, dNeg, wSl, pN, pP, dSl, wLrev, dLrev, wIsi, wIsi2, iL, iT, iV, iS, iR1, iR2, gN, fLc, wYes, wiL,
  dAdd, dSub, dMul, dMulS, dMulL, dDiv, dMod, dLt, dLe, dGt, dGe, dEq, dNe, eqD, dIn, dNi, dIx, dTru, isNon, dLen, dInt, dAbs, dMax, dMin, dList, dTup, dStr, dIAdd, frzE, frz1, startD, List.map_cons, List.map_nil, List.length_cons, List.length_nil, List.replicate_succ, List.replicate_zero, List.cons_append, List.nil_append, List.append_nil, List.getElem?_cons_zero, List.getElem?_cons_succ, List.set_cons_zero, List.set_cons_succ, Nat.reduceSub, Nat.reduceAdd, if_true, if_false, ite_true, ite_false, reduceIte, Bool.false_eq_true, decide_true, decide_false, Bool.not_true, Bool.not_false, Bool.not_eq_true', decide_eq_true_eq, decide_eq_false_iff_not, isi_dic_bool, isi_dic_int, isi_dic_str, isi_dic_dict, Bool.true_eq_false, isi_int_int, isi_int_bool, isi_bl_int, isi_bl_bool, isi_non_int, isi_non_bool, isi_str_int, isi_str_bool, isi_str_str, isi_lst_list, isi_tup_tuple, Option.some.injEq, exists_eq_left', exists_eq_left, DV.int.injEq, DV.str.injEq, DV.bl.injEq, List.cons.injEq, and_true, true_and])
local macro_rules | `(tactic| walk_at "dl") => `(tactic| try walk_at "dl1")
local macro_rules | `(tactic| walk_at "go") => `(tactic| repeat' (first
  | (intro _)
  | walk_at "dl1"
  | (refine ⟨by first | decide | omega, ?_⟩)
  | split))
theorem lkK_of {ks : List Key} {xs : List DV} {k : Key} (l : ks.length = xs.length) (h : k ∈ ks) : ∃ x, lkK ks xs k = some x ∧ x ∈ xs := by
  induction ks generalizing xs with
  | nil => cases h
  | cons a ks ih =>
    cases xs with
    | nil => cases l
    | cons x xs =>
      unfold lkK
      by_cases e : a = k
      · rw [if_pos e]; exact ⟨x, rfl, List.mem_cons_self⟩
      · rw [if_neg e]
        obtain ⟨y, hy, hm⟩ := ih (Nat.succ.inj l) ((List.mem_cons.mp h).resolve_left fun z => e z.symm)
        exact ⟨y, hy, List.mem_cons_of_mem _ hm⟩
theorem put_ints {bs : List Str} {ns : List Int} {b : Str} {n : Int} (l : bs.length = ns.length) (h : b ∈ bs) : ∃ ns' : List Int, putKs (bs.map Sum.inr) (.inr b) = bs.map Sum.inr ∧ putXs (bs.map Sum.inr) (ns.map .int) (.inr b) (.int n) = ns'.map .int ∧ bs.length = ns'.length := by
  refine ⟨List.zipWith (fun b' n' => if b' = b then n else n') bs ns, ?_, ?_, ?_⟩
  · rw [putKs_ite, if_pos h]
  · unfold putXs
    rw [has_str, if_pos (decide_eq_true h), List.zipWith_map, List.map_zipWith]
    congr 1
    funext b' n'
    by_cases e : b' = b
    · rw [if_pos e, if_pos (by rw [e])]
    · rw [if_neg e, if_neg fun z => e (Sum.inr.inj z)]
  · rw [List.length_zipWith]; omega
theorem lk_int {bs : List Str} {ns : List Int} {b : Str} (l : bs.length = ns.length) (h : b ∈ bs) : ∃ n : Int, lkK (bs.map Sum.inr) (ns.map .int) (.inr b) = some (.int n) := by
  obtain ⟨x, e, hx⟩ := lkK_of (ks := bs.map Sum.inr) (xs := ns.map DV.int) (k := .inr b) (by rw [List.length_map, List.length_map, l]) (List.mem_map.mpr ⟨b, h, rfl⟩)
  obtain ⟨n, _, rfl⟩ := List.mem_map.mp hx
  exact ⟨n, e⟩
def w_weights : WS :=
  (wSeq (wAsg 4 (wCall s_take (aC (wV 0) (aC (wC (.int 5)) aN))))
    (wSeq (wAsgD 5)
    (wSeq (wFor (iL (wV 1)) (gN 6) (wPutD 5 (wV 6) (wC (.int 0))))
    (wSeq (wAsgO 7 (fL aN))
    (wSeq (wAsgD 8)
    (wSeq (wFor (iR1 (aC (wCB dLen (aC (wVP 1) aN)) aN)) (gN 9) (wSeq (wAsg 6 (wOp dIx (wVP 1) (wOp dSub (wOp dSub (wCB dLen (aC (wVP 1) aN)) (wC (.int 1))) (wVP 9))))
    (wSeq (wAsg 10 (wF (fLcO 7 (gN 11) (wTB (wChain dLe dLe (wC (.int 1)) (wOp dSub (wVP 11) (wIxO 5 (wV 6))) (wVP 3))) (wOp dSub (wVP 11) (wIxO 5 (wV 6))) [11])))
    (wSeq (wAsg 12 (wOp dAdd (wC (.int 1)) (wCall s_take (aC (wV 0) (aC (wCB dMin (aC (wVP 3) (aC (wC (.int 3)) aN))) aN)))))
    (wCut (wIfS (wTB (wOp dEq (wVP 4) (wC (.int 0)))) (wAsg 12 (wCall s_number (aC (wV 0) (aC (wC (.int 1)) (aC (wV 3) aN))))) wNx)
    (wCut (wIfS (wAnd (wTru (wVP 10)) (wTB (wOp dGt (wCall s_take (aC (wV 0) (aC (wC (.int 4)) aN))) (wC (.int 0))))) (wAsg 12 (wCall s_pick (aC (wV 0) (aC (wV 10) aN)))) wNx)
    (wSeq (wPutD 8 (wV 6) (wV 12))
    (wSeq (wApp 7 (wOp dAdd (wIxO 5 (wV 6)) (wVP 12)))
    (wIfS (wTB (wInOD false (wIxD (wV 2) (wV 6)) 5)) (wAugD 5 dIAdd (wIxD (wV 2) (wV 6)) (wOp dAdd (wIxO 5 (wV 6)) (wVP 12))) wNx)))))))))
    (wRet (wV 8))))))))
def s_weights : DS1 := fun ds R => ∃ (bs ks hs : List Str) (most : Int), ds = [.sto, .lst (bs.map .str), tabD ks hs, .int most] ∧ (bs ≠ [] ∧ bs.Nodup ∧ bs.length ≤ 1000 ∧ ks.length = hs.length ∧ ∀ b ∈ bs, b ∈ ks) ∧ (1 ≤ most ∧ most ≤ 1000000000000) ∧ ∀ ws : List Int, ws.length = bs.length → (∀ w ∈ ws, 1 ≤ w ∧ w ≤ most) → R (.dic (bs.reverse.map Sum.inr) (ws.map .int))
theorem l_weights : ∀ ds R, s_weights ds R → ds.length = 4 := by
  rintro ds R ⟨_, _, _, _, rfl, _⟩
  rfl
theorem o_weights : Owes 13 (s_weights) (w_weights) := by
  rintro ds R ⟨bs, ks, hs, most, rfl, ⟨b0, nd, l1, lk, sub⟩, ⟨m1, m2⟩, h⟩
  unfold w_weights
  walk_at "dl"
  simp only [s_take]
  refine ⟨by decide, fun m _ _ => ?_⟩
  refine ⟨_, rfl, ?_⟩
  refine forL_ind (fun i ρ => ∃ (v : Sl), ρ = [.dt .sto, .dt (.lst (bs.map .str)), .dt (tabD ks hs), .dt (.int most), .dt (.int m), .od ((bs.take i).map Sum.inr) ((List.replicate i (0 : Int)).map .int), v, .un, .un, .un, .un, .un, .un]) ⟨_, rfl⟩ ?_ ?_
  · rintro i x ρ K hx ⟨v, rfl⟩ hK
    rw [List.getElem?_map] at hx
    cases eb : bs[i]? with
    | none => rw [eb] at hx; cases hx
    | some b =>
      rw [eb] at hx
      obtain rfl := (Option.some.inj hx).symm
      obtain ⟨hi, eb2⟩ := List.getElem?_eq_some_iff.mp eb
      walk_at "dl"
      have nb : b ∉ bs.take i := fun z => by
        obtain ⟨j, hj, e⟩ := List.mem_iff_getElem.mp z
        rw [List.length_take] at hj
        rw [List.getElem_take] at e
        exact List.pairwise_iff_getElem.mp nd j i (by omega) hi (by omega) (e.trans eb2.symm)
      refine ⟨by rw [List.length_map, List.length_take]; omega, ?_⟩
      rw [(put_new (xs := (List.replicate i (0 : Int)).map .int) (v := .int 0) nb).1, (put_new (xs := (List.replicate i (0 : Int)).map .int) (v := .int 0) nb).2]
      refine hK _ ⟨.dt (.str b), ?_⟩
      rw [← eb2, List.take_append_getElem hi, List.replicate_succ', List.map_append]; rfl
  rintro ρ ⟨v, rfl⟩
  rw [List.length_map, List.take_length]
  refine ⟨by decide, ?_⟩
  walk_at "dl"
  rw [List.length_map]
  refine ⟨by omega, by omega, ?_⟩
  refine forL_ind (fun i ρ => ∃ (ns fs ws : List Int) (v6 v9 v10 v11 v12 : Sl), ρ = [.dt .sto, .dt (.lst (bs.map .str)), .dt (tabD ks hs), .dt (.int most), .dt (.int m), .od (bs.map Sum.inr) (ns.map .int), v6, .ow (fs.map .int), .od ((bs.reverse.take i).map Sum.inr) (ws.map .int), v9, v10, v11, v12] ∧ bs.length = ns.length ∧ ws.length = i ∧ fs.length = i ∧ ∀ w ∈ ws, 1 ≤ w ∧ w ≤ most) ⟨_, [], [], _, _, _, _, _, rfl, by rw [List.length_replicate], rfl, rfl, fun w z => nomatch z⟩ ?_ ?_
  · rintro i x ρ K hx ⟨ns, fs, ws, v6, v9, v10, v11, v12, rfl, ln, lw, lf, hw⟩ hK
    obtain ⟨rfl, hi⟩ := intL_at hx
    rw [Int.zero_add]
    have hi : i < bs.length := by omega
    obtain ⟨b, eb⟩ : ∃ b, bs[bs.length - 1 - i]? = some b := ⟨_, List.getElem?_eq_getElem (by omega)⟩
    have hb : b ∈ bs := List.mem_of_getElem? eb
    walk_at "dl"
    rw [List.length_map]
    obtain ⟨n0, en⟩ := lk_int ln hb
    refine ⟨_, by rw [show (bs.length : Int) - 1 - i = ((bs.length - 1 - i : Nat) : Int) by omega]; exact atS_map eb, by rw [List.length_map]; omega, ?_⟩
    refine lcL_ind (fun i acc => ∃ ls : List Int, acc = ls.map .int ∧ ls.length ≤ i ∧ ∀ l ∈ ls, 1 ≤ l ∧ l ≤ most) ⟨[], rfl, Nat.le_refl _, fun l z => nomatch z⟩ ?_ ?_
    · rintro j x acc K2 hx2 ⟨ls, rfl, ll, hls⟩ hK2
      rw [List.getElem?_map] at hx2
      cases ef : fs[j]? with
      | none => rw [ef] at hx2; cases hx2
      | some f =>
        rw [ef] at hx2
        obtain rfl := (Option.some.inj hx2).symm
        walk_at "dl"
        refine ⟨_, en, ?_⟩
        walk_at "dl"
        split
        · split
          · refine ⟨_, en, ?_⟩
            dsimp only
            refine hK2 _ ⟨ls ++ [f - n0], by rw [List.map_append]; rfl, by rw [List.length_append, List.length_singleton]; omega, fun l hl => ?_⟩
            rcases List.mem_append.mp hl with hl | hl
            · exact hls l hl
            · rw [List.mem_singleton.mp hl]; omega
          · exact hK2 _ ⟨ls, rfl, by omega, hls⟩
        · exact hK2 _ ⟨ls, rfl, by omega, hls⟩
    rintro acc ⟨ls, rfl, ll, hls⟩
    rw [List.length_map] at ll
    simp only [s_take]
    refine ⟨by split <;> omega, fun r r0 r1 => ?_⟩
    let E10 : Sl → Int → Env := fun v w => [.dt .sto, .dt (.lst (bs.map .str)), .dt (tabD ks hs), .dt (.int most), .dt (.int m), .od (bs.map Sum.inr) (ns.map .int), .dt (.str b), .ow (fs.map .int), .od ((bs.reverse.take i).map Sum.inr) (ws.map .int), .dt (.int (i : Nat)), .dt (.lst (ls.map .int)), v, .dt (.int w)]
    let M1 : Env → Prop := fun ρ => ∃ v w, (1 ≤ w ∧ w ≤ most) ∧ ρ = E10 v w
    have r2 : 1 ≤ 1 + r ∧ 1 + r ≤ most := by
      split at r1 <;> omega
    refine ⟨M1, ?_, ?_⟩
    · walk_at "dl"
      simp only [s_number]
      split
      · refine ⟨by omega, fun q q0 q1 => ⟨_, q, by omega, rfl⟩⟩
      · exact ⟨_, _, r2, rfl⟩
    rintro ρ ⟨v11, w, w1, rfl⟩
    refine ⟨M1, ?_, ?_⟩
    · dsimp only [E10]
      walk_at "dl"
      simp only [s_take, s_pick]
      split
      · rename_i he
        refine ⟨by decide, fun q q0 q1 => ?_⟩
        split
        · refine ⟨?_, by rw [List.length_map]; omega, fun x hx => ?_⟩
          · rw [List.length_map]
            cases ls with
            | nil => cases he
            | cons => exact Nat.succ_pos _
          · obtain ⟨l, hl, rfl⟩ := List.mem_map.mp hx
            exact ⟨_, l, hls l hl, rfl⟩
        · exact ⟨_, w, w1, rfl⟩
      · exact ⟨_, w, w1, rfl⟩
    rintro ρ ⟨v11, w, w1, rfl⟩
    dsimp only [E10]
    walk_at "dl"
    have er : bs.reverse[i]? = some b := by
      rw [List.getElem?_reverse hi]; exact eb
    obtain ⟨hi2, er2⟩ := List.getElem?_eq_some_iff.mp er
    have nr : bs.reverse.Nodup := (List.reverse_perm bs).nodup_iff.mpr nd
    have nb : b ∉ bs.reverse.take i := fun z => by
      obtain ⟨j, hj, e⟩ := List.mem_iff_getElem.mp z
      rw [List.length_take] at hj
      rw [List.getElem_take] at e
      exact List.pairwise_iff_getElem.mp nr j i (by omega) hi2 (by omega) (e.trans er2.symm)
    have tk : bs.reverse.take i ++ [b] = bs.reverse.take (i + 1) := by rw [← er2]; exact List.take_append_getElem hi2
    obtain ⟨t, et, ht⟩ := lkK_of (ks := ks.map Sum.inr) (xs := hs.map DV.str) (k := .inr b) (by rw [List.length_map, List.length_map, lk]) (List.mem_map.mpr ⟨b, sub b hb, rfl⟩)
    obtain ⟨t, _, rfl⟩ := List.mem_map.mp ht
    refine ⟨by rw [List.length_map, List.length_take]; omega, _, en, ?_⟩
    refine ⟨by rw [List.length_map]; omega, _, _, rfl, _, et, ?_⟩
    dsimp only
    rw [(put_new (xs := ws.map .int) (v := .int w) nb).1, (put_new (xs := ws.map .int) (v := .int w) nb).2, tk]
    have nx : ∀ (ns' : List Int) (v : Sl), bs.length = ns'.length → K [.dt .sto, .dt (.lst (bs.map .str)), .dt (tabD ks hs), .dt (.int most), .dt (.int m), .od (bs.map Sum.inr) (ns'.map .int), .dt (.str b), .ow (fs.map .int ++ [.int (n0 + w)]), .od ((bs.reverse.take (i + 1)).map Sum.inr) (ws.map .int ++ [.int w]), .dt (.int (i : Nat)), .dt (.lst (ls.map .int)), v, .dt (.int w)] := fun ns' v l => by
      refine hK _ ⟨ns', fs ++ [n0 + w], ws ++ [w], _, _, _, _, _, by rw [List.map_append, List.map_append]; rfl, l, by rw [List.length_append, List.length_singleton, lw], by rw [List.length_append, List.length_singleton, lf], fun x hx => ?_⟩
      rcases List.mem_append.mp hx with hx | hx
      · exact hw x hx
      · rw [List.mem_singleton.mp hx]; exact w1
    rw [has_str]
    by_cases ti : t ∈ bs
    · rw [if_pos (decide_eq_true ti)]
      obtain ⟨n1, e1⟩ := lk_int ln ti
      obtain ⟨ns', p1, p2, p3⟩ := put_ints (n := n1 + (n0 + w)) ln ti
      refine ⟨_, _, rfl, _, et, _, e1, _, en, by rw [List.length_map]; omega, ?_⟩
      rw [p1, p2]
      exact nx ns' _ p3
    · rw [if_neg (by rw [decide_eq_false ti]; decide)]
      exact nx ns _ ln
  · rintro ρ ⟨ns, fs, ws, v6, v9, v10, v11, v12, rfl, ln, lw, lf, hw⟩
    rw [intL_len] at lw ⊢
    rw [Int.toNat_natCast] at lw ⊢
    rw [List.take_of_length_le (by rw [List.length_reverse]; exact Nat.le_refl _)]
    walk_at "dl"
    exact h ws lw hw
end DL
namespace DL
open PySem PySem.Spec PyProof.Rows L2 NW
local macro_rules | `(tactic| walk_at "dl1") => `(tactic| simp only [wAugD, fLcO, wNotN, iEnV, wRaiseN, fKeys, fKeysO, fSrtS, wIxD, wIxO, wSlA, wInDN, wLenDD, fDc, wFD, sIx, sNo, wIsH, wHF, wMkK, wAsgMK, asDI, dAddT, gP, wAsgFD, fCallD, fMethD, fDict, wCM, asD1, wDropCM, wAsgCM, wItemsO, fSortP, wForK, fLcK, sFd, sV, wExt, dAddT, dBinI, dBinX, wAsgB, fSortI, fSl, wAsgD, wPutD, atD, atDR, asK, wInOD, wLenOD, fCallN, wCallB, wCallK, wCallD, wDropK, frzE, frz1, wFld, wProp, wMeth, wMeth0, wLenI, dInI, dEqI, tyOk, iOwnD, iVk, wIsC, isC, wSelf, wSelfD, atS, wGet, asD, wGetO, wInDD, wDict, wTrev, dTrev, wMkI, wMkI0, wDropI, wAsgIO, frzL1, wSetO, dSumA, dEqT, dIntL, wCallF, flatR, wRaise1, fSrt, wItems, wTry, wAsgX, wDropX, wKd, wXf, wSeq, wAsg, wAsgO, wRet, wIfS, wNx, wPass, wBk, wCt, wDrop, wAug, wApp, wAppPop, wPop, wFor, wFz, wV, wVP, atV, atP, atO, wC, wOp, wCall, wCallN, wCB, aC, aN, wL, wTu, fL, wF, fCat, fList, wTB, wTru, wAnd, wOr, wNot, wAndV, wOrV, wNotV, wIf, wChain, wIsN, wNeg, dNeg, wSl, pN, pP, dSl, wLrev, dLrev, wIsi, wIsi2, iL, iT, iV, iS, iR1, iR2, gN, fLc, wYes, wiL,
  dAdd, dSub, dMul, dMulS, dMulL, dDiv, dMod, dLt, dLe, dGt, dGe, dEq, dNe, eqD, dIn, dNi, dIx, dTru, isNon, dLen, dInt, dAbs, dMax, dMin, dList, dTup, dStr, dIAdd, frzE, frz1, startD, List.map_cons, List.map_nil, List.length_cons, List.length_nil, List.replicate_succ, List.replicate_zero, List.cons_append, List.nil_append, List.append_nil, List.getElem?_cons_zero, List.getElem?_cons_succ, List.set_cons_zero, List.set_cons_succ, Nat.reduceSub, Nat.reduceAdd, if_true, if_false, ite_true, ite_false, reduceIte, Bool.false_eq_true, decide_true, decide_false, Bool.not_true, Bool.not_false, Bool.not_eq_true', decide_eq_true_eq, decide_eq_false_iff_not, isi_dic_bool, isi_dic_int, isi_dic_str, isi_dic_dict, Bool.true_eq_false, isi_int_int, isi_int_bool, isi_bl_int, isi_bl_bool, isi_non_int, isi_non_bool, isi_str_int, isi_str_bool, isi_str_str, isi_lst_list, isi_tup_tuple, Option.some.injEq, exists_eq_left', exists_eq_left, DV.int.injEq, DV.str.injEq, DV.bl.injEq, List.cons.injEq, and_true, true_and])
local macro_rules | `(tactic| walk_at "dl") => `(tactic| try walk_at "dl1")
local macro_rules | `(tactic| walk_at "go") => `(tactic| repeat' (first
  | (intro _)
  | walk_at "dl1"
  | (refine ⟨by first | decide | omega, ?_⟩)
  | split))
def getS : DV → Str
  | .str s => s
  | _ => default
theorem strs_perm8 {ys : List DV} {ss : List Str} (p : ys.Perm (ss.map DV.str)) : ∃ ts : List Str, ys = ts.map DV.str ∧ ts.Perm ss := by
  refine ⟨ys.map getS, ?_, by have q := p.map getS; rw [List.map_map] at q; rwa [show (getS ∘ DV.str) = id from rfl, List.map_id] at q⟩
  have h : ∀ y ∈ ys, ∃ n, y = DV.str n := fun y hy => by
    obtain ⟨n, _, e⟩ := List.mem_map.mp (p.mem_iff.mp hy)
    exact ⟨n, e.symm⟩
  clear p
  induction ys with
  | nil => rfl
  | cons y ys ih =>
    obtain ⟨n, rfl⟩ := h y List.mem_cons_self
    exact congrArg (DV.str n :: ·) (ih fun z hz => h z (List.mem_cons_of_mem _ hz))
def planD (sh bs : List Str) (ws : List Int) (na se hs : List Str) : DV := .lst [.lst (sh.map .str), .dic (bs.reverse.map Sum.inr) (ws.map .int), .lst (na.map .str), .lst (se.map .str), tabD bs hs]
structure MarksOk (heavy : Int) (sh bs : List Str) (ws : List Int) (na se hs : List Str) : Prop where
  wl : ws.length = bs.length
  w : ∀ w ∈ ws, 1 ≤ w ∧ w ≤ heavy
  na : na.Sublist bs
  se : ∃ zs : List Str, zs.Perm (sh ++ bs) ∧ se.Sublist zs
  t : TreeOk sh bs hs
structure PlanOk (most : Int) (sh bs : List Str) (ws : List Int) (na se hs : List Str) : Prop where
  m : MarksOk 1000000000 sh bs ws na se hs
  nm : ∀ s ∈ sh ++ bs, nmB s = true
  nd : (sh ++ bs).Nodup
  s1 : 1 ≤ sh.length ∧ sh.length ≤ 4
  b1 : 1 ≤ bs.length ∧ (bs.length : Int) ≤ most
def w_plan_of : WS :=
  (wSeq (wAsg 5 (wCall s_tree (aC (wV 0) (aC (wV 1) (aC (wV 2) aN)))))
    (wSeq (wAsg 6 (wCall s_weights (aC (wV 0) (aC (wV 2) (aC (wV 5) (aC (wV 3) aN))))))
    (wSeq (wAsg 7 (wCall s_markedN (aC (wV 0) (aC (wV 2) aN))))
    (wSeq (wAsg 8 (wCall s_markedN (aC (wV 0) (aC (wCall s_shuffP (aC (wV 0) (aC (wOp dAdd (wCB dList (aC (wVP 1) aN)) (wVP 2)) aN))) aN))))
    (wCut (wIfS (wNot (wTru (wVP 4))) (wAsg 8 (wF (fLc (iL (wV 8)) (gN 9) (wTB (wOp dNi (wVP 9) (wVP 1))) (wV 9) [9]))) wNx)
    (wRet (wL (aC (wCB dList (aC (wVP 1) aN)) (aC (wV 6) (aC (wV 7) (aC (wV 8) (aC (wV 5) aN))))))))))))
def s_plan_of : DS1 := fun ds R => ∃ (sh bs : List Str) (heavy : Int) (b : Bool), ds = [.sto, .lst (sh.map .str), .lst (bs.map .str), .int heavy, .bl b] ∧ (sh ≠ [] ∧ bs ≠ [] ∧ (sh ++ bs).Nodup ∧ sh.length ≤ 400 ∧ bs.length ≤ 400) ∧ (1 ≤ heavy ∧ heavy ≤ 1000000000000) ∧ ∀ ws na se hs, MarksOk heavy sh bs ws na se hs → (b = false → ∀ s ∈ se, s ∉ sh) → R (planD sh bs ws na se hs)
theorem l_plan_of : ∀ ds R, s_plan_of ds R → ds.length = 5 := by
  rintro ds R ⟨_, _, _, _, rfl, _⟩
  rfl
theorem o_plan_of : Owes 10 (s_plan_of) (w_plan_of) := by
  rintro ds R ⟨sh, bs, heavy, b, rfl, ⟨h0, b0, nd, l1, l2⟩, ⟨m1, m2⟩, h⟩
  obtain ⟨nd1, nd2, _⟩ := List.nodup_append.mp nd
  unfold w_plan_of
  walk_at "dl"
  refine ⟨sh, bs, rfl, ⟨h0, nd2, by omega, by omega⟩, fun hs th => ?_⟩
  refine ⟨bs, bs, hs, heavy, rfl, ⟨b0, nd2, by omega, th.l.symm, fun _ z => z⟩, ⟨m1, m2⟩, fun ws wl wb => ?_⟩
  refine ⟨bs, rfl, b0, by omega, fun na hna => ?_⟩
  rw [← List.map_append]
  simp only [s_shuffP]
  refine ⟨by rw [List.length_map, List.length_map]; omega, by rw [List.length_map, List.length_append]; omega, fun ys py => ?_⟩
  obtain ⟨zs, rfl, pz⟩ := strs_perm8 py
  have lz := pz.length_eq
  rw [List.length_append] at lz
  have hl := List.length_pos_iff.mpr h0
  refine ⟨zs, rfl, fun e => by rw [e] at lz; simp only [List.length_nil] at lz; omega, by omega, fun se hse => ?_⟩
  have lse := hse.length_le
  let M1 : Env → Prop := fun ρ => ∃ (us : List Str) (v : Sl), us.Sublist zs ∧ (b = false → ∀ s ∈ us, s ∉ sh) ∧ ρ = [.dt .sto, .dt (.lst (sh.map .str)), .dt (.lst (bs.map .str)), .dt (.int heavy), .dt (.bl b), .dt (tabD bs hs), .dt (.dic (bs.reverse.map Sum.inr) (ws.map .int)), .dt (.lst (na.map .str)), .dt (.lst (us.map .str)), v]
  refine ⟨M1, ?_, ?_⟩
  · walk_at "dl"
    split
    · rename_i hb
      refine ⟨_, rfl, by rw [List.length_map]; omega, ?_⟩
      refine lcL_ind (fun i acc => ∃ us : List Str, acc = us.map .str ∧ us.Sublist (se.take i) ∧ ∀ s ∈ us, s ∉ sh) ⟨[], rfl, List.nil_sublist _, fun s z => nomatch z⟩ ?_ ?_
      · rintro i x acc K hx ⟨us, rfl, hu, hn⟩ hK
        rw [List.getElem?_map] at hx
        cases es : se[i]? with
        | none => rw [es] at hx; cases hx
        | some s =>
          rw [es] at hx
          obtain rfl := (Option.some.inj hx).symm
          obtain ⟨hi, es2⟩ := List.getElem?_eq_some_iff.mp es
          have tk : se.take i ++ [s] = se.take (i + 1) := by rw [← es2]; exact List.take_append_getElem hi
          walk_at "dl"
          refine ⟨sh, rfl, ?_⟩
          dsimp only
          by_cases hm : s ∈ sh
          · rw [if_neg (by rw [decide_eq_true hm]; decide)]
            exact hK _ ⟨us, rfl, hu.trans (List.take_sublist_take_left (Nat.le_succ i)), hn⟩
          · rw [if_pos (decide_eq_false hm)]
            refine hK _ ⟨us ++ [s], by rw [List.map_append]; rfl, by rw [← tk]; exact hu.append (List.Sublist.refl _), fun x hx => ?_⟩
            rcases List.mem_append.mp hx with hx | hx
            · exact hn x hx
            · rw [List.mem_singleton.mp hx]; exact hm
      rintro acc ⟨us, rfl, hu, hn⟩
      rw [List.length_map, List.take_length] at hu
      exact ⟨us, _, hu.trans hse, fun _ => hn, rfl⟩
    · rename_i hb
      exact ⟨se, _, hse, fun z => absurd z hb, rfl⟩
  rintro ρ ⟨us, v, hu, hn, rfl⟩
  walk_at "dl"
  exact ⟨by decide, h ws na us hs ⟨wl, wb, hna, ⟨zs, pz, hu⟩, th⟩ hn⟩
def w_plan : WS :=
  (wSeq (wAsg 2 (wCall s_take (aC (wV 0) (aC (wC (.int 8)) aN))))
    (wSeq (wAsg 3 (wCB dMin (aC (wVP 1) (aC (wOp dAdd (wC (.int 3)) (wCall s_take (aC (wV 0) (aC (wC (.int 4)) aN)))) aN))))
    (wSeq (wAsg 4 (wOp dAdd (wC (.int 1)) (wCall s_take (aC (wV 0) (aC (wC (.int 3)) aN)))))
    (wCut (wIfS (wTB (wOp dEq (wVP 2) (wC (.int 0)))) (wAsg 3 (wV 1)) wNx)
    (wCut (wIfS (wTB (wOp dEq (wVP 2) (wC (.int 1)))) (wAsg 3 (wOp dAdd (wC (.int 1)) (wCall s_take (aC (wV 0) (aC (wV 1) aN))))) wNx)
    (wCut (wIfS (wTB (wOp dLt (wVP 2) (wC (.int 2)))) (wAsg 4 (wOp dAdd (wC (.int 1)) (wCall s_take (aC (wV 0) (aC (wC (.int 4)) aN))))) wNx)
    (wSeq (wAsg 5 (wCall s_namesN (aC (wV 0) (aC (wOp dAdd (wVP 4) (wVP 3)) (aC (wL aN) aN)))))
    (wRet (wCall s_plan_of (aC (wV 0) (aC (wSl (wVP 5) pN (pP (wVP 4))) (aC (wSl (wVP 5) (pP (wVP 4)) pN) (aC (wC (.int 1000000000)) (aC (wC (.bl true)) aN))))))))))))))
def s_plan : DS1 := fun ds R => ∃ most : Int, ds = [.sto, .int most] ∧ (1 ≤ most ∧ most ≤ 12) ∧ ∀ sh bs ws na se hs, PlanOk most sh bs ws na se hs → R (planD sh bs ws na se hs)
theorem l_plan : ∀ ds R, s_plan ds R → ds.length = 2 := by
  rintro ds R ⟨_, rfl, _⟩
  rfl
theorem o_plan : Owes 6 (s_plan) (w_plan) := by
  rintro ds R ⟨most, rfl, ⟨m1, m2⟩, h⟩
  unfold w_plan
  walk_at "dl"
  simp only [s_take]
  refine ⟨by decide, fun m m0 m1' => ⟨by decide, fun r r0 r1 => ⟨by decide, fun q q0 q1 => ?_⟩⟩⟩
  let E4 : Int → Int → Env := fun a b => [.dt .sto, .dt (.int most), .dt (.int m), .dt (.int a), .dt (.int b), .un]
  let M1 : Env → Prop := fun ρ => ∃ a, (1 ≤ a ∧ a ≤ most) ∧ ρ = E4 a (1 + q)
  let M2 : Env → Prop := fun ρ => ∃ a b, ((1 ≤ a ∧ a ≤ most) ∧ 1 ≤ b ∧ b ≤ 4) ∧ ρ = E4 a b
  have c0 : 1 ≤ (if 3 + r < most then 3 + r else most) ∧ (if 3 + r < most then 3 + r else most) ≤ most := by split <;> omega
  refine ⟨M1, ?_, ?_⟩
  · walk_at "dl"
    split
    · exact ⟨most, by omega, rfl⟩
    · exact ⟨_, c0, rfl⟩
  rintro ρ ⟨a, ha, rfl⟩
  refine ⟨M1, ?_, ?_⟩
  · dsimp only [E4]
    walk_at "dl"
    simp only [s_take]
    split
    · exact ⟨by omega, fun z z0 z1 => ⟨1 + z, by omega, rfl⟩⟩
    · exact ⟨_, ha, rfl⟩
  rintro ρ ⟨a, ha, rfl⟩
  refine ⟨M2, ?_, ?_⟩
  · dsimp only [E4]
    walk_at "dl"
    simp only [s_take]
    split
    · exact ⟨by decide, fun z z0 z1 => ⟨a, 1 + z, ⟨ha, by omega, by omega⟩, rfl⟩⟩
    · exact ⟨_, _, ⟨ha, by omega, by omega⟩, rfl⟩
  rintro ρ ⟨a, b, ⟨⟨a1, a2⟩, b1, b2⟩, rfl⟩
  dsimp only [E4]
  walk_at "dl"
  refine ⟨by decide, b + a, rfl, by omega, by omega, fun ss sl nd nm => ?_⟩
  dsimp only
  obtain ⟨k, rfl⟩ : ∃ k : Nat, b = (k : Int) := ⟨b.toNat, by omega⟩
  rw [cutG_to, cutG_from, ← List.map_take, ← List.map_drop]
  have lt : (ss.take k).length = k := by rw [List.length_take, sl]; omega
  have ld : ((ss.drop k).length : Int) = a := by rw [List.length_drop, sl]; omega
  have nd' : (ss.take k ++ ss.drop k).Nodup := by rw [List.take_append_drop]; exact nd
  refine ⟨ss.take k, ss.drop k, 1000000000, true, rfl, ⟨fun e => by rw [e] at lt; simp only [List.length_nil] at lt; omega, fun e => by rw [e] at ld; simp only [List.length_nil] at ld; omega, nd', by omega, by omega⟩, ⟨by decide, by decide⟩, fun ws na se hs mk _ => ?_⟩
  exact h _ _ ws na se hs ⟨mk, fun s z => nm s (by rw [List.take_append_drop] at z; exact z), nd', by omega, by omega⟩
end DL
namespace DL
open PySem PySem.Spec PyProof.Rows L2 NW
structure Tree (sh bs : List Str) (f : Str → Str) (rk : Str → Nat) : Prop where
  dj : ∀ s ∈ sh, s ∉ bs
  r : ∀ b ∈ bs, rk b < bs.length
  t : ∀ b ∈ bs, f b ∈ sh ∨ (f b ∈ bs ∧ rk (f b) < rk b)
/-- the holders above b, at most n of them -/
def chF (bs : List Str) (f : Str → Str) : Nat → Str → List Str
  | 0, _ => []
  | n + 1, b => f b :: (if f b ∈ bs then chF bs f n (f b) else [])
def chO (bs : List Str) (f : Str → Str) (b : Str) : List Str := chF bs f bs.length b
section
variable {sh bs : List Str} {f : Str → Str} {rk : Str → Nat}
theorem Tree.st (T : Tree sh bs f rk) : ∀ (k : Nat) {b : Str} {n m : Nat}, b ∈ bs → rk b < k → rk b < n → rk b < m → chF bs f n b = chF bs f m b
  | 0, _, _, _, _, h, _, _ => absurd h (Nat.not_lt_zero _)
  | k + 1, b, 0, _, _, _, h, _ => absurd h (Nat.not_lt_zero _)
  | k + 1, b, _ + 1, 0, _, _, _, h => absurd h (Nat.not_lt_zero _)
  | k + 1, b, n + 1, m + 1, hb, h, h1, h2 => by
    unfold chF
    rcases T.t b hb with e | ⟨e, l⟩
    · rw [if_neg (T.dj _ e), if_neg (T.dj _ e)]
    · rw [if_pos e, if_pos e, T.st k e (n := n) (m := m) (by omega) (by omega) (by omega)]
theorem Tree.ch (T : Tree sh bs f rk) {b : Str} (hb : b ∈ bs) : chO bs f b = f b :: (if f b ∈ bs then chO bs f (f b) else []) := by
  unfold chO
  have l := T.r b hb
  obtain ⟨n, e⟩ : ∃ n, bs.length = n + 1 := ⟨bs.length - 1, by omega⟩
  have z : chF bs f bs.length b = f b :: (if f b ∈ bs then chF bs f n (f b) else []) := by
    rw [e, chF]
  rw [z]
  rcases T.t b hb with q | ⟨q, l2⟩
  · rw [if_neg (T.dj _ q), if_neg (T.dj _ q)]
  · rw [if_pos q, if_pos q, T.st (rk b) q (n := n) (m := bs.length) l2 (by omega) (by omega)]
theorem Tree.mem (T : Tree sh bs f rk) : ∀ (k : Nat) {b x : Str}, b ∈ bs → rk b < k → x ∈ chO bs f b → x ∈ sh ∨ (x ∈ bs ∧ rk x < rk b)
  | 0, _, _, _, h, _ => absurd h (Nat.not_lt_zero _)
  | k + 1, b, x, hb, h, hx => by
    rw [T.ch hb] at hx
    rcases List.mem_cons.mp hx with rfl | hx
    · exact T.t b hb
    · rcases T.t b hb with q | ⟨q, l2⟩
      · rw [if_neg (T.dj _ q)] at hx; cases hx
      · rw [if_pos q] at hx
        rcases T.mem k q (by omega) hx with z | ⟨z1, z2⟩
        · exact .inl z
        · exact .inr ⟨z1, by omega⟩
theorem Tree.mem' (T : Tree sh bs f rk) {b x : Str} (hb : b ∈ bs) (hx : x ∈ chO bs f b) : x ∈ sh ∨ (x ∈ bs ∧ rk x < rk b) := T.mem _ hb (Nat.lt_succ_self _) hx
theorem Tree.self (T : Tree sh bs f rk) {b : Str} (hb : b ∈ bs) : b ∉ chO bs f b := fun z => by
  rcases T.mem' hb z with q | ⟨_, q⟩
  · exact T.dj _ q hb
  · omega
theorem Tree.len (T : Tree sh bs f rk) : ∀ (k : Nat) {b : Str}, b ∈ bs → rk b < k → (chO bs f b).length ≤ rk b + 1
  | 0, _, _, h => absurd h (Nat.not_lt_zero _)
  | k + 1, b, hb, h => by
    rw [T.ch hb]
    rcases T.t b hb with q | ⟨q, l2⟩
    · rw [if_neg (T.dj _ q)]; exact Nat.succ_le_succ (Nat.zero_le _)
    · rw [if_pos q, List.length_cons]
      have := T.len k q (by omega)
      omega
end
end DL
namespace DL
open PySem PySem.Spec PyProof.Rows L2 NW
local macro_rules | `(tactic| walk_at "dl1") => `(tactic| simp only [wAugD, fLcO, wNotN, iEnV, wRaiseN, fKeys, fKeysO, fSrtS, wIxD, wIxO, wSlA, wInDN, wLenDD, fDc, wFD, sIx, sNo, wIsH, wHF, wMkK, wAsgMK, asDI, dAddT, gP, wAsgFD, fCallD, fMethD, fDict, wCM, asD1, wDropCM, wAsgCM, wItemsO, fSortP, wForK, fLcK, sFd, sV, wExt, dAddT, dBinI, dBinX, wAsgB, fSortI, fSl, wAsgD, wPutD, atD, atDR, asK, wInOD, wLenOD, fCallN, wCallB, wCallK, wCallD, wDropK, frzE, frz1, wFld, wProp, wMeth, wMeth0, wLenI, dInI, dEqI, tyOk, iOwnD, iVk, wIsC, isC, wSelf, wSelfD, atS, wGet, asD, wGetO, wInDD, wDict, wTrev, dTrev, wMkI, wMkI0, wDropI, wAsgIO, frzL1, wSetO, dSumA, dEqT, dIntL, wCallF, flatR, wRaise1, fSrt, wItems, wTry, wAsgX, wDropX, wKd, wXf, wSeq, wAsg, wAsgO, wRet, wIfS, wNx, wPass, wBk, wCt, wDrop, wAug, wApp, wAppPop, wPop, wFor, wFz, wV, wVP, atV, atP, atO, wC, wOp, wCall, wCallN, wCB, aC, aN, wL, wTu, fL, wF, fCat, fList, wTB, wTru, wAnd, wOr, wNot, wAndV, wOrV, wNotV, wIf, wChain, wIsN, wNeg, dNeg, wSl, pN, pP, dSl, wLrev, dLrev, wIsi, wIsi2, iL, iT, iV, iS, iR1, iR2, gN, fLc, wYes, wiL,
  dAdd, dSub, dMul, dMulS, dMulL, dDiv, dMod, dLt, dLe, dGt, dGe, dEq, dNe, eqD, dIn, dNi, dIx, dTru, isNon, dLen, dInt, dAbs, dMax, dMin, dList, dTup, dStr, dIAdd, frzE, frz1, startD, List.map_cons, List.map_nil, List.length_cons, List.length_nil, List.replicate_succ, List.replicate_zero, List.cons_append, List.nil_append, List.append_nil, List.getElem?_cons_zero, List.getElem?_cons_succ, List.set_cons_zero, List.set_cons_succ, Nat.reduceSub, Nat.reduceAdd, if_true, if_false, ite_true, ite_false, reduceIte, Bool.false_eq_true, decide_true, decide_false, Bool.not_true, Bool.not_false, Bool.not_eq_true', decide_eq_true_eq, decide_eq_false_iff_not, isi_dic_bool, isi_dic_int, isi_dic_str, isi_dic_dict, Bool.true_eq_false, isi_int_int, isi_int_bool, isi_bl_int, isi_bl_bool, isi_non_int, isi_non_bool, isi_str_int, isi_str_bool, isi_str_str, isi_lst_list, isi_tup_tuple, Option.some.injEq, exists_eq_left', exists_eq_left, DV.int.injEq, DV.str.injEq, DV.bl.injEq, List.cons.injEq, and_true, true_and])
local macro_rules | `(tactic| walk_at "dl") => `(tactic| try walk_at "dl1")
local macro_rules | `(tactic| walk_at "go") => `(tactic| repeat' (first
  | (intro _)
  | walk_at "dl1"
  | (refine ⟨by first | decide | omega, ?_⟩)
  | split))
def ixOf : List Str → Str → Nat
  | [], _ => 0
  | k :: ks, b => if k = b then 0 else ixOf ks b + 1
theorem ix_lt {b : Str} : ∀ {ks : List Str}, b ∈ ks → ixOf ks b < ks.length
  | [], h => by cases h
  | k :: ks, h => by
    unfold ixOf
    by_cases e : k = b
    · rw [if_pos e]; exact Nat.succ_pos _
    · rw [if_neg e]
      exact Nat.succ_lt_succ (ix_lt ((List.mem_cons.mp h).resolve_left fun w => e w.symm))
theorem ix_le {b : Str} : ∀ {ks : List Str} {j : Nat}, ks[j]? = some b → ixOf ks b ≤ j
  | [], _, h => by cases h
  | k :: ks, 0, h => by
    cases h
    unfold ixOf
    rw [if_pos rfl]; exact Nat.le_refl _
  | k :: ks, j + 1, h => by
    unfold ixOf
    by_cases e : k = b
    · rw [if_pos e]; exact Nat.zero_le _
    · rw [if_neg e]
      exact Nat.succ_le_succ (ix_le (by rw [List.getElem?_cons_succ] at h; exact h))
def fOf (ks hs : List Str) (b : Str) : Str := (hs[ixOf ks b]?).getD default
theorem lk_fOf {b : Str} : ∀ {ks hs : List Str}, ks.length = hs.length → b ∈ ks → lkK (ks.map Sum.inr) (hs.map .str) (.inr b) = some (.str (fOf ks hs b)) ∧ hs[ixOf ks b]? = some (fOf ks hs b)
  | [], _, _, h => by cases h
  | k :: ks, [], l, _ => by cases l
  | k :: ks, h :: hs, l, hb => by
    by_cases e : k = b
    · subst e
      have z : ixOf (k :: ks) k = 0 := by unfold ixOf; rw [if_pos rfl]
      unfold fOf
      rw [z]
      refine ⟨?_, rfl⟩
      show (if (Sum.inr k : Key) = .inr k then some _ else _) = _
      rw [if_pos rfl]; rfl
    · have z : ixOf (k :: ks) b = ixOf ks b + 1 := by rw [ixOf, if_neg e]
      obtain ⟨q1, q2⟩ := lk_fOf (ks := ks) (hs := hs) (Nat.succ.inj l) ((List.mem_cons.mp hb).resolve_left fun w => e w.symm)
      have e2 : fOf (k :: ks) (h :: hs) b = fOf ks hs b := by
        unfold fOf; rw [z, List.getElem?_cons_succ]
      rw [e2, z, List.getElem?_cons_succ]
      refine ⟨?_, q2⟩
      show (if (Sum.inr k : Key) = .inr b then some _ else _) = _
      rw [if_neg fun w => e (Sum.inr.inj w)]; exact q1
theorem tree_of {sh ks hs bs : List Str} (p : ks.Perm bs) (dj : ∀ s ∈ sh, s ∉ ks) (h : TreeOk sh ks hs) : Tree sh bs (fOf ks hs) (ixOf ks) where
  dj := fun s z w => dj s z (p.mem_iff.mpr w)
  r := fun b z => by rw [← p.length_eq]; exact ix_lt (p.mem_iff.mpr z)
  t := fun b z => by
    have hb := p.mem_iff.mpr z
    obtain ⟨_, q2⟩ := lk_fOf h.l.symm hb
    rcases h.t _ _ q2 with w | w
    · exact .inl w
    · refine .inr ⟨p.mem_iff.mp (List.mem_of_mem_take w), ?_⟩
      obtain ⟨j, hj, e⟩ := List.mem_iff_getElem.mp w
      rw [List.length_take] at hj
      rw [List.getElem_take] at e
      have : ixOf ks (fOf ks hs b) ≤ j := ix_le (by rw [← e]; exact List.getElem?_eq_getElem (by omega))
      omega
def w_PYard_is_shelf (K : PySem.W.Frag) : WS :=
  (wRet (wOp dIn (wVP 1) (wFld (He.ga K "Yard") "_shelves" (wV 0))))
def s_PYard_is_shelf (K : PySem.W.Frag) : DS1 := fun ds R => ∃ sh bs ws na se s, ds = [yardD K sh bs ws na se, .str s] ∧ R (.bl (decide (s ∈ sh)))
theorem l_PYard_is_shelf (K : PySem.W.Frag) : ∀ ds R, s_PYard_is_shelf K ds R → ds.length = 2 := by
  rintro ds R ⟨_, _, _, _, _, _, rfl, _⟩
  rfl
theorem o_PYard_is_shelf (K : PySem.W.Frag) : Owes 2 (s_PYard_is_shelf K) (w_PYard_is_shelf K) := by
  rintro ds R ⟨sh, bs, ws, na, se, s, rfl, r⟩
  unfold w_PYard_is_shelf
  walk_at "dl"
  refine ⟨_, _, _, rfl, y_shelves .., _, rfl, ?_⟩
  simp only [srtS_mem]
  exact r
def w_Pis_holder (K : PySem.W.Frag) : WS :=
  (wRet (wOrV (wMeth (He.ga K "Yard") "is_box" (s_PYard_is_box K) (wV 0) (aC (wV 1) aN)) (wMeth (He.ga K "Yard") "is_shelf" (s_PYard_is_shelf K) (wV 0) (aC (wV 1) aN))))
def s_Pis_holder (K : PySem.W.Frag) : DS1 := fun ds R => ∃ sh bs ws na se s, ds = [yardD K sh bs ws na se, .str s] ∧ R (.bl (decide (s ∈ bs) || decide (s ∈ sh)))
theorem l_Pis_holder (K : PySem.W.Frag) : ∀ ds R, s_Pis_holder K ds R → ds.length = 2 := by
  rintro ds R ⟨_, _, _, _, _, _, rfl, _⟩
  rfl
theorem o_Pis_holder (K : PySem.W.Frag) : Owes 2 (s_Pis_holder K) (w_Pis_holder K) := by
  rintro ds R ⟨sh, bs, ws, na, se, s, rfl, r⟩
  unfold w_Pis_holder
  walk_at "dl"
  refine ⟨y_obj K sh bs ws na se (by decide +kernel), sh, bs, ws, na, se, s, rfl, ?_⟩
  by_cases h : s ∈ bs
  · rw [decide_eq_true h] at r ⊢; exact r
  · rw [decide_eq_false h] at r ⊢
    exact ⟨y_obj K sh bs ws na se (by decide +kernel), sh, bs, ws, na, se, s, rfl, r⟩
def w_Prequire_holder (K : PySem.W.Frag) : WS :=
  (wIfS (wNot (wTru (wCall (s_Pis_holder K) (aC (wV 0) (aC (wV 1) aN))))) (wRaise1 K "Unknown" "name" (wV 1)) wNx)
def s_Prequire_holder (K : PySem.W.Frag) : DS2 := fun ds R RX => ∃ sh bs ws na se s, ds = [yardD K sh bs ws na se, .str s] ∧ ((s ∈ sh ∨ s ∈ bs) → R .non) ∧ (¬ (s ∈ sh ∨ s ∈ bs) → RX (.err (He.ga K "Unknown") ["name"] [.str s]))
theorem l_Prequire_holder (K : PySem.W.Frag) : ∀ ds R RX, s_Prequire_holder K ds R RX → ds.length = 2 := by
  rintro ds R RX ⟨_, _, _, _, _, _, rfl, _⟩
  rfl
theorem o_Prequire_holder (K : PySem.W.Frag) : OwesX 2 (s_Prequire_holder K) (w_Prequire_holder K) := by
  rintro ds R RX ⟨sh, bs, ws, na, se, s, rfl, r1, r2⟩
  unfold w_Prequire_holder
  walk_at "dl"
  refine ⟨sh, bs, ws, na, se, s, rfl, ?_⟩
  by_cases h : s ∈ bs
  · rw [decide_eq_true h]; exact r1 (.inr h)
  · by_cases h2 : s ∈ sh
    · rw [decide_eq_true h2, Bool.or_true]; exact r1 (.inl h2)
    · rw [decide_eq_false h, decide_eq_false h2]; exact r2 fun z => z.elim h2 h
end DL
namespace DL
open PySem PySem.Spec PyProof.Rows L2 NW
local macro_rules | `(tactic| walk_at "dl1") => `(tactic| simp only [wAugD, fLcO, wNotN, iEnV, wRaiseN, fKeys, fKeysO, fSrtS, wIxD, wIxO, wSlA, wInDN, wLenDD, fDc, wFD, sIx, sNo, wIsH, wHF, wMkK, wAsgMK, asDI, dAddT, gP, wAsgFD, fCallD, fMethD, fDict, wCM, asD1, wDropCM, wAsgCM, wItemsO, fSortP, wForK, fLcK, sFd, sV, wExt, dAddT, dBinI, dBinX, wAsgB, fSortI, fSl, wAsgD, wPutD, atD, atDR, asK, wInOD, wLenOD, fCallN, wCallB, wCallK, wCallD, wDropK, frzE, frz1, wFld, wProp, wMeth, wMeth0, wLenI, dInI, dEqI, tyOk, iOwnD, iVk, wIsC, isC, wSelf, wSelfD, atS, wGet, asD, wGetO, wInDD, wDict, wTrev, dTrev, wMkI, wMkI0, wDropI, wAsgIO, frzL1, wSetO, dSumA, dEqT, dIntL, wCallF, flatR, wRaise1, fSrt, wItems, wTry, wAsgX, wDropX, wKd, wXf, wSeq, wAsg, wAsgO, wRet, wIfS, wNx, wPass, wBk, wCt, wDrop, wAug, wApp, wAppPop, wPop, wFor, wFz, wV, wVP, atV, atP, atO, wC, wOp, wCall, wCallN, wCB, aC, aN, wL, wTu, fL, wF, fCat, fList, wTB, wTru, wAnd, wOr, wNot, wAndV, wOrV, wNotV, wIf, wChain, wIsN, wNeg, dNeg, wSl, pN, pP, dSl, wLrev, dLrev, wIsi, wIsi2, iL, iT, iV, iS, iR1, iR2, gN, fLc, wYes, wiL,
  dAdd, dSub, dMul, dMulS, dMulL, dDiv, dMod, dLt, dLe, dGt, dGe, dEq, dNe, eqD, dIn, dNi, dIx, dTru, isNon, dLen, dInt, dAbs, dMax, dMin, dList, dTup, dStr, dIAdd, frzE, frz1, startD, List.map_cons, List.map_nil, List.length_cons, List.length_nil, List.replicate_succ, List.replicate_zero, List.cons_append, List.nil_append, List.append_nil, List.getElem?_cons_zero, List.getElem?_cons_succ, List.set_cons_zero, List.set_cons_succ, Nat.reduceSub, Nat.reduceAdd, if_true, if_false, ite_true, ite_false, reduceIte, Bool.false_eq_true, decide_true, decide_false, Bool.not_true, Bool.not_false, Bool.not_eq_true', decide_eq_true_eq, decide_eq_false_iff_not, isi_dic_bool, isi_dic_int, isi_dic_str, isi_dic_dict, Bool.true_eq_false, isi_int_int, isi_int_bool, isi_bl_int, isi_bl_bool, isi_non_int, isi_non_bool, isi_str_int, isi_str_bool, isi_str_str, isi_lst_list, isi_tup_tuple, Option.some.injEq, exists_eq_left', exists_eq_left, DV.int.injEq, DV.str.injEq, DV.bl.injEq, List.cons.injEq, and_true, true_and])
local macro_rules | `(tactic| walk_at "dl") => `(tactic| try walk_at "dl1")
local macro_rules | `(tactic| walk_at "go") => `(tactic| repeat' (first
  | (intro _)
  | walk_at "dl1"
  | (refine ⟨by first | decide | omega, ?_⟩)
  | split))
def s_P_meets_itself : DS1 := fun ds R => ∃ (ks hs sh : List Str) (rk : Str → Nat) (b : Str), ds = [tabD ks hs, .str b] ∧ ks.length = hs.length ∧ Tree sh ks (fOf ks hs) rk ∧ b ∈ ks ∧ R (.bl false)
theorem l_P_meets_itself : ∀ ds R, s_P_meets_itself ds R → ds.length = 2 := by
  rintro ds R ⟨_, _, _, _, _, rfl, _⟩
  rfl
def w_P_meets_itself : WS :=
  (wSeq (wAsg 2 (wIxD (wV 0) (wV 1)))
    (wSeq (wForK mkK (sV 0) (gN 3) (wSeq (wIfS (wTB (wOp dEq (wVP 2) (wVP 1))) (wRet (wC (.bl true))) wNx)
    (wSeq (wIfS (wTB (wInDN true (wV 2) (wV 0))) (wRet (wC (.bl false))) wNx)
    (wAsg 2 (wIxD (wV 0) (wV 2))))))
    (wRet (wC (.bl false)))))
theorem o_P_meets_itself : Owes 4 (s_P_meets_itself) (w_P_meets_itself) := by
  rintro ds R ⟨ks, hs, sh, rk, b, rfl, l, T, hb, h⟩
  unfold w_P_meets_itself
  walk_at "dl"
  refine ⟨_, _, rfl, _, (lk_fOf l hb).1, ?_⟩
  refine forL_ind (fun i ρ => ∃ (p : Str) (v : Sl), ρ = [.dt (tabD ks hs), .dt (.str b), .dt (.str p), v] ∧ (p ∈ sh ∨ (p ∈ ks ∧ rk p < rk b))) ⟨_, _, rfl, T.t b hb⟩ ?_ ?_
  · rintro i x ρ K hx ⟨p, v, rfl, hp⟩ hK
    walk_at "dl"
    by_cases e : p = b
    · subst e
      rcases hp with z | ⟨_, z⟩
      · exact absurd hb (T.dj _ z)
      · omega
    rw [if_neg e]
    refine ⟨_, _, rfl, ?_⟩
    rw [has_str]
    rcases hp with z | ⟨z, z2⟩
    · rw [if_pos (decide_eq_false (T.dj _ z))]
      exact h
    · rw [if_neg (by rw [decide_eq_true z]; decide)]
      refine ⟨_, _, rfl, _, (lk_fOf l z).1, hK _ ⟨_, _, rfl, (T.t p z).imp_right fun w => ⟨w.1, by omega⟩⟩⟩
  rintro ρ ⟨p, v, rfl, hp⟩
  exact h
def s_Pleast_looped : DS1 := fun ds R => ∃ (ks hs sh : List Str) (rk : Str → Nat), ds = [tabD ks hs] ∧ ks.length = hs.length ∧ ks.length < 64 ∧ Tree sh ks (fOf ks hs) rk ∧ R .non
theorem l_Pleast_looped : ∀ ds R, s_Pleast_looped ds R → ds.length = 1 := by
  rintro ds R ⟨_, _, _, _, rfl, _⟩
  rfl
def w_Pleast_looped : WS :=
  (wSeq (wFor (iL (wF (fSrtS (wV 0)))) (gN 1) (wIfS (wTru (wCall s_P_meets_itself (aC (wV 0) (aC (wV 1) aN)))) (wRet (wV 1)) wNx))
    (wRet (wC .non)))
theorem o_Pleast_looped : Owes 2 (s_Pleast_looped) (w_Pleast_looped) := by
  rintro ds R ⟨ks, hs, sh, rk, rfl, l, l64, T, h⟩
  unfold w_Pleast_looped
  walk_at "dl"
  refine ⟨_, .inr (.inr ⟨⟨_, rfl⟩, l64⟩), fun ys p q => ⟨_, rfl, ?_⟩⟩
  refine forL_ind (fun i ρ => ∃ (v : Sl), ρ = [.dt (tabD ks hs), v]) ⟨_, rfl⟩ ?_ ?_
  · rintro i x ρ K hx ⟨v, rfl⟩ hK
    rw [List.getElem?_map] at hx
    cases eb : ys[i]? with
    | none => rw [eb] at hx; cases hx
    | some b =>
      rw [eb] at hx
      obtain rfl := (Option.some.inj hx).symm
      walk_at "dl"
      refine ⟨ks, hs, sh, rk, b, rfl, l, T, p.mem_iff.mp (List.mem_of_getElem? eb), ?_⟩
      dsimp only
      rw [if_neg (by decide)]
      exact hK _ ⟨_, rfl⟩
  rintro ρ ⟨v, rfl⟩
  exact h
def wNs : List Str := ["_yard", "_table", "_row"]
def worldD (K : PySem.W.Frag) (sh bs : List Str) (ws : List DV) (na se : List Str) (f : Str → Str) : DV := .obj (He.ga K "World") wNs [yardD K sh bs ws na se, .dic ((srtS bs).map Sum.inr) ((srtS bs).map fun b => .str (f b)), .tup ((srtS bs).map fun b => .str (f b))]
theorem w_obj (K : PySem.W.Frag) (sh bs : List Str) (ws : List DV) (na se : List Str) (f : Str → Str) {m : Str} (h : m ∉ wNs) : ∃ ns xs, worldD K sh bs ws na se f = .obj (He.ga K "World") ns xs ∧ m ∉ ns := ⟨_, _, rfl, h⟩
theorem dc_val {w1 w2 : WE} {bs : List Str} {val : Str → DV} {ρ : Env} {R : List Key → List DV → Prop} {g : WG} (nd : bs.Nodup)
    (hg : ∀ b, b ∈ bs → ∀ (K : List Key → List DV → Prop) (ks : List Key) (zs : List DV), K (putKs ks (.inr b)) (putXs ks zs (.inr b) (val b)) → g (.str b) ρ fun ρ' => wYes ρ' fun c => if c = true then w1 ρ' fun y => w2 ρ' fun z => asK y fun k => K (putKs ks k) (putXs ks zs k z) else K ks zs)
    (r : R ((srtS bs).map Sum.inr) ((srtS bs).map val)) : dcL g wYes w1 w2 ((srtS bs).map DV.str) ρ [] [] R := by
  refine dcL_ind (fun i ks zs => ks = ((srtS bs).take i).map Sum.inr ∧ zs = ((srtS bs).take i).map val) ⟨rfl, rfl⟩ ?_ ?_
  · rintro i x ks zs K' hx ⟨rfl, rfl⟩ k
    rw [List.getElem?_map] at hx
    cases e : (srtS bs)[i]? with
    | none => rw [e] at hx; cases hx
    | some b =>
      rw [e] at hx
      obtain rfl : DV.str b = x := Option.some.inj hx
      refine hg b (srtS_mem.mp (List.mem_of_getElem? e)) K' _ _ ?_
      obtain ⟨p1, p2⟩ := put_new (xs := ((srtS bs).take i).map val) (v := val b) (not_take (srtS_nodup nd) e)
      rw [p1, p2]
      refine k _ _ ⟨by rw [take_snoc e], by rw [take_snoc e, List.map_append]; rfl⟩
  · rintro ks zs ⟨rfl, rfl⟩
    rw [List.length_map, List.take_length]
    exact r
theorem items_at {ks hs : List Str} {i : Nat} {x : DV} (h : (items (ks.map Sum.inr) (hs.map .str))[i]? = some x) : ∃ k h, ks[i]? = some k ∧ hs[i]? = some h ∧ x = .tup [.str k, .str h] := by
  unfold items at h
  rw [List.getElem?_zipWith, List.getElem?_map, List.getElem?_map] at h
  cases a : ks[i]? with
  | none => rw [a] at h; cases h
  | some k =>
    cases b : hs[i]? with
    | none => rw [a, b] at h; cases h
    | some z => rw [a, b] at h; exact ⟨k, z, rfl, rfl, (Option.some.inj h).symm⟩
def w_PWorld___init__ (K : PySem.W.Frag) : WS :=
  (wSeq (wForK items (sV 2) (gP 3 4) (wSeq (wDropX (s_Prequire_box K) (aC (wV 1) (aC (wV 3) aN)))
    (wDropX (s_Prequire_holder K) (aC (wV 1) (aC (wV 4) aN)))))
    (wSeq (wFor (iOwnD (He.ga K "Yard") "_boxes" (wV 1)) (gN 3) (wIfS (wTB (wInDN true (wV 3) (wV 2))) (wRaise1 K "NoHolder" "name" (wV 3)) wNx))
    (wSeq (wAsg 5 (wCall s_Pleast_looped (aC (wV 2) aN)))
    (wSeq (wIfS (wTB (wNotN (wVP 5))) (wRaise1 K "Loop" "name" (wV 5)) wNx)
    (wSeq (wSelf (He.ga K "World") "_yard" (wV 1))
    (wSeq (wSelf (He.ga K "World") "_table" (wFD (fDc (iOwnD (He.ga K "Yard") "_boxes" (wV 1)) (gN 3) wYes (wV 3) (wIxD (wV 2) (wV 3)) [3])))
    (wSelf (He.ga K "World") "_row" (wCB dTup (aC (wF (fLc (iOwnD (He.ga K "Yard") "_boxes" (wV 1)) (gN 3) wYes (wIxD (wV 2) (wV 3)) [3])) aN)))))))))
def s_PWorld___init__ (K : PySem.W.Frag) : DS2 := fun ds R RX => ∃ (sh bs : List Str) (ws : List DV) (na se ks hs : List Str) (rk : Str → Nat), ds = [yardD K sh bs ws na se, tabD ks hs] ∧ (ks.Perm bs ∧ ks.Nodup ∧ ks.length = hs.length ∧ ks.length < 20 ∧ Tree sh ks (fOf ks hs) rk ∧ ∀ h ∈ hs, h ∈ sh ∨ h ∈ bs) ∧ R (worldD K sh bs ws na se (fOf ks hs))
theorem l_PWorld___init__ (K : PySem.W.Frag) : ∀ ds R RX, s_PWorld___init__ K ds R RX → ds.length = 2 := by
  rintro ds R RX ⟨_, _, _, _, _, _, _, _, rfl, _⟩
  rfl
theorem o_PWorld___init__ (K : PySem.W.Frag) : OwesI 5 (He.ga K "World") (s_PWorld___init__ K) (w_PWorld___init__ K) := by
  rintro a ds R RX ⟨sh, bs, ws, na, se, ks, hs, rk, rfl, ⟨p, nd, l, l20, T, hh⟩, h⟩
  unfold w_PWorld___init__
  walk_at "dl"
  unfold tabD
  dsimp only
  refine forL_ind (fun i ρ => ∃ (v3 v4 : Sl), ρ = [.oi a (He.ga K "World") [] [], .dt (yardD K sh bs ws na se), .dt (tabD ks hs), v3, v4, .un]) ⟨_, _, rfl⟩ ?_ ?_
  · rintro i x ρ K' hx ⟨v3, v4, rfl⟩ hK
    obtain ⟨k, z, ek, ez, rfl⟩ := items_at hx
    have hk : k ∈ bs := p.mem_iff.mp (List.mem_of_getElem? ek)
    have hz := hh z (List.mem_of_getElem? ez)
    unfold gP
    walk_at "dl"
    exact ⟨sh, bs, ws, na, se, k, rfl, fun _ => ⟨sh, bs, ws, na, se, z, rfl, fun _ => hK _ ⟨_, _, rfl⟩, fun w => absurd hz w⟩, fun w => absurd hk w⟩
  rintro ρ ⟨v3, v4, rfl⟩
  walk_at "dl"
  refine ⟨_, _, _, rfl, y_boxes .., ?_⟩
  refine forL_ind (fun i ρ => ∃ (v3 v4 : Sl), ρ = [.oi a (He.ga K "World") [] [], .dt (yardD K sh bs ws na se), .dt (tabD ks hs), v3, v4, .un]) ⟨_, _, rfl⟩ ?_ ?_
  · rintro i x ρ K' hx ⟨v3, v4, rfl⟩ hK
    rw [List.getElem?_map] at hx
    cases eb : (srtS bs)[i]? with
    | none => rw [eb] at hx; cases hx
    | some b =>
      rw [eb] at hx
      obtain rfl := (Option.some.inj hx).symm
      have hb : b ∈ ks := p.mem_iff.mpr (srtS_mem.mp (List.mem_of_getElem? eb))
      walk_at "dl"
      refine ⟨_, _, rfl, ?_⟩
      rw [has_str, decide_eq_true hb, if_neg (by decide)]
      exact hK _ ⟨_, _, rfl⟩
  rintro ρ ⟨v3, v4, rfl⟩
  walk_at "dl"
  refine ⟨ks, hs, sh, rk, rfl, l, by omega, T, ?_⟩
  dsimp only
  rw [if_neg (by decide)]
  have ndb : bs.Nodup := p.nodup_iff.mp nd
  have lb : (srtS bs).length < 20 := by rw [srtS_len, ← p.length_eq]; exact l20
  refine ⟨by decide, by decide, _, _, _, rfl, y_boxes .., by rw [List.length_map]; omega, ?_⟩
  refine dc_val (val := fun b => .str (fOf ks hs b)) ndb (fun b hb K' ks' zs hK => ?_) ?_
  · walk_at "dl"
    exact ⟨_, _, rfl, _, (lk_fOf l (p.mem_iff.mpr hb)).1, hK⟩
  refine ⟨by decide, by decide, _, _, _, rfl, y_boxes .., by rw [List.length_map]; omega, ?_⟩
  refine lcL_map (fun x => .str (fOf ks hs (getS x))) _ _ (fun x hx K' hK => ?_) ?_
  · obtain ⟨b, hb, rfl⟩ := List.mem_map.mp hx
    walk_at "dl"
    exact ⟨_, _, rfl, _, (lk_fOf l (p.mem_iff.mpr (srtS_mem.mp hb))).1, hK⟩
  refine ⟨by decide, by decide, _, _, rfl, ?_⟩
  rw [List.nil_append, List.map_map]
  exact h
theorem w_yard (a b c : DV) : lkD wNs [a, b, c] "_yard" = some a := rfl
theorem w_table (a b c : DV) : lkD wNs [a, b, c] "_table" = some b := rfl
theorem w_row (a b c : DV) : lkD wNs [a, b, c] "_row" = some c := rfl
def w_PWorld_yard (K : PySem.W.Frag) : WS :=
  (wRet (wFld (He.ga K "World") "_yard" (wV 0)))
def s_PWorld_yard (K : PySem.W.Frag) : DS1 := fun ds R => ∃ sh bs ws na se f, ds = [worldD K sh bs ws na se f] ∧ R (yardD K sh bs ws na se)
theorem l_PWorld_yard (K : PySem.W.Frag) : ∀ ds R, s_PWorld_yard K ds R → ds.length = 1 := by
  rintro ds R ⟨_, _, _, _, _, _, rfl, _⟩
  rfl
theorem o_PWorld_yard (K : PySem.W.Frag) : Owes 1 (s_PWorld_yard K) (w_PWorld_yard K) := by
  rintro ds R ⟨sh, bs, ws, na, se, f, rfl, r⟩
  unfold w_PWorld_yard
  walk_at "dl"
  exact ⟨_, _, _, rfl, w_yard .., r⟩
def w_PWorld_row (K : PySem.W.Frag) : WS :=
  (wRet (wFld (He.ga K "World") "_row" (wV 0)))
def s_PWorld_row (K : PySem.W.Frag) : DS1 := fun ds R => ∃ sh bs ws na se f, ds = [worldD K sh bs ws na se f] ∧ R (.tup ((srtS bs).map fun b => .str (f b)))
theorem l_PWorld_row (K : PySem.W.Frag) : ∀ ds R, s_PWorld_row K ds R → ds.length = 1 := by
  rintro ds R ⟨_, _, _, _, _, _, rfl, _⟩
  rfl
theorem o_PWorld_row (K : PySem.W.Frag) : Owes 1 (s_PWorld_row K) (w_PWorld_row K) := by
  rintro ds R ⟨sh, bs, ws, na, se, f, rfl, r⟩
  unfold w_PWorld_row
  walk_at "dl"
  exact ⟨_, _, _, rfl, w_row .., r⟩
theorem lk_val {bs : List Str} {val : Str → DV} {s : Str} (h : s ∈ bs) : lkK ((srtS bs).map Sum.inr) ((srtS bs).map val) (.inr s) = some (val s) := by
  have key : ∀ l : List Str, s ∈ l → lkK (l.map Sum.inr) (l.map val) (.inr s) = some (val s) := by
    intro l
    induction l with
    | nil => intro z; cases z
    | cons x l ih =>
      intro z
      show (if (Sum.inr x : Key) = .inr s then some (val x) else lkK (l.map Sum.inr) (l.map val) (.inr s)) = some (val s)
      by_cases e : x = s
      · rw [if_pos (by rw [e]), e]
      · rw [if_neg fun w => e (Sum.inr.inj w)]
        exact ih ((List.mem_cons.mp z).resolve_left fun w => e w.symm)
  exact key _ (srtS_mem.mpr h)
def w_PWorld_holder (K : PySem.W.Frag) : WS :=
  (wSeq (wDropX (s_Prequire_box K) (aC (wFld (He.ga K "World") "_yard" (wV 0)) (aC (wV 1) aN)))
    (wRet (wIxD (wFld (He.ga K "World") "_table" (wV 0)) (wV 1))))
def s_PWorld_holder (K : PySem.W.Frag) : DS2 := fun ds R RX => ∃ sh bs ws na se f s, ds = [worldD K sh bs ws na se f, .str s] ∧ (s ∈ bs → R (.str (f s))) ∧ (s ∉ bs → RX (.err (He.ga K "Unknown") ["name"] [.str s]))
theorem l_PWorld_holder (K : PySem.W.Frag) : ∀ ds R RX, s_PWorld_holder K ds R RX → ds.length = 2 := by
  rintro ds R RX ⟨_, _, _, _, _, _, _, rfl, _⟩
  rfl
theorem o_PWorld_holder (K : PySem.W.Frag) : OwesX 2 (s_PWorld_holder K) (w_PWorld_holder K) := by
  rintro ds R RX ⟨sh, bs, ws, na, se, f, s, rfl, h1, h2⟩
  unfold w_PWorld_holder
  walk_at "dl"
  refine ⟨_, _, _, rfl, w_yard .., sh, bs, ws, na, se, s, rfl, fun hs => ?_, h2⟩
  exact ⟨_, _, _, rfl, w_table .., _, _, rfl, _, lk_val hs, h1 hs⟩
end DL
namespace NW
open PySem PySem.Spec PyProof.Rows L2
/-- o.m(e, ..), what is raised wished for at the caller's slots -/
def tMethS (C : Addr) (m : Str) (sp : Sp) (E : L2.St → XK) (ta : TE) (t : TA) : TE := fun σ H Q => ta σ H fun x H1 => ∃ a dx fs, x = .ref a ∧ H1 a = some (.ins C dx fs) ∧ fs.lookup m = none ∧ t σ H1 fun vs H2 => sp (x :: vs) H2 Q (E σ)
section
variable {X : Cx} {k j : Nat} {C : Addr} {m : Str} {ps : List Str} {sp : Sp} {E : L2.St → XK} {o e : Expr} {es : List Expr} {apos pos : Pos} {ta : TE} {t : TA}
theorem pe_dmS {pl : Sem Bool} (c : Cls X.K C) (h : HasM X.prog X.w X.K X.mg X.base C m k ps sp) (hr : Room j X.A) (hx : ∀ σ, PassesAt (L2N.CX X.prog X.w) X σ (E σ)) (he : PE X o ta) (ha : PA X (e :: es) t) (hk : k ≤ j := by decide)
    (hst : starEach (e :: es) X.env = (false, eval e X.env) :: starEach es X.env := by rfl) (hpl : (backTo pos (starEach es X.env)).any (·.1) = false := by rfl)
    (ht : eval (.Call (.Attribute o m apos) (e :: es) [] pos) X.env = (do
      let ov ← eval o X.env
      standAt apos.atName
      let (f, first) ← holding [ov] (getMethod ov m pl)
      callWith pos f first (backTo pos (starEach (e :: es) X.env)) (backToKw pos (keywordEach [] X.env))) := by rfl) : PE X (.Call (.Attribute o m apos) (e :: es) [] pos) (tMethS C m sp E ta t) := by
  obtain ⟨f, fd, F⟩ := h
  refine ⟨fun pins s σ H Q I h => ?_⟩
  refine PySem.W.methodCall_KW (pl := pl) (thn (he.run pins s σ H _ I h) fun u s1 ⟨x, H1, I1, rx, a, dx, fs, ex, ea, l, q⟩ => ?_) ht
  subst ex
  obtain rfl : u = Value.ref a := rx
  refine getmeth_ok I1 ea c F.m l ?_
  refine PySem.W.callWith_K (first := [.ref a]) (h₀ := X.base) I.ok.mod.kin F.m.kp (thn (ha.run pos pins s1 σ H1 _ I1 q) fun us s2 ⟨vs, H2, I2, r, q2⟩ => ⟨I2.kIn, ?_⟩) hst hpl
  exact run_fnS (us := .ref a :: us) (vs := .ref a :: vs) F.ok (hr.mono hk) F.b (hx σ) I2 (.cons rfl r) q2
end
end NW
namespace DL
open PySem PySem.Spec PyProof.Rows L2 NW
abbrev WEE := Env → (DV → Prop) → (DV → Prop) → Prop
abbrev WAE := Env → (List DV → Prop) → (DV → Prop) → Prop
def liftE (Ex : L2.WX) (w : WEE) : TE := fun σ H Q => ∃ W own ρ R RX, W.Ok H ∧ IsE W own H σ ρ ∧ w ρ R RX ∧ Fin W H R Q ∧ FinX W H RX (L2.WE Ex σ)
def liftAE (Ex : L2.WX) (w : WAE) : TA := fun σ H Q => ∃ W own ρ R RX, W.Ok H ∧ IsE W own H σ ρ ∧ w ρ R RX ∧ (∀ ds vs H', R ds → Kp W.st H H' → W.Ok H' → Iss W H' vs ds → Q vs H') ∧ FinX W H RX (L2.WE Ex σ)
theorem FinX.mono {W : Wd} {H H1 : Hp} {RX : DV → Prop} {E : XK} (g : FinX W H RX E) (k : Kp W.st H H1) : FinX W H1 RX E := fun C ns xs dd H' fs r k' => g C ns xs dd H' fs r (k.trans k')
def eN (w : WE) : WEE := fun ρ R _ => w ρ R
def eCall (s : DS2) (r : WA) : WEE := fun ρ R RX => r ρ fun ds => s ds R RX
def eMeth (C : Addr) (m : Str) (s : DS2) (w : WE) (r : WA) : WEE := fun ρ R RX => w ρ fun d => (∃ ns xs, d = .obj C ns xs ∧ m ∉ ns) ∧ r ρ fun ds => s (d :: ds) R RX
def eaN : WAE := fun _ R _ => R []
def eaC (w : WEE) (r : WAE) : WAE := fun ρ R RX => w ρ (fun d => r ρ (fun ds => R (d :: ds)) RX) RX
def eTu (r : WAE) : WEE := fun ρ R RX => r ρ (fun ds => ds.length ≤ 1000000 ∧ R (.tup ds)) RX
section
variable {Ex : L2.WX} {X : Cx} {e a : Expr} {es : List Expr} {st : Stmt} {pos : Pos} {C : Addr} {m : Str}
theorem deMeth {s : DS2} {w : WE} {r : WA} (h : PE X e (tMethS C m (dspX s) (L2.WE Ex) (lift w) (liftA r))) : PE X e (liftE Ex (eMeth C m s w r)) := pe_weak h fun σ H Q q => by
  obtain ⟨W, own, ρ, R, RX, o, i, z, g, gx⟩ := q
  refine ⟨W, own, ρ, _, o, i, z, fun d v H1 r1 k o1 i1 => ?_⟩
  obtain ⟨⟨ns, xs, rfl, hm⟩, r1⟩ := r1
  have i2 := i1
  cases i1 with
  | obj h1 h2 h3 h4 =>
    subst h3
    exact ⟨_, _, _, rfl, h1, lookup_none hm, W, own, ρ, _, o1, i.mono o k, r1, fun ds vs H2 r2 k2 o2 i3 => ⟨W, _, _, _, o2, .cons (i2.mono k2) i3, r2, (g.mono k).mono k2, (gx.mono k).mono k2⟩⟩
theorem deaN : PA X [] (liftAE Ex eaN) := pa_weak pa_nil fun σ H Q q => by
  obtain ⟨W, own, ρ, R, RX, o, _, r, f, _⟩ := q
  exact f _ _ _ r (Kp.refl _ _) o .nil
theorem deaC {w : WEE} {r : WAE} (ha : PE X a (liftE Ex w)) (hr : PA X es (liftAE Ex r)) (he : starEach (a :: es) X.env = (false, eval a X.env) :: starEach es X.env := by rfl) : PA X (a :: es) (liftAE Ex (eaC w r)) := pa_weak (pa_cons ha hr he) fun σ H Q q => by
  obtain ⟨W, own, ρ, R, RX, o, i, z, f, g⟩ := q
  refine ⟨W, own, ρ, _, _, o, i, z, fun d v H1 r1 k1 o1 i1 => ⟨W, own, ρ, _, _, o1, i.mono o k1, r1, fun ds vs H2 r2 k2 o2 i2 => ?_, g.mono k1⟩, g⟩
  exact f _ _ _ r2 (k1.trans k2) o2 (.cons (i1.mono k2) i2)
/-- return e, x = e, x = [e, ..] -/
def wRetE (w : WEE) : WS := fun E ρ => w ρ E.rt fun x => E.xc x ρ
def wAsgE (i : Nat) (w : WEE) : WS := fun E ρ => w ρ (fun d => E.nx (ρ.set i (.dt d))) fun x => E.xc x ρ
def wAsgOE (i : Nat) (r : WAE) : WS := fun E ρ => r ρ (fun ds => ds.length ≤ 1000000 ∧ E.nx (ρ.set i (.ow ds))) fun x => E.xc x ρ
theorem dasgOE (i : Nat) {r : WAE} (h : ∀ te, PE X (.List es pos) te → PS X st (tAsg te (gName i))) (he : PA X es (liftAE Ex r)) : PS X st (liftS Ex (wAsgOE i r)) := ps_weak (h _ (pe_lst he)) fun D σ H q => by
  obtain ⟨B, own, ρ, E, c, h, d⟩ := q
  refine ⟨B.w own, own, ρ, _, _, c.ok, c.e, h, fun ds vs H1 r1 k1 o1 i1 => ⟨?_, fun q hq => ?_⟩, fx_of c d (Kp.refl _ _)⟩
  · rw [i1.len]; exact le_line r1.1
  · exact d.nx _ _ _ _ r1.2 ((c.mono k1 o1).setO i hq (by rw [i1.len]; exact r1.1) i1)
end
end DL
namespace DL
open PySem PySem.Spec PyProof.Rows L2 NW
def eCB (d : DA) (wa : WAE) : WEE := fun ρ R RX => wa ρ (fun ds => d ds R) RX
end DL
namespace DL
open PySem PySem.Spec PyProof.Rows L2 NW
local macro_rules | `(tactic| walk_at "dl1") => `(tactic| simp only [eN, eCall, eMeth, eaN, eaC, eTu, eCB, wRetE, wAsgE, wAsgOE, wAugD, fLcO, wNotN, iEnV, wRaiseN, fKeys, fKeysO, fSrtS, wIxD, wIxO, wSlA, wInDN, wLenDD, fDc, wFD, sIx, sNo, wIsH, wHF, wMkK, wAsgMK, asDI, dAddT, gP, wAsgFD, fCallD, fMethD, fDict, wCM, asD1, wDropCM, wAsgCM, wItemsO, fSortP, wForK, fLcK, sFd, sV, wExt, dAddT, dBinI, dBinX, wAsgB, fSortI, fSl, wAsgD, wPutD, atD, atDR, asK, wInOD, wLenOD, fCallN, wCallB, wCallK, wCallD, wDropK, frzE, frz1, wFld, wProp, wMeth, wMeth0, wLenI, dInI, dEqI, tyOk, iOwnD, iVk, wIsC, isC, wSelf, wSelfD, atS, wGet, asD, wGetO, wInDD, wDict, wTrev, dTrev, wMkI, wMkI0, wDropI, wAsgIO, frzL1, wSetO, dSumA, dEqT, dIntL, wCallF, flatR, wRaise1, fSrt, wItems, wTry, wAsgX, wDropX, wKd, wXf, wSeq, wAsg, wAsgO, wRet, wIfS, wNx, wPass, wBk, wCt, wDrop, wAug, wApp, wAppPop, wPop, wFor, wFz, wV, wVP, atV, atP, atO, wC, wOp, wCall, wCallN, wCB, aC, aN, wL, wTu, fL, wF, fCat, fList, wTB, wTru, wAnd, wOr, wNot, wAndV, wOrV, wNotV, wIf, wChain, wIsN, wNeg, dNeg, wSl, pN, pP, dSl, wLrev, dLrev, wIsi, wIsi2, iL, iT, iV, iS, iR1, iR2, gN, fLc, wYes, wiL,
  dAdd, dSub, dMul, dMulS, dMulL, dDiv, dMod, dLt, dLe, dGt, dGe, dEq, dNe, eqD, dIn, dNi, dIx, dTru, isNon, dLen, dInt, dAbs, dMax, dMin, dList, dTup, dStr, dIAdd, frzE, frz1, startD, List.map_cons, List.map_nil, List.length_cons, List.length_nil, List.replicate_succ, List.replicate_zero, List.cons_append, List.nil_append, List.append_nil, List.getElem?_cons_zero, List.getElem?_cons_succ, List.set_cons_zero, List.set_cons_succ, Nat.reduceSub, Nat.reduceAdd, if_true, if_false, ite_true, ite_false, reduceIte, Bool.false_eq_true, decide_true, decide_false, Bool.not_true, Bool.not_false, Bool.not_eq_true', decide_eq_true_eq, decide_eq_false_iff_not, isi_dic_bool, isi_dic_int, isi_dic_str, isi_dic_dict, Bool.true_eq_false, isi_int_int, isi_int_bool, isi_bl_int, isi_bl_bool, isi_non_int, isi_non_bool, isi_str_int, isi_str_bool, isi_str_str, isi_lst_list, isi_tup_tuple, Option.some.injEq, exists_eq_left', exists_eq_left, DV.int.injEq, DV.str.injEq, DV.bl.injEq, List.cons.injEq, and_true, true_and])
local macro_rules | `(tactic| walk_at "dl") => `(tactic| try walk_at "dl1")
local macro_rules | `(tactic| walk_at "go") => `(tactic| repeat' (first
  | (intro _)
  | walk_at "dl1"
  | (refine ⟨by first | decide | omega, ?_⟩)
  | split))
def w_Pchain (K : PySem.W.Frag) : WS :=
  (wSeq (wAsgOE 2 (eaC (eMeth (He.ga K "World") "holder" (s_PWorld_holder K) (wV 0) (aC (wV 1) aN)) eaN))
    (wSeq (wWhile (wTru (wMeth (He.ga K "Yard") "is_box" (s_PYard_is_box K) (wProp (He.ga K "World") (s_PWorld_yard K) (wV 0)) (aC (wOp dIx (wVP 2) (wNeg (wC (.int 1)))) aN))) (wApp 2 (wMeth (He.ga K "World") "holder" (sNo (s_PWorld_holder K)) (wV 0) (aC (wOp dIx (wVP 2) (wNeg (wC (.int 1)))) aN))))
    (wRet (wV 2))))
def s_Pchain (K : PySem.W.Frag) : DS2 := fun ds R RX => ∃ sh bs ws na se f rk s, ds = [worldD K sh bs ws na se f, .str s] ∧ Tree sh bs f rk ∧ bs.length ≤ 1000 ∧ (s ∈ bs → R (.lst ((chO bs f s).map .str))) ∧ (s ∉ bs → RX (.err (He.ga K "Unknown") ["name"] [.str s]))
theorem l_Pchain (K : PySem.W.Frag) : ∀ ds R RX, s_Pchain K ds R RX → ds.length = 2 := by
  rintro ds R RX ⟨_, _, _, _, _, _, _, _, rfl, _⟩
  rfl
theorem last_at (pre : List Str) (x : Str) : atI ((pre ++ [x]).map DV.str) (-1) = some (.str x) := by
  unfold atI
  rw [List.length_map, List.length_append, List.length_singleton]
  have z : ixN (pre.length + 1) (-1) = some pre.length := by
    unfold ixN
    rw [if_neg (by decide), if_pos (by omega)]
    congr 1
    omega
  rw [z, Option.bind_some, List.map_append, List.getElem?_append_right (by rw [List.length_map]; exact Nat.le_refl _), List.length_map, Nat.sub_self]
  rfl
theorem o_Pchain (K : PySem.W.Frag) : OwesX 3 (s_Pchain K) (w_Pchain K) := by
  rintro ds R RX ⟨sh, bs, ws, na, se, f, rk, s, rfl, T, lb, h1, h2⟩
  unfold w_Pchain
  walk_at "dl"
  refine ⟨w_obj K sh bs ws na se f (by decide +kernel), sh, bs, ws, na, se, f, s, rfl, fun hs => ?_, h2⟩
  refine ⟨by decide, ?_⟩
  refine ⟨fun m ρ => ∃ (pre : List Str) (x : Str), ρ = [.dt (worldD K sh bs ws na se f), .dt (.str s), .ow ((pre ++ [x]).map .str)] ∧ chO bs f s = pre ++ x :: (if x ∈ bs then chO bs f x else []) ∧ (x ∈ sh ∨ x ∈ bs) ∧ m = (if x ∈ bs then rk x + 1 else 0), ⟨_, [], f s, rfl, T.ch hs, (T.t s hs).imp_right And.left, rfl⟩, ?_⟩
  rintro m ρ ⟨pre, x, rfl, e, hx, rfl⟩
  have hlen : pre.length + 1 ≤ 1001 := by
    have z := T.len _ hs (Nat.lt_succ_self _)
    have z2 := T.r s hs
    rw [e, List.length_append, List.length_cons] at z
    omega
  walk_at "dl"
  refine ⟨⟨_, _, rfl⟩, sh, bs, ws, na, se, f, rfl, y_obj K sh bs ws na se (by decide +kernel), _, last_at pre x, sh, bs, ws, na, se, x, rfl, ?_⟩
  dsimp only
  by_cases hb : x ∈ bs
  · rw [if_pos (decide_eq_true hb)]
    refine ⟨w_obj K sh bs ws na se f (by decide +kernel), _, last_at pre x, sh, bs, ws, na, se, f, x, rfl, fun _ => ?_, fun z => absurd hb z⟩
    refine ⟨by rw [List.length_map, List.length_append, List.length_singleton]; omega, _, ?_, pre ++ [x], f x, by rw [List.map_append (l₁ := pre ++ [x])]; rfl, ?_, (T.t x hb).imp_right And.left, rfl⟩
    · rw [if_pos hb]
      rcases T.t x hb with z | ⟨z, l⟩
      · rw [if_neg (T.dj _ z)]; exact Nat.succ_pos _
      · rw [if_pos z]; omega
    · rw [e, if_pos hb, T.ch hb, List.append_assoc]; rfl
  · rw [if_neg (by rw [decide_eq_false hb]; decide)]
    rw [if_neg hb] at e
    rw [← e]
    exact h1 hs
end DL
namespace DL
open PySem PySem.Spec PyProof.Rows L2 NW
local macro_rules | `(tactic| walk_at "dl1") => `(tactic| simp only [eN, eCall, eMeth, eaN, eaC, eTu, eCB, wRetE, wAsgE, wAsgOE, wAugD, fLcO, wNotN, iEnV, wRaiseN, fKeys, fKeysO, fSrtS, wIxD, wIxO, wSlA, wInDN, wLenDD, fDc, wFD, sIx, sNo, wIsH, wHF, wMkK, wAsgMK, asDI, dAddT, gP, wAsgFD, fCallD, fMethD, fDict, wCM, asD1, wDropCM, wAsgCM, wItemsO, fSortP, wForK, fLcK, sFd, sV, wExt, dAddT, dBinI, dBinX, wAsgB, fSortI, fSl, wAsgD, wPutD, atD, atDR, asK, wInOD, wLenOD, fCallN, wCallB, wCallK, wCallD, wDropK, frzE, frz1, wFld, wProp, wMeth, wMeth0, wLenI, dInI, dEqI, tyOk, iOwnD, iVk, wIsC, isC, wSelf, wSelfD, atS, wGet, asD, wGetO, wInDD, wDict, wTrev, dTrev, wMkI, wMkI0, wDropI, wAsgIO, frzL1, wSetO, dSumA, dEqT, dIntL, wCallF, flatR, wRaise1, fSrt, wItems, wTry, wAsgX, wDropX, wKd, wXf, wSeq, wAsg, wAsgO, wRet, wIfS, wNx, wPass, wBk, wCt, wDrop, wAug, wApp, wAppPop, wPop, wFor, wFz, wV, wVP, atV, atP, atO, wC, wOp, wCall, wCallN, wCB, aC, aN, wL, wTu, fL, wF, fCat, fList, wTB, wTru, wAnd, wOr, wNot, wAndV, wOrV, wNotV, wIf, wChain, wIsN, wNeg, dNeg, wSl, pN, pP, dSl, wLrev, dLrev, wIsi, wIsi2, iL, iT, iV, iS, iR1, iR2, gN, fLc, wYes, wiL,
  dAdd, dSub, dMul, dMulS, dMulL, dDiv, dMod, dLt, dLe, dGt, dGe, dEq, dNe, eqD, dIn, dNi, dIx, dTru, isNon, dLen, dInt, dAbs, dMax, dMin, dList, dTup, dStr, dIAdd, frzE, frz1, startD, List.map_cons, List.map_nil, List.length_cons, List.length_nil, List.replicate_succ, List.replicate_zero, List.cons_append, List.nil_append, List.append_nil, List.getElem?_cons_zero, List.getElem?_cons_succ, List.set_cons_zero, List.set_cons_succ, Nat.reduceSub, Nat.reduceAdd, if_true, if_false, ite_true, ite_false, reduceIte, Bool.false_eq_true, decide_true, decide_false, Bool.not_true, Bool.not_false, Bool.not_eq_true', decide_eq_true_eq, decide_eq_false_iff_not, isi_dic_bool, isi_dic_int, isi_dic_str, isi_dic_dict, Bool.true_eq_false, isi_int_int, isi_int_bool, isi_bl_int, isi_bl_bool, isi_non_int, isi_non_bool, isi_str_int, isi_str_bool, isi_str_str, isi_lst_list, isi_tup_tuple, Option.some.injEq, exists_eq_left', exists_eq_left, DV.int.injEq, DV.str.injEq, DV.bl.injEq, List.cons.injEq, and_true, true_and])
local macro_rules | `(tactic| walk_at "dl") => `(tactic| try walk_at "dl1")
local macro_rules | `(tactic| walk_at "go") => `(tactic| repeat' (first
  | (intro _)
  | walk_at "dl1"
  | (refine ⟨by first | decide | omega, ?_⟩)
  | split))
def optD : Option Str → DV
  | none => .non
  | some s => .str s
def w_chain9 : WS :=
  (wSeq (wAsgO 2 (fL aN))
    (wSeq (wAsg 3 (wV 1))
    (wSeq (wFor (iR1 (aC (wLenDD (wV 0)) aN)) (gN 4) (wIfS (wTB (wInDN false (wV 3) (wV 0))) (wSeq (wAsg 3 (wIxD (wV 0) (wV 3)))
    (wApp 2 (wV 3))) wNx))
    (wRet (wV 2)))))
def s_chain9 : DS1 := fun ds R => ∃ ks hs sh rk s, ds = [tabD ks hs, .str s] ∧ ks.length = hs.length ∧ ks.length ≤ 1000 ∧ Tree sh ks (fOf ks hs) rk ∧ s ∈ ks ∧ R (.lst ((chO ks (fOf ks hs) s).map .str))
theorem l_chain9 : ∀ ds R, s_chain9 ds R → ds.length = 2 := by
  rintro ds R ⟨_, _, _, _, _, rfl, _⟩
  rfl
theorem o_chain9 : Owes 5 (s_chain9) (w_chain9) := by
  rintro ds R ⟨ks, hs, sh, rk, s, rfl, l, l1, T, hs', h⟩
  unfold w_chain9
  walk_at "dl"
  have ls := T.len _ hs' (Nat.lt_succ_self _)
  have lr := T.r s hs'
  refine ⟨by decide, _, _, rfl, by rw [List.length_map]; omega, by rw [List.length_map]; omega, ?_⟩
  rw [List.length_map]
  refine forL_ind (fun i ρ => ∃ (pre : List Str) (x : Str) (v : Sl), ρ = [.dt (tabD ks hs), .dt (.str s), .ow (pre.map .str), .dt (.str x), v] ∧ chO ks (fOf ks hs) s = pre ++ (if x ∈ ks then chO ks (fOf ks hs) x else []) ∧ (x ∈ ks → pre.length = i)) ⟨[], s, _, rfl, by rw [if_pos hs']; rfl, fun _ => rfl⟩ ?_ ?_
  · rintro i x0 ρ K hx ⟨pre, x, v, rfl, e, hl⟩ hK
    obtain ⟨rfl, hi⟩ := intL_at hx
    have lp : pre.length ≤ ks.length := by
      have z := congrArg List.length e
      rw [List.length_append] at z
      omega
    walk_at "dl"
    refine ⟨_, _, rfl, ?_⟩
    rw [has_str]
    by_cases hm : x ∈ ks
    · rw [if_pos (decide_eq_true hm)]
      refine ⟨_, _, rfl, _, (lk_fOf l hm).1, by rw [List.length_map]; omega, hK _ ⟨pre ++ [fOf ks hs x], fOf ks hs x, _, by rw [List.map_append]; rfl, ?_, fun _ => ?_⟩⟩
      · rw [e, if_pos hm, T.ch hm, List.append_assoc]; rfl
      · rw [List.length_append, List.length_singleton, hl hm]
    · rw [if_neg (by rw [decide_eq_false hm]; decide)]
      exact hK _ ⟨pre, x, _, rfl, e, fun z => absurd z hm⟩
  rintro ρ ⟨pre, x, v, rfl, e, hl⟩
  rw [intL_len, Int.toNat_natCast] at hl
  have hn : x ∉ ks := fun z => by
    have y := congrArg List.length e
    rw [if_pos z, List.length_append, hl z, T.ch z, List.length_cons] at y
    omega
  rw [if_neg hn, List.append_nil] at e
  rw [e] at h
  walk_at "dl"
  exact h
end DL
namespace DL
open PySem PySem.Spec PyProof.Rows L2 NW
local macro_rules | `(tactic| walk_at "dl1") => `(tactic| simp only [eN, eCall, eMeth, eaN, eaC, eTu, eCB, wRetE, wAsgE, wAsgOE, wAugD, fLcO, wNotN, iEnV, wRaiseN, fKeys, fKeysO, fSrtS, wIxD, wIxO, wSlA, wInDN, wLenDD, fDc, wFD, sIx, sNo, wIsH, wHF, wMkK, wAsgMK, asDI, dAddT, gP, wAsgFD, fCallD, fMethD, fDict, wCM, asD1, wDropCM, wAsgCM, wItemsO, fSortP, wForK, fLcK, sFd, sV, wExt, dAddT, dBinI, dBinX, wAsgB, fSortI, fSl, wAsgD, wPutD, atD, atDR, asK, wInOD, wLenOD, fCallN, wCallB, wCallK, wCallD, wDropK, frzE, frz1, wFld, wProp, wMeth, wMeth0, wLenI, dInI, dEqI, tyOk, iOwnD, iVk, wIsC, isC, wSelf, wSelfD, atS, wGet, asD, wGetO, wInDD, wDict, wTrev, dTrev, wMkI, wMkI0, wDropI, wAsgIO, frzL1, wSetO, dSumA, dEqT, dIntL, wCallF, flatR, wRaise1, fSrt, wItems, wTry, wAsgX, wDropX, wKd, wXf, wSeq, wAsg, wAsgO, wRet, wIfS, wNx, wPass, wBk, wCt, wDrop, wAug, wApp, wAppPop, wPop, wFor, wFz, wV, wVP, atV, atP, atO, wC, wOp, wCall, wCallN, wCB, aC, aN, wL, wTu, fL, wF, fCat, fList, wTB, wTru, wAnd, wOr, wNot, wAndV, wOrV, wNotV, wIf, wChain, wIsN, wNeg, dNeg, wSl, pN, pP, dSl, wLrev, dLrev, wIsi, wIsi2, iL, iT, iV, iS, iR1, iR2, gN, fLc, wYes, wiL,
  dAdd, dSub, dMul, dMulS, dMulL, dDiv, dMod, dLt, dLe, dGt, dGe, dEq, dNe, eqD, dIn, dNi, dIx, dTru, isNon, dLen, dInt, dAbs, dMax, dMin, dList, dTup, dStr, dIAdd, frzE, frz1, startD, List.map_cons, List.map_nil, List.length_cons, List.length_nil, List.replicate_succ, List.replicate_zero, List.cons_append, List.nil_append, List.append_nil, List.getElem?_cons_zero, List.getElem?_cons_succ, List.set_cons_zero, List.set_cons_succ, Nat.reduceSub, Nat.reduceAdd, if_true, if_false, ite_true, ite_false, reduceIte, Bool.false_eq_true, decide_true, decide_false, Bool.not_true, Bool.not_false, Bool.not_eq_true', decide_eq_true_eq, decide_eq_false_iff_not, isi_dic_bool, isi_dic_int, isi_dic_str, isi_dic_dict, Bool.true_eq_false, isi_int_int, isi_int_bool, isi_bl_int, isi_bl_bool, isi_non_int, isi_non_bool, isi_str_int, isi_str_bool, isi_str_str, isi_lst_list, isi_tup_tuple, Option.some.injEq, exists_eq_left', exists_eq_left, DV.int.injEq, DV.str.injEq, DV.bl.injEq, List.cons.injEq, and_true, true_and])
local macro_rules | `(tactic| walk_at "dl") => `(tactic| try walk_at "dl1")
local macro_rules | `(tactic| walk_at "go") => `(tactic| repeat' (first
  | (intro _)
  | walk_at "dl1"
  | (refine ⟨by first | decide | omega, ?_⟩)
  | split))
theorem nodup_take {ss : List Str} (nd : ss.Nodup) {i : Nat} {s : Str} (e : ss[i]? = some s) : s ∉ ss.take i := fun z => by
  obtain ⟨hi, e2⟩ := List.getElem?_eq_some_iff.mp e
  obtain ⟨j, hj, ej⟩ := List.mem_iff_getElem.mp z
  rw [List.length_take] at hj
  rw [List.getElem_take] at ej
  exact List.pairwise_iff_getElem.mp nd j i (by omega) hi (by omega) (ej.trans e2.symm)
theorem due_none {most : Int} {sh bs : List Str} {ws : List Int} {na se hs : List Str} (P : PlanOk most sh bs ws na se hs) (hm : most ≤ 12) : due sh bs.reverse (ws.map .int) na se = none := by
  obtain ⟨nd1, nd2, nd3⟩ := List.nodup_append.mp P.nd
  have s1 := P.s1; have b1 := P.b1
  obtain ⟨zs, pz, sz⟩ := P.m.se
  have c1 : cnt "shelves" sh.length 4 = none := by unfold cnt; rw [if_pos s1]
  have c2 : cnt "boxes" bs.reverse.length 12 = none := by unfold cnt; rw [if_pos (by rw [List.length_reverse]; omega)]
  have c3 : fstE (shF sh) sh.length = none := fstE_none fun j hj => by
    have es := List.getElem?_eq_getElem hj
    unfold shF
    rw [es, Option.bind_some, if_pos (P.nm _ (List.mem_append_left _ (List.getElem_mem hj))), if_neg (nodup_take nd1 es)]
  have c4 : fstE (bxF bs.reverse (ws.map .int) sh) bs.reverse.length = none := fstE_none fun j hj => by
    have es := List.getElem?_eq_getElem hj
    have lw : j < ws.length := by rw [P.m.wl, ← List.length_reverse (as := bs)]; exact hj
    have ew := List.getElem?_eq_getElem lw
    have hb : bs.reverse[j] ∈ bs := List.mem_reverse.mp (List.getElem_mem hj)
    obtain ⟨w1, w2⟩ := P.m.w _ (List.getElem_mem lw)
    unfold bxF
    rw [es, Option.bind_some, List.getElem?_map, ew, Option.map_some, Option.bind_some, if_pos (P.nm _ (List.mem_append_right _ hb)), if_neg fun z => nd3 _ z _ hb rfl]
    rw [if_pos (by unfold isNum; dsimp only; rw [decide_eq_true w1, decide_eq_true w2]; rfl)]
  have c5 : fstE (liF na bs.reverse) na.length = none := fstE_none fun j hj => by
    have es := List.getElem?_eq_getElem hj
    unfold liF
    rw [es, Option.bind_some, if_pos (List.mem_reverse.mpr (P.m.na.mem (List.getElem_mem hj))), if_neg (nodup_take (P.m.na.nodup nd2) es)]
  have c6 : fstE (liF se (sh ++ bs.reverse)) se.length = none := fstE_none fun j hj => by
    have es := List.getElem?_eq_getElem hj
    have hz := pz.mem_iff.mp (sz.mem (List.getElem_mem hj))
    have hz2 : se[j] ∈ sh ++ bs.reverse := (List.mem_append.mp hz).elim (List.mem_append_left _) fun z => List.mem_append_right _ (List.mem_reverse.mpr z)
    unfold liF
    rw [es, Option.bind_some, if_pos hz2, if_neg (nodup_take (sz.nodup (pz.nodup_iff.mpr P.nd)) es)]
  unfold due
  rw [c1, c2, c3, c4, c5, c6]
  rfl
def w_yard9 (K : PySem.W.Frag) : WS :=
  (wRet (wMkK 2 2 (s_PYard___init__ K) (aC (wCB dList (aC (wOp dIx (wVP 0) (wC (.int 0))) aN)) (aC (wDict (wOp dIx (wVP 0) (wC (.int 1)))) aN)) (aC (wCB dList (aC (wOp dIx (wVP 0) (wC (.int 2))) aN)) (aC (wCB dList (aC (wOp dIx (wVP 0) (wC (.int 3))) aN)) aN))))
def s_yard9 (K : PySem.W.Frag) : DS1 := fun ds R => ∃ most sh bs ws na se hs, ds = [planD sh bs ws na se hs] ∧ most ≤ 12 ∧ PlanOk most sh bs ws na se hs ∧ R (yardD K sh bs.reverse (ws.map .int) na se)
theorem l_yard9 (K : PySem.W.Frag) : ∀ ds R, s_yard9 K ds R → ds.length = 1 := by
  rintro ds R ⟨_, _, _, _, _, _, _, rfl, _⟩
  rfl
theorem o_yard9 (K : PySem.W.Frag) : Owes 1 (s_yard9 K) (w_yard9 K) := by
  rintro ds R ⟨most, sh, bs, ws, na, se, hs, rfl, hm, P, h⟩
  obtain ⟨nd1, nd2, nd3⟩ := List.nodup_append.mp P.nd
  have s1 := P.s1; have b1 := P.b1
  obtain ⟨zs, pz, sz⟩ := P.m.se
  have l1 := P.m.na.length_le
  have l2 := sz.length_le
  have l3 := pz.length_eq
  rw [List.length_append] at l3
  unfold w_yard9 planD
  walk_at "dl"
  refine ⟨_, rfl, _, rfl, _, _, rfl, _, rfl, _, rfl, ?_⟩
  refine ⟨_, _, _, sh, bs.reverse, ws.map .int, na, se, rfl, ⟨.inl rfl, .inl rfl, .inl rfl⟩, ⟨(List.reverse_perm bs).nodup_iff.mpr nd2, ?_, fun s z => ?_, fun s z => ?_, fun w z => ?_⟩, ⟨by omega, by rw [List.length_reverse]; omega, by omega, by omega⟩, ?_⟩
  · rw [List.length_reverse, List.length_map, P.m.wl]
  · have := nm_len (P.nm s (List.mem_append_left _ z)); omega
  · have := nm_len (P.nm s (List.mem_append_right _ (List.mem_reverse.mp z))); omega
  · obtain ⟨k, _, rfl⟩ := List.mem_map.mp z
    trivial
  · rw [due_none P hm]
    exact h
end DL
namespace DL
open PySem PySem.Spec PyProof.Rows L2 NW
local macro_rules | `(tactic| walk_at "dl1") => `(tactic| simp only [eN, eCall, eMeth, eaN, eaC, eTu, eCB, wRetE, wAsgE, wAsgOE, wAugD, fLcO, wNotN, iEnV, wRaiseN, fKeys, fKeysO, fSrtS, wIxD, wIxO, wSlA, wInDN, wLenDD, fDc, wFD, sIx, sNo, wIsH, wHF, wMkK, wAsgMK, asDI, dAddT, gP, wAsgFD, fCallD, fMethD, fDict, wCM, asD1, wDropCM, wAsgCM, wItemsO, fSortP, wForK, fLcK, sFd, sV, wExt, dAddT, dBinI, dBinX, wAsgB, fSortI, fSl, wAsgD, wPutD, atD, atDR, asK, wInOD, wLenOD, fCallN, wCallB, wCallK, wCallD, wDropK, frzE, frz1, wFld, wProp, wMeth, wMeth0, wLenI, dInI, dEqI, tyOk, iOwnD, iVk, wIsC, isC, wSelf, wSelfD, atS, wGet, asD, wGetO, wInDD, wDict, wTrev, dTrev, wMkI, wMkI0, wDropI, wAsgIO, frzL1, wSetO, dSumA, dEqT, dIntL, wCallF, flatR, wRaise1, fSrt, wItems, wTry, wAsgX, wDropX, wKd, wXf, wSeq, wAsg, wAsgO, wRet, wIfS, wNx, wPass, wBk, wCt, wDrop, wAug, wApp, wAppPop, wPop, wFor, wFz, wV, wVP, atV, atP, atO, wC, wOp, wCall, wCallN, wCB, aC, aN, wL, wTu, fL, wF, fCat, fList, wTB, wTru, wAnd, wOr, wNot, wAndV, wOrV, wNotV, wIf, wChain, wIsN, wNeg, dNeg, wSl, pN, pP, dSl, wLrev, dLrev, wIsi, wIsi2, iL, iT, iV, iS, iR1, iR2, gN, fLc, wYes, wiL,
  dAdd, dSub, dMul, dMulS, dMulL, dDiv, dMod, dLt, dLe, dGt, dGe, dEq, dNe, eqD, dIn, dNi, dIx, dTru, isNon, dLen, dInt, dAbs, dMax, dMin, dList, dTup, dStr, dIAdd, frzE, frz1, startD, List.map_cons, List.map_nil, List.length_cons, List.length_nil, List.replicate_succ, List.replicate_zero, List.cons_append, List.nil_append, List.append_nil, List.getElem?_cons_zero, List.getElem?_cons_succ, List.set_cons_zero, List.set_cons_succ, Nat.reduceSub, Nat.reduceAdd, if_true, if_false, ite_true, ite_false, reduceIte, Bool.false_eq_true, decide_true, decide_false, Bool.not_true, Bool.not_false, Bool.not_eq_true', decide_eq_true_eq, decide_eq_false_iff_not, isi_dic_bool, isi_dic_int, isi_dic_str, isi_dic_dict, Bool.true_eq_false, isi_int_int, isi_int_bool, isi_bl_int, isi_bl_bool, isi_non_int, isi_non_bool, isi_str_int, isi_str_bool, isi_str_str, isi_lst_list, isi_tup_tuple, Option.some.injEq, exists_eq_left', exists_eq_left, DV.int.injEq, DV.str.injEq, DV.bl.injEq, List.cons.injEq, and_true, true_and])
local macro_rules | `(tactic| walk_at "dl") => `(tactic| try walk_at "dl1")
local macro_rules | `(tactic| walk_at "go") => `(tactic| repeat' (first
  | (intro _)
  | walk_at "dl1"
  | (refine ⟨by first | decide | omega, ?_⟩)
  | split))
def w_any_table : WS :=
  (wRet (wCall s_tree (aC (wV 0) (aC (wOp dIx (wVP 1) (wC (.int 0))) (aC (wCall s_shuffP (aC (wV 0) (aC (wF (fKeys (wOp dIx (wVP 1) (wC (.int 1))))) aN))) aN)))))
def s_any_table : DS1 := fun ds R => ∃ most sh bs ws na se hs, ds = [.sto, planD sh bs ws na se hs] ∧ most ≤ 12 ∧ PlanOk most sh bs ws na se hs ∧ ∀ ks hs, ks.Perm bs → TreeOk sh ks hs → R (tabD ks hs)
theorem l_any_table : ∀ ds R, s_any_table ds R → ds.length = 2 := by
  rintro ds R ⟨_, _, _, _, _, _, _, rfl, _⟩
  rfl
theorem o_any_table : Owes 2 (s_any_table) (w_any_table) := by
  rintro ds R ⟨most, sh, bs, ws, na, se, hs, rfl, hm, P, h⟩
  obtain ⟨nd1, nd2, nd3⟩ := List.nodup_append.mp P.nd
  have s1 := P.s1; have b1 := P.b1
  unfold w_any_table planD
  walk_at "dl"
  simp only [s_shuffP, fKeys_str]
  refine ⟨_, rfl, _, rfl, _, _, rfl, ?_⟩
  rw [fKeys_str]
  refine ⟨by rw [List.length_map, List.length_reverse]; omega, fun ys py => ?_⟩
  obtain ⟨ks, rfl, pk⟩ := strs_perm8 py
  have pb : ks.Perm bs := pk.trans (List.reverse_perm bs)
  have lk := pb.length_eq
  exact ⟨sh, ks, rfl, ⟨fun e => by rw [e] at s1; simp at s1, pb.nodup_iff.mpr nd2, by omega, by omega⟩, fun hs th => h ks hs pb th⟩
def w_row9 : WS :=
  (wRet (wCB dTup (aC (wF (fLc (iL (wF (fSrtS (wV 0)))) (gN 1) wYes (wIxD (wV 0) (wV 1)) [1])) aN)))
def s_row9 : DS1 := fun ds R => ∃ ks hs, ds = [tabD ks hs] ∧ ks.length = hs.length ∧ ks.length < 64 ∧ R (.tup ((srtS ks).map fun b => .str (fOf ks hs b)))
theorem l_row9 : ∀ ds R, s_row9 ds R → ds.length = 1 := by
  rintro ds R ⟨_, _, rfl, _⟩
  rfl
theorem o_row9 : Owes 2 (s_row9) (w_row9) := by
  rintro ds R ⟨ks, hs, rfl, l, l64, h⟩
  unfold w_row9
  walk_at "dl"
  refine ⟨_, .inr (.inr ⟨⟨_, rfl⟩, l64⟩), fun ys p q => ⟨_, rfl, ?_⟩⟩
  rw [srtS_eq p q, List.length_map, srtS_len]
  refine ⟨by omega, ?_⟩
  refine lcL_map (fun x => .str (fOf ks hs (getS x))) _ _ (fun x hx K' hK => ?_) ?_
  · obtain ⟨b, hb, rfl⟩ := List.mem_map.mp hx
    walk_at "dl"
    exact ⟨_, _, rfl, _, (lk_fOf l (srtS_mem.mp hb)).1, hK⟩
  rw [List.nil_append, List.map_map]
  exact h
def w_word9 : WS :=
  (wSeq (wAsg 2 (wCall s_take (aC (wV 0) (aC (wC (.int 8)) aN))))
    (wSeq (wIfS (wTB (wOp dEq (wVP 2) (wC (.int 0)))) (wRet (wCall s_pick (aC (wV 0) (aC (wOp dIx (wVP 1) (wC (.int 0))) aN)))) wNx)
    (wSeq (wIfS (wTB (wOp dEq (wVP 2) (wC (.int 1)))) (wRet (wCall s_unlikeN (aC (wCall s_name (aC (wV 0) aN)) (aC (wOp dAdd (wOp dIx (wVP 1) (wC (.int 0))) (wF (fKeys (wOp dIx (wVP 1) (wC (.int 1)))))) aN)))) wNx)
    (wSeq (wIfS (wTB (wOp dEq (wVP 2) (wC (.int 2)))) (wRet (wCall s_not_name (aC (wV 0) aN))) wNx)
    (wRet (wCall s_pick (aC (wV 0) (aC (wF (fKeys (wOp dIx (wVP 1) (wC (.int 1))))) aN))))))))
def s_word9 : DS1 := fun ds R => ∃ most sh bs ws na se hs, ds = [.sto, planD sh bs ws na se hs] ∧ most ≤ 12 ∧ PlanOk most sh bs ws na se hs ∧ ∀ s : Str, s.length ≤ 60 → R (.str s)
theorem l_word9 : ∀ ds R, s_word9 ds R → ds.length = 2 := by
  rintro ds R ⟨_, _, _, _, _, _, _, rfl, _⟩
  rfl
theorem o_word9 : Owes 3 (s_word9) (w_word9) := by
  rintro ds R ⟨most, sh, bs, ws, na, se, hs, rfl, hm, P, h⟩
  have s1 := P.s1; have b1 := P.b1
  have nl : ∀ s, s ∈ sh ∨ s ∈ bs → s.length ≤ 60 := fun s z => by have := nm_len (P.nm s (List.mem_append.mpr z)); omega
  unfold w_word9 planD
  walk_at "dl"
  simp only [s_take, s_pick, s_not_name, s_name, s_unlikeN]
  refine ⟨by decide, fun r r0 r1 => ?_⟩
  split
  · refine ⟨_, rfl, ?_⟩
    dsimp only
    refine ⟨by rw [List.length_map]; omega, by rw [List.length_map]; omega, fun x hx => ?_⟩
    obtain ⟨s, hs', rfl⟩ := List.mem_map.mp hx
    exact h s (nl s (.inl hs'))
  split
  · intro s hs'
    refine ⟨_, rfl, _, rfl, _, _, rfl, ?_⟩
    rw [fKeys_str]
    dsimp only
    rw [← List.map_append]
    refine ⟨by rw [List.length_map, List.length_map, List.length_reverse]; omega, s, sh ++ bs.reverse, rfl, hs', by rw [List.length_append, List.length_reverse]; omega, fun t ht _ => h t (by have := nm_len ht; omega)⟩
  split
  · exact fun s _ l => h s l
  · refine ⟨_, rfl, _, _, rfl, ?_⟩
    rw [fKeys_str]
    refine ⟨by rw [List.length_map, List.length_reverse]; omega, by rw [List.length_map, List.length_reverse]; omega, fun x hx => ?_⟩
    obtain ⟨s, hs', rfl⟩ := List.mem_map.mp hx
    exact h s (nl s (.inr (List.mem_reverse.mp hs')))
end DL
namespace DL
open PySem PySem.Spec PyProof.Rows L2 NW
theorem hasI0_of {P : Program} {w : World} {K : PySem.W.Frag} {mg : Str → Option Value} {base : Heap} {C : Addr} {m qual : Str} {params : Arguments} {body : List Stmt} {scope : Scope} {N ps : List Str} {k : Nat} {sp : Sp} {t : XK → TS}
    (F : ∃ f fd, Mk K C f ∧ FunD K m qual params body scope [] [] f fd) (S : FnScope N ps scope) (len : ∀ vs H Q E, sp vs H Q E → vs.length = ps.length)
    (bn : ∀ (kV doc pm : Value) (an : Option Addr) (cdv ct : Value) (us : List Value), us.length = ps.length → bindArgs (PySem.W.fnOf m qual params body scope .none kV doc pm an cdv ct) ⟨us, []⟩ = pure (ps.zip us))
    (d : ∀ (f : Addr) (cdv : Value) (A : Around) (outer : List PySem.Env) (s : Shared) (H : Hp) (E : XK), Room k (A.deeper (envOfC qual scope s.heap.objs.size f cdv)) →
      L2N.Takes (cxOf (L2N.CX P w) P w K mg base N qual scope f cdv A outer s H E) (fun cls d _ H => E cls d H) → PSs (cxOf (L2N.CX P w) P w K mg base N qual scope f cdv A outer s H E) body (t E))
    (pure_ : ∀ vs H Q E, sp vs H Q E → t E { nx := fun _ H' => Q .non H', rt := Q } (L2.start N vs) H) : HasI P w K mg base C (k + 1) ps [] sp := by
  obtain ⟨f, fd, hm, F⟩ := F
  exact ⟨f, fd, hm, F.bindsN bn, ⟨[], .nil, F.bindsN bn⟩, F.ok S len fun cdv A outer s H vs Q E hr h => ⟨t E, d f cdv A outer s H E hr (L2N.takes_of rfl rfl rfl rfl), pure_ vs H Q E h⟩⟩
end DL
namespace DL
open PySem PySem.Spec PyProof.Rows L2 NW
local macro_rules | `(tactic| walk_at "dl1") => `(tactic| simp only [eN, eCall, eMeth, eaN, eaC, eTu, eCB, wRetE, wAsgE, wAsgOE, wAugD, fLcO, wNotN, iEnV, wRaiseN, fKeys, fKeysO, fSrtS, wIxD, wIxO, wSlA, wInDN, wLenDD, fDc, wFD, sIx, sNo, wIsH, wHF, wMkK, wAsgMK, asDI, dAddT, gP, wAsgFD, fCallD, fMethD, fDict, wCM, asD1, wDropCM, wAsgCM, wItemsO, fSortP, wForK, fLcK, sFd, sV, wExt, dAddT, dBinI, dBinX, wAsgB, fSortI, fSl, wAsgD, wPutD, atD, atDR, asK, wInOD, wLenOD, fCallN, wCallB, wCallK, wCallD, wDropK, frzE, frz1, wFld, wProp, wMeth, wMeth0, wLenI, dInI, dEqI, tyOk, iOwnD, iVk, wIsC, isC, wSelf, wSelfD, atS, wGet, asD, wGetO, wInDD, wDict, wTrev, dTrev, wMkI, wMkI0, wDropI, wAsgIO, frzL1, wSetO, dSumA, dEqT, dIntL, wCallF, flatR, wRaise1, fSrt, wItems, wTry, wAsgX, wDropX, wKd, wXf, wSeq, wAsg, wAsgO, wRet, wIfS, wNx, wPass, wBk, wCt, wDrop, wAug, wApp, wAppPop, wPop, wFor, wFz, wV, wVP, atV, atP, atO, wC, wOp, wCall, wCallN, wCB, aC, aN, wL, wTu, fL, wF, fCat, fList, wTB, wTru, wAnd, wOr, wNot, wAndV, wOrV, wNotV, wIf, wChain, wIsN, wNeg, dNeg, wSl, pN, pP, dSl, wLrev, dLrev, wIsi, wIsi2, iL, iT, iV, iS, iR1, iR2, gN, fLc, wYes, wiL,
  dAdd, dSub, dMul, dMulS, dMulL, dDiv, dMod, dLt, dLe, dGt, dGe, dEq, dNe, eqD, dIn, dNi, dIx, dTru, isNon, dLen, dInt, dAbs, dMax, dMin, dList, dTup, dStr, dIAdd, frzE, frz1, startD, List.map_cons, List.map_nil, List.length_cons, List.length_nil, List.replicate_succ, List.replicate_zero, List.cons_append, List.nil_append, List.append_nil, List.getElem?_cons_zero, List.getElem?_cons_succ, List.set_cons_zero, List.set_cons_succ, Nat.reduceSub, Nat.reduceAdd, if_true, if_false, ite_true, ite_false, reduceIte, Bool.false_eq_true, decide_true, decide_false, Bool.not_true, Bool.not_false, Bool.not_eq_true', decide_eq_true_eq, decide_eq_false_iff_not, isi_dic_bool, isi_dic_int, isi_dic_str, isi_dic_dict, Bool.true_eq_false, isi_int_int, isi_int_bool, isi_bl_int, isi_bl_bool, isi_non_int, isi_non_bool, isi_str_int, isi_str_bool, isi_str_str, isi_lst_list, isi_tup_tuple, Option.some.injEq, exists_eq_left', exists_eq_left, DV.int.injEq, DV.str.injEq, DV.bl.injEq, List.cons.injEq, and_true, true_and])
local macro_rules | `(tactic| walk_at "dl") => `(tactic| try walk_at "dl1")
local macro_rules | `(tactic| walk_at "go") => `(tactic| repeat' (first
  | (intro _)
  | walk_at "dl1"
  | (refine ⟨by first | decide | omega, ?_⟩)
  | split))
section
variable {sh bs : List Str} {f : Str → Str} {rk : Str → Nat}
theorem Tree.nodup (T : Tree sh bs f rk) : ∀ (k : Nat) {b : Str}, b ∈ bs → rk b < k → (chO bs f b).Nodup
  | 0, _, _, h => absurd h (Nat.not_lt_zero _)
  | k + 1, b, hb, h => by
    rw [T.ch hb]
    rcases T.t b hb with q | ⟨q, l2⟩
    · rw [if_neg (T.dj _ q)]; exact List.nodup_cons.mpr ⟨List.not_mem_nil, List.nodup_nil⟩
    · rw [if_pos q]; exact List.nodup_cons.mpr ⟨T.self q, T.nodup k q (by omega)⟩
end
end DL
namespace NW
open PySem PySem.Spec PyProof.Rows L2
def rIsPT (K : PySem.W.Frag) (D a : Addr) (d : Option Addr) : List V → Hp → VK → Prop := fun xs H Q => ∃ (tp : Addr) (cs : List V) (us : List Value) (b : Bool), xs = [.ref a, .ref tp] ∧ H tp = some (.tup cs) ∧ Paired ClsV cs us ∧ (∀ dd, d = some dd → ∃ fs, H dd = some (.xd fs)) ∧ PySem.W.kitAny K (.ref D) us = some b ∧ Q (.bl b) H
theorem call_isPT {X : Cx} {D : Addr} {d : Option Addr} {p : Addr × Obj} (C : ExcC X.K D) (hp : p ∈ X.pn) (hz : Zc (.ref D) d p.2) (hf : ∃ vs, p.2.data = .fields vs) : CallR X (.builtin "isinstance") (rIsPT X.K D p.1 d) := by
  intro pn s ρ H xs us Q I r h
  obtain ⟨tp, cs, ws, b, rfl, hT, hc, hd, e, q⟩ := h
  obtain ⟨u1, u2, rfl, r1, r2⟩ := vals2 r
  cases (show u1 = Value.ref p.1 from r1)
  cases (show u2 = Value.ref tp from r2)
  obtain ⟨_, its, rv, o, h1, h2, n, h3⟩ := (show ObjOk X.prog X.w H s.heap tp (.tup cs) from I.hok tp _ hT)
  have e3 := ClsV.all hc rv
  subst e3
  obtain ⟨oc, od', dt, sl⟩ := o
  cases h2
  cases h3
  obtain ⟨g, _⟩ := I.pin p (List.mem_append_left _ hp)
  obtain ⟨vs, hv⟩ := hf
  have inst : ∃ od : Option Obj, PySem.W.InstAt s.heap p.1 p.2 D od := by
    cases d with
    | none => exact ⟨none, g, hz.1, by unfold PySem.W.notCls; rw [hv] <;> rfl, by rw [hz.2]; trivial⟩
    | some dd =>
      obtain ⟨fs, hfs⟩ := hd dd rfl
      obtain ⟨mA, hns, _⟩ : ∃ mA, s.heap.Ns1 dd mA ∧ ∀ f, RelO (fs.lookup f) (mA f) := I.hok dd _ hfs
      obtain ⟨o, ho, _⟩ := lookIn_ns hns
      exact ⟨some o, g, hz.1, by unfold PySem.W.notCls; rw [hv] <;> rfl, by rw [hz.2]; exact ho⟩
  obtain ⟨od, J⟩ := inst
  obtain ⟨cdD, hcD, _⟩ := PySem.W.any_some C.hd
  exact PySem.W.kia_tup (PySem.W.kitx_exc (by rw [hcD]; rfl) C.hg C.hk C.hs C.ha C.hn C.ht C.hm) I.kIn J h1 e (fun z => nomatch z) fun tk => ⟨.bl b, H, I.kept (t' := tk) fun _ _ z => z, rfl, q⟩
def tIsE (K : PySem.W.Frag) (cls : Value) (r : Addr → List V → Hp → VK → Prop) (ta : TA) : TE := fun σ H Q => ∃ C : Addr, cls = .ref C ∧ ExcC K C ∧ tCB (r C) ta σ H Q
theorem pe_isE {X : Cx} {a : Addr} {oe : Obj} {cls : Value} {d : Option Addr} {pn : List (Addr × Obj)} {x : Str} {p pos : Pos} {e : Expr} {es : List Expr} {ta : TA} {r : Addr → List V → Hp → VK → Prop} (hz : L2N.Zn cls d oe)
    (h : ∀ C, ExcC X.K C → Zc (.ref C) d oe → CallR (X.suite a ((a, oe) :: pn)) (.builtin "isinstance") (r C)) (hx : x = "isinstance") (hg : Gl (X.suite a ((a, oe) :: pn)) x) (hm : X.mg x = none) (hv : bootBuiltins x = some (.builtin "isinstance"))
    (ha : PA (X.suite a ((a, oe) :: pn)) (e :: es) ta) (he : starEach (e :: es) (X.suite a ((a, oe) :: pn)).env = (false, eval e (X.suite a ((a, oe) :: pn)).env) :: starEach es (X.suite a ((a, oe) :: pn)).env := by rfl) (hpl : (backTo pos (starEach es (X.suite a ((a, oe) :: pn)).env)).any (·.1) = false := by rfl) :
    PE (X.suite a ((a, oe) :: pn)) (.Call (.Name x p) (e :: es) [] pos) (tIsE X.K cls r ta) := by
  subst hx
  constructor
  rintro pins s σ H Q I ⟨C, rfl, G, hq⟩
  exact (pe_callB (X := X.suite a ((a, oe) :: pn)) (h C G hz.zc) hg hm hv ha (by decide) (by decide) he hpl).run pins s σ H Q I hq
theorem cs_isP {X : Cx} {a C : Addr} {oe : Obj} {d : Option Addr} {pn : List (Addr × Obj)} (hf : ∃ vs, oe.data = .fields vs) (G : ExcC X.K C) (Z : Zc (.ref C) d oe) : CallR (X.suite a ((a, oe) :: pn)) (.builtin "isinstance") (rIsP X.K C a d) :=
  call_isP (X := X.suite a ((a, oe) :: pn)) (p := (a, oe)) G List.mem_cons_self Z hf
theorem cs_isPT {X : Cx} {a C : Addr} {oe : Obj} {d : Option Addr} {pn : List (Addr × Obj)} (hf : ∃ vs, oe.data = .fields vs) (G : ExcC X.K C) (Z : Zc (.ref C) d oe) : CallR (X.suite a ((a, oe) :: pn)) (.builtin "isinstance") (rIsPT X.K C a d) :=
  call_isPT (X := X.suite a ((a, oe) :: pn)) (p := (a, oe)) G List.mem_cons_self Z hf
end NW
namespace DL
open PySem PySem.Spec PyProof.Rows L2 NW
def wIsE (K : PySem.W.Frag) (L : List Str) (a : Addr) (cls : Value) (d : Option Addr) (cs : List Str) (i : Nat) : WE := fun ρ R => atV (fun e => ∃ (cn : Str) (dd : Addr) (ns : List Str) (xs : List DV), e = .hote a (He.ga K cn) dd ns xs ∧ cls = .ref (He.ga K cn) ∧ d = some dd ∧ cn ∈ L ∧ R (.bl (cs.any (inL (kindsOf cn))))) ρ[i]?
def rTs (K : PySem.W.Frag) : List Str → TA
  | [] => tNil
  | c :: cs => tCons (tC (.ref (He.ga K c))) (rTs K cs)
theorem rTs_ok {K : PySem.W.Frag} {σ : L2.St} {H : Hp} : ∀ {cs : List Str} {Q : List V → Hp → Prop}, Q (cs.map fun c => .ref (He.ga K c)) H → rTs K cs σ H Q
  | [], _, h => h
  | c :: cs, Q, h => by
    show rTs K cs σ H fun xs H2 => Q (V.ref (He.ga K c) :: xs) H2
    exact rTs_ok h
theorem cls_pair (K : PySem.W.Frag) : ∀ cs : List Str, Paired ClsV (cs.map fun c => V.ref (He.ga K c)) (cs.map fun c => Value.ref (He.ga K c))
  | [] => .nil
  | _ :: cs => .cons (.own _) (cls_pair K cs)
theorem kit_any {K : PySem.W.Frag} {t : Value} {b : Str → Bool} : ∀ {cs : List Str}, (∀ c ∈ cs, PySem.W.kitOne K t (.ref (He.ga K c)) = some (b c)) → PySem.W.kitAny K t (cs.map fun c => Value.ref (He.ga K c)) = some (cs.any b)
  | [], _ => kitAny_nil
  | c :: cs, h => by
    refine kitAny_cons (h c List.mem_cons_self) (fun z => ?_) fun z => ?_
    · rw [List.any_cons, z, Bool.false_or]
      exact kit_any fun c' hc => h c' (List.mem_cons_of_mem _ hc)
    · rw [List.any_cons, z, Bool.true_or]
/-- what is asked of the error classes L, where isinstance asks for the classes cs -/
structure ErrG (K : PySem.W.Frag) (cs : List Str) (C : Addr) (b : Str → Bool) : Prop where
  v : PySem.W.kitOne K (.ref C) (.type "ValueError") = some (b "ValueError")
  c : ∀ n ∈ cs, PySem.W.kitOne K (.ref C) (.ref (He.ga K n)) = some (b n)
  exc : ExcC K C
  xf : XfC K C
structure ErrsG (K : PySem.W.Frag) (cs L : List Str) : Prop where
  f : ∀ c ∈ L, ErrG K cs (He.ga K c) (inL (kindsOf c))
section
variable {X : Cx} {e : Expr} {K : PySem.W.Frag} {L CS : List Str} {a : Addr} {cls : Value} {d : Option Addr} {i : Nat}
theorem isE_at {cs : List Str} {σ : L2.St} {H : Hp} {Q : VK} (F : ErrsG K CS L) (q : lift (wIsE K L a cls d cs i) σ H Q) : ∃ (cn : Str) (W : Wd) (R : DV → Prop), cls = .ref (He.ga K cn) ∧ ErrG K CS (He.ga K cn) (inL (kindsOf cn)) ∧ W.Ok H ∧ Fin W H R Q ∧ R (.bl (cs.any (inL (kindsOf cn)))) ∧ σ[i]? = some (some (.ref a)) ∧ ∀ dd, d = some dd → W.ok dd ∧ ∃ fs, H dd = some (.xd fs) := by
  obtain ⟨W, own, ρ, R, o, ie, z, f⟩ := q
  obtain ⟨_, z2, cn, dd, ns, xs, rfl, rfl, rfl, hm, r⟩ := atV_ex z
  obtain ⟨v, hv, hi⟩ := ie.dt _ _ z2
  cases hi with
  | hot h1 h2 h3 h4 => exact ⟨cn, W, R, rfl, F.f cn hm, o, f, r, hv, fun dd' e => by cases e; exact ⟨h2, _, h1⟩⟩
theorem disEV (F : ErrsG K CS L) (h : PE X e (tIsE K cls (fun C => rIsP K C a d) (tCons (tVar i) (tCons (tC (.ty "ValueError")) tNil)))) : PE X e (lift (wIsE K L a cls d ["ValueError"] i)) := pe_weak h fun σ H Q q => by
  obtain ⟨cn, W, R, rfl, E, o, f, r, hv, hd⟩ := isE_at F q
  rw [List.any_cons, List.any_nil, Bool.or_false] at r
  exact ⟨_, rfl, E.exc, _, hv, _, .type "ValueError", _, rfl, .ty _, fun dd z => (hd dd z).2, E.v, f.bl o r⟩
theorem disET (cs : List Str) (F : ErrsG K CS L) (hc : (∀ c ∈ cs, c ∈ CS) ∧ cs.length ≤ 60) (h : PE X e (tIsE K cls (fun C => rIsPT K C a d) (tCons (tVar i) (tCons (tTup (rTs K cs)) tNil)))) : PE X e (lift (wIsE K L a cls d cs i)) := pe_weak h fun σ H Q q => by
  obtain ⟨cn, W, R, rfl, E, o, f, r, hv, hd⟩ := isE_at F q
  refine ⟨_, rfl, E.exc, _, hv, rTs_ok ⟨by rw [List.length_map]; exact Nat.le_trans hc.2 (by decide), fun p hp => ?_⟩⟩
  have s := same_new (o := .tup (cs.map fun c => V.ref (He.ga K c))) hp
  refine ⟨p, _, _, _, rfl, upd_same, cls_pair K cs, fun dd z => ?_, kit_any fun c hcc => E.c c (hc.1 c hcc), (f.mono (Kp.same s)).bl (o.same s) r⟩
  obtain ⟨_, fs, g⟩ := hd dd z
  exact ⟨fs, s _ _ g⟩
def wIndex (w1 w2 : WE) : WE := fun ρ R => w1 ρ fun d => ∃ ss : List Str, d = .lst (ss.map .str) ∧ w2 ρ fun d2 => ∃ s, d2 = .str s ∧ s ∈ ss ∧ R (.int (ixOf ss s : Nat))
abbrev ClW := Str × Option Nat × (Addr → Value → Option Addr → WS)
def handE (o : Option Nat) (E : WEnds) : WEnds := match o with
  | none => { nx := E.nx, rt := E.rt, bk := E.bk, ct := E.ct }
  | some _ => { nx := fun _ => False, rt := E.rt }
def pickW (K : PySem.W.Frag) (E : WEnds) (ρ : Env) (cn : Str) (ns : List Str) (xs : List DV) : List ClW → Prop
  | [] => False
  | (c, o, h) :: l => if inL (kindsOf cn) c = true then ∀ a dd, h a (.ref (He.ga K cn)) (some dd) (handE o E) (match o with | none => ρ | some i => ρ.set i (.dt (.hote a (He.ga K cn) dd ns xs))) else pickW K E ρ cn ns xs l
def wTryM (K : PySem.W.Frag) (L : List Str) (s : WS) (l : List ClW) : WS := fun E ρ => s { E with xc := fun x ρ' => ∃ (cn : Str) (ns : List Str) (xs : List DV), x = .err (He.ga K cn) ns xs ∧ cn ∈ L ∧ pickW K E ρ' cn ns xs l } ρ
def clsW (K : PySem.W.Frag) (l : List ClW) : List Clause := l.map fun q => (.ref (He.ga K q.1), q.2.1, liftH q.2.2)
theorem pick_tr {Ex : L2.WX} {Wout : L2.WX} {B : Bs} {own : Nat → Option Addr} {ρ : Env} {E : WEnds} {σ : L2.St} {H : Hp} {D : Ends} {cn : Str} {ns : List Str} {fs : List (Str × V)} {xs : List DV} {dd : Addr} (dl : Dl B E D Ex) (c : Ctx B own H σ ρ) (h1 : H dd = some (.xd fs)) (h2 : (B.w own).ok dd) (h3 : fs.map (·.1) = ns) (h4 : Iss (B.w own) H (fs.map (·.2)) xs) :
    ∀ {l : List ClW}, (∀ q ∈ l, PySem.W.exmOne K (.ref (He.ga K cn)) (.ref (He.ga K q.1)) = some (inL (kindsOf cn) q.1)) → pickW K E ρ cn ns xs l → wCl K Wout D (clsW K l) (.ref (He.ga K cn)) (some dd) σ H
  | [], _, p => p.elim
  | (n, o, h) :: l, hx, p => by
    refine ⟨_, hx _ List.mem_cons_self, fun z a ha => ?_, fun z => ?_⟩
    · unfold pickW at p
      rw [if_pos z] at p
      have p := p a dd
      match o, p with
      | none, p => exact ⟨B, own, ρ, _, c, p, ⟨dl.nx, dl.bk, dl.ct, dl.rt, fun _ _ _ _ _ _ _ _ _ z => z.elim⟩⟩
      | some i, p => exact ⟨B, cut own i, _, _, c.set i (v := .ref a) (.hot h1 h2 h3 h4), p, ⟨fun _ _ _ _ z => z.elim, fun _ _ _ _ z => z.elim, fun _ _ _ _ z => z.elim, dl.rt, fun _ _ _ _ _ _ _ _ _ z => z.elim⟩⟩
    · unfold pickW at p
      rw [if_neg (by rw [z]; decide)] at p
      exact pick_tr dl c h1 h2 h3 h4 (fun q hq => hx q (List.mem_cons_of_mem _ hq)) p
def XmOk (K : PySem.W.Frag) (L cs : List Str) : Prop := ∀ cn ∈ L, ∀ c ∈ cs, PySem.W.exmOne K (.ref (He.ga K cn)) (.ref (He.ga K c)) = some (inL (kindsOf cn) c)
theorem dtryM {Ex : L2.WX} {st : Stmt} {s : WS} {l : List ClW} {Wout : L2.WX} (hx : XmOk K L (l.map (·.1)))
    (h : PS X st (fun D σ H => (fun W => liftS W s) (wCl K Wout D (clsW K l)) D σ H)) : PS X st (liftS Ex (wTryM K L s l)) := ps_weak h fun D σ H q => by
  obtain ⟨B, own, ρ, E, c, hw, dl⟩ := q
  refine ⟨B, own, ρ, _, c, hw, ⟨dl.nx, dl.bk, dl.ct, dl.rt, fun own' ρ' σ' H' C ns xs dd fs r c' h1 h2 h3 h4 => ?_⟩⟩
  obtain ⟨cn, ns', xs', ex, hm, r⟩ := r
  injection ex with e1 e2 e3
  subst e1 e2 e3
  exact pick_tr dl c' h1 h2 h3 h4 (fun q hq => hx cn hm q.1 (List.mem_map_of_mem hq)) r
end
theorem errGB_ok {K : PySem.W.Frag} {cs : List Str} {C : Addr} {b : Str → Bool} (h : errGB K cs C b = true) : ErrG K cs C b := by
  obtain ⟨h1, h⟩ := He.ba h
  obtain ⟨h2, h⟩ := He.ba h
  obtain ⟨h3, h4⟩ := He.ba h
  exact ⟨of_decide_eq_true h1, fun n hn => of_decide_eq_true (List.all_eq_true.mp h2 n hn), excCB_ok h3, xfB_ok h4⟩
end DL
namespace DL
open PySem PySem.Spec PyProof.Rows L2 NW
local macro_rules | `(tactic| walk_at "dl1") => `(tactic| simp only [eN, eCall, eMeth, eaN, eaC, eTu, eCB, wRetE, wAsgE, wAsgOE, wIsE, wIndex, wTryM, pickW, handE, wAugD, fLcO, wNotN, iEnV, wRaiseN, fKeys, fKeysO, fSrtS, wIxD, wIxO, wSlA, wInDN, wLenDD, fDc, wFD, sIx, sNo, wIsH, wHF, wMkK, wAsgMK, asDI, dAddT, gP, wAsgFD, fCallD, fMethD, fDict, wCM, asD1, wDropCM, wAsgCM, wItemsO, fSortP, wForK, fLcK, sFd, sV, wExt, dAddT, dBinI, dBinX, wAsgB, fSortI, fSl, wAsgD, wPutD, atD, atDR, asK, wInOD, wLenOD, fCallN, wCallB, wCallK, wCallD, wDropK, frzE, frz1, wFld, wProp, wMeth, wMeth0, wLenI, dInI, dEqI, tyOk, iOwnD, iVk, wIsC, isC, wSelf, wSelfD, atS, wGet, asD, wGetO, wInDD, wDict, wTrev, dTrev, wMkI, wMkI0, wDropI, wAsgIO, frzL1, wSetO, dSumA, dEqT, dIntL, wCallF, flatR, wRaise1, fSrt, wItems, wTry, wAsgX, wDropX, wKd, wXf, wSeq, wAsg, wAsgO, wRet, wIfS, wNx, wPass, wBk, wCt, wDrop, wAug, wApp, wAppPop, wPop, wFor, wFz, wV, wVP, atV, atP, atO, wC, wOp, wCall, wCallN, wCB, aC, aN, wL, wTu, fL, wF, fCat, fList, wTB, wTru, wAnd, wOr, wNot, wAndV, wOrV, wNotV, wIf, wChain, wIsN, wNeg, dNeg, wSl, pN, pP, dSl, wLrev, dLrev, wIsi, wIsi2, iL, iT, iV, iS, iR1, iR2, gN, fLc, wYes, wiL,
  dAdd, dSub, dMul, dMulS, dMulL, dDiv, dMod, dLt, dLe, dGt, dGe, dEq, dNe, eqD, dIn, dNi, dIx, dTru, isNon, dLen, dInt, dAbs, dMax, dMin, dList, dTup, dStr, dIAdd, frzE, frz1, startD, List.map_cons, List.map_nil, List.length_cons, List.length_nil, List.replicate_succ, List.replicate_zero, List.cons_append, List.nil_append, List.append_nil, List.getElem?_cons_zero, List.getElem?_cons_succ, List.set_cons_zero, List.set_cons_succ, Nat.reduceSub, Nat.reduceAdd, if_true, if_false, ite_true, ite_false, reduceIte, Bool.false_eq_true, decide_true, decide_false, Bool.not_true, Bool.not_false, Bool.not_eq_true', decide_eq_true_eq, decide_eq_false_iff_not, isi_dic_bool, isi_dic_int, isi_dic_str, isi_dic_dict, Bool.true_eq_false, isi_int_int, isi_int_bool, isi_bl_int, isi_bl_bool, isi_non_int, isi_non_bool, isi_str_int, isi_str_bool, isi_str_str, isi_lst_list, isi_tup_tuple, Option.some.injEq, exists_eq_left', exists_eq_left, DV.int.injEq, DV.str.injEq, DV.bl.injEq, List.cons.injEq, and_true, true_and])
local macro_rules | `(tactic| walk_at "dl") => `(tactic| try walk_at "dl1")
local macro_rules | `(tactic| walk_at "go") => `(tactic| repeat' (first
  | (intro _)
  | walk_at "dl1"
  | (refine ⟨by first | decide | omega, ?_⟩)
  | split))
section
variable {sh bs : List Str} {f : Str → Str} {rk : Str → Nat}
theorem chF_perm {ks : List Str} (h : ∀ x, x ∈ ks ↔ x ∈ bs) : ∀ (n : Nat) (b : Str), chF ks f n b = chF bs f n b
  | 0, _ => rfl
  | n + 1, b => by
    unfold chF
    rw [chF_perm h n]
    by_cases z : f b ∈ bs
    · rw [if_pos z, if_pos ((h _).mpr z)]
    · rw [if_neg z, if_neg fun q => z ((h _).mp q)]
theorem chO_perm {ks : List Str} (p : ks.Perm bs) (b : Str) : chO ks f b = chO bs f b := by
  unfold chO
  rw [p.length_eq, chF_perm fun x => p.mem_iff]
end
end DL
namespace NW
open PySem PySem.Spec PyProof.Rows L2
def ItKd (o : Obj) (t it : Addr) (n : Nat) : HO := .ext fun h => ∃ es ep, o.data = .dict es ep ∧ h.IsKeyIter it t 0 n ep
def spIterK (C : Addr) (x : Str) : Shared → Sp := fun s vs H Q _ => ∃ a dx fs t o kvs, vs = [.ref a] ∧ H a = some (.ins C dx fs) ∧ fs.lookup x = some (.ref t) ∧ H t = some (.frz o (.dK kvs)) ∧ ∀ it, H it = none → s.heap.objs.size ≤ it → Q (.ref it) (upd H it (ItKd o t it kvs.length))
structure HasItKAt (P : Program) (w : World) (K : PySem.W.Frag) (mg : Str → Option Value) (base : Heap) (C : Addr) (k : Nat) (x : Str) (f : Addr) (fd : FuncData) : Prop where
  m : Meth K C "__iter__" f
  b : Binds K fd ["self"] []
  ok : FnOkS P w K mg base k f fd ["self"] (spIterK C x)
def HasItK (P : Program) (w : World) (K : PySem.W.Frag) (mg : Str → Option Value) (base : Heap) (C : Addr) (k : Nat) (x : Str) : Prop := ∃ f fd, HasItKAt P w K mg base C k x f fd
section
variable {X : Cx}
def rIterK (n : Nat) : List V → Hp → VK → Prop := fun xs H Q => ∃ (d : Addr) (o : Obj) (kvs : List (Key × V)), xs = [.ref d] ∧ H d = some (.frz o (.dK kvs)) ∧ ∀ it, H it = none → n ≤ it → Q (.ref it) (upd H it (ItKd o d it kvs.length))
theorem itKd_ok {P : Program} {w : World} {H : Hp} {h : Heap} {o : Obj} {t it : Addr} {n : Nat} (e : ∃ es ep, o.data = .dict es ep ∧ h.IsKeyIter it t 0 n ep) : ObjOk P w H h it (ItKd o t it n) :=
  ⟨e, let ⟨_, _, _, o', e', _⟩ := e; ⟨o', e'⟩, fun _ _ ⟨es, ep, q1, q⟩ k => ⟨es, ep, q1, q.at fun o e => k o e⟩⟩
theorem call_iterK : CallR X (.builtin "iter") (rIterK X.s_0.heap.objs.size) := by
  intro pins s σ H xs us Q I r h
  obtain ⟨d, o, kvs, rfl, hd, q⟩ := h
  obtain rfl := Vals.ref1 r
  obtain ⟨hs, hgd, hx, es, ep, vs, hdt, hsz, kv, hm⟩ := I.frzK hd
  refine Calls.call_function_entry (by decide +kernel) (by decide +kernel) PySem.W.kdk_entry_iter (PySem.W.kdk_args_iter _) ?_
  unfold Builtin.«iter»
  refine wpAny_bind (m := someArgs "iter" 1 2 _) (wpAny_of_eq (a := [Value.ref d]) (by first | rfl | kernel_rfl!) ?_)
  show wpAny _ _ (pyIter (.ref d) >>= _) _ _ _
  refine wpAny_bind (iter_keys hs hgd hx hdt ?_)
  refine wpAny_pure ⟨_, rfl, .ref s.heap.objs.size, _, I.laid (t' := s.toks) (fun b u e => Heap.get?_push_of_some _ e) (Nat.le_refl _) (itKd_ok ⟨es, ep, hdt, _, Heap.get?_push_size _ rfl, rfl, ?_⟩), rfl, q _ (I.hok.fresh (Nat.le_refl _)) I.sz⟩
  rw [hsz] <;> rfl
end
section
variable {P : Program} {w : World} {K : PySem.W.Frag} {mg : Str → Option Value} {base : Heap} {C : Addr} {k : Nat} {qual : Str} {params : Arguments} {body : List Stmt} {scope : Scope}
theorem hasItK_of {x : Str} (c : Cls K C) (nn : NoAttr K C x) (F : ∃ f fd, Meth K C "__iter__" f ∧ FunD K "__iter__" qual params body scope [] [] f fd) (S : FnScope (["self"] : List Str) (["self"] : List Str) scope)
    (bn : ∀ (kV doc pm : Value) (an : Option Addr) (cdv ct : Value) (us : List Value), us.length = 1 → bindArgs (PySem.W.fnOf "__iter__" qual params body scope .none kV doc pm an cdv ct) ⟨us, []⟩ = pure ((["self"] : List Str).zip us))
    (d : ∀ (f : Addr) (cdv : Value) (A : Around) (outer : List PySem.Env) (s : Shared) (H : Hp) (E : XK), PSs (cxOf (L2N.CX P w) P w K mg base (["self"] : List Str) qual scope f cdv A outer s H E) body (tRet (tCB (rIterK s.heap.objs.size) (tCons (tFld K (tVar 0) x) tNil)))) : HasItK P w K mg base C (k + 1) x := by
  obtain ⟨f, fd, hm, F⟩ := F
  have bb := F.bindsN (ps := (["self"] : List Str)) bn
  obtain ⟨oc, od, dV, kV, doc, pm, an, cdv, ct, osl, rfl, lk, hcd, _, _⟩ := F.ex
  refine ⟨f, _, hm, bb, fnS_of lk hcd S (fun s vs H Q E ⟨_, _, _, _, _, _, e, _⟩ => by rw [e]; rfl) fun A outer s H vs Q E hr h => ⟨_, d f cdv A outer s H E, ?_⟩⟩
  obtain ⟨a, dx, fs, t, o, kvs, rfl, ha, hl, ht, q⟩ := h
  exact ⟨.ref a, rfl, a, C, dx, fs, .ref t, rfl, ha, c, nn, hl, t, o, kvs, rfl, ht, fun it h1 h2 => q it h1 h2⟩
end
section
variable {X : Cx} {C : Addr} {k j : Nat} {x : Str} {tg e : Expr} {te : TE}
def tFldC (C : Addr) (ta : TE) (f : Str) : TE := fun σ H Q => ta σ H fun y H1 => ∃ a dx fs v, y = .ref a ∧ H1 a = some (.ins C dx fs) ∧ fs.lookup f = some v ∧ Q v H1
theorem pi_ownK (h : HasItK X.prog X.w X.K X.mg X.base C k x) (hr : Room j X.A) (he : PE X e te) (hk : k ≤ j := by decide) : PI X tg e (iKeysM (tFldC C te x)) := by
  refine ⟨fun pins s σ H R I h' => ?_⟩
  refine thn (he.run pins s σ H _ I h') fun u s1 ⟨y, H1, I1, ry, a, dx, fs, v0, ey, ea, el, t, o, kvs, ev, et, q⟩ => ?_
  subst ey ev
  obtain rfl : u = Value.ref a := ry
  obtain ⟨f, fd, F⟩ := h
  obtain ⟨mA, O, _, _, _, _⟩ := ins_get I1.hok ea
  obtain ⟨od, J, _⟩ := O.look
  obtain ⟨mm, hF⟩ := I1.fr
  have sp : spIterK C x s1 [.ref a] H1 (fun v H2 => ∃ it, v = .ref it ∧ H1 it = none ∧ s1.heap.objs.size ≤ it ∧ H2 = upd H1 it (ItKd o t it kvs.length)) E0 := ⟨a, dx, fs, t, o, kvs, rfl, ea, el, et, fun it hn hs => ⟨it, rfl, hn, hs, rfl⟩⟩
  refine PySem.W.owit_iter hF I1.ok.mod.kin J F.m.at_ F.m.fn (wpAny_call (codeAny_mono (F.ok.run X.A X.stack s1 H1 ⟨[.ref a], []⟩ [.ref a] [.ref a] _ E0 (hr.mono hk) I1.env0 (by
    have := F.b s1 [.ref a] I1.kIn rfl
    simpa using this) (.cons rfl .nil) sp) fun r s' hq => ?_))
  cases r with
  | error e => exact passN pins σ H1 s1 e s' I1 hq
  | ok fl =>
    cases fl with
    | ret w =>
      obtain ⟨v, H2, I2, rv, it, rfl, hn, hs, rfl⟩ := I1.after hq
      obtain rfl : w = Value.ref it := rv
      obtain ⟨es, ep, hod, hi⟩ : ∃ es ep, o.data = .dict es ep ∧ s'.heap.IsKeyIter it t 0 kvs.length ep := (I2.hok it _ upd_same).1
      show PySem.W.OwitIt _ _ _ _ _ _
      unfold PySem.W.OwitIt
      refine wpAny_specialOf (name := Str.ofString "__next__") hi.typeIs PySem.F.slot_dict_keyiterator_next.lookup ?_
      have I3 := ItX.inv_drop I2 upd_same
      rw [ItX.dropH_upd hn] at I3
      refine ⟨it, [it], _, _, H1, rfl, I3, turn_keys it hod, hi, fun b hb => ?_, q⟩
      have e : b = it := by simpa using hb
      rw [e]
      have z := ItX.inv_fp (u := ItKd o t it kvs.length) I2 upd_same (Nat.le_trans I1.sz hs)
      rw [ItX.dropH_upd hn] at z
      exact z
    | next => exact False.elim hq
    | brk => exact False.elim hq
    | cont => exact False.elim hq
end
end NW
namespace DL
open PySem PySem.Spec PyProof.Rows L2 NW
theorem src_fC {C : Addr} {f : Str} (i : Nat) : Src (tFldC C (tVar i) f) (sFd C f i) := fun W own H σ ρ R ie h => by
  obtain ⟨d, hx, ns, ys, x, rfl, hl, h⟩ := atV_ex h
  obtain ⟨ks, xs, rfl, h⟩ := asDI_ex h
  obtain ⟨v, h1, h2⟩ := ie.dt i _ hx
  cases h2 with
  | @obj b dx _ fs _ _ i1 i2 i3 i4 =>
    obtain ⟨u, e1, e2⟩ := lk_ok i3 i4 hl
    cases e2 with
    | @dic a kvs _ _ g1 g2 g3 g4 g5 g6 =>
      subst g4
      refine ⟨a, kvs, xs, g1, g2, g3, g5, g6, h, fun H2 hh Q q => ⟨_, h1, b, dx, fs, _, rfl, ?_, e1, q⟩⟩
      rw [hh b fun e => by rw [e] at i1; rcases g1 with g | ⟨o, g⟩ <;> rw [i1] at g <;> cases g]
      exact i1
end DL
namespace DL
open PySem PySem.Spec PyProof.Rows L2 NW
local macro_rules | `(tactic| walk_at "dl1") => `(tactic| simp only [eN, eCall, eMeth, eaN, eaC, eTu, eCB, wRetE, wAsgE, wAsgOE, wIsE, wIndex, wTryM, pickW, handE, wAugD, fLcO, wNotN, iEnV, wRaiseN, fKeys, fKeysO, fSrtS, wIxD, wIxO, wSlA, wInDN, wLenDD, fDc, wFD, sIx, sNo, wIsH, wHF, wMkK, wAsgMK, asDI, dAddT, gP, wAsgFD, fCallD, fMethD, fDict, wCM, asD1, wDropCM, wAsgCM, wItemsO, fSortP, wForK, fLcK, sFd, sV, wExt, dAddT, dBinI, dBinX, wAsgB, fSortI, fSl, wAsgD, wPutD, atD, atDR, asK, wInOD, wLenOD, fCallN, wCallB, wCallK, wCallD, wDropK, frzE, frz1, wFld, wProp, wMeth, wMeth0, wLenI, dInI, dEqI, tyOk, iOwnD, iVk, wIsC, isC, wSelf, wSelfD, atS, wGet, asD, wGetO, wInDD, wDict, wTrev, dTrev, wMkI, wMkI0, wDropI, wAsgIO, frzL1, wSetO, dSumA, dEqT, dIntL, wCallF, flatR, wRaise1, fSrt, wItems, wTry, wAsgX, wDropX, wKd, wXf, wSeq, wAsg, wAsgO, wRet, wIfS, wNx, wPass, wBk, wCt, wDrop, wAug, wApp, wAppPop, wPop, wFor, wFz, wV, wVP, atV, atP, atO, wC, wOp, wCall, wCallN, wCB, aC, aN, wL, wTu, fL, wF, fCat, fList, wTB, wTru, wAnd, wOr, wNot, wAndV, wOrV, wNotV, wIf, wChain, wIsN, wNeg, dNeg, wSl, pN, pP, dSl, wLrev, dLrev, wIsi, wIsi2, iL, iT, iV, iS, iR1, iR2, gN, fLc, wYes, wiL,
  dAdd, dSub, dMul, dMulS, dMulL, dDiv, dMod, dLt, dLe, dGt, dGe, dEq, dNe, eqD, dIn, dNi, dIx, dTru, isNon, dLen, dInt, dAbs, dMax, dMin, dList, dTup, dStr, dIAdd, frzE, frz1, startD, List.map_cons, List.map_nil, List.length_cons, List.length_nil, List.replicate_succ, List.replicate_zero, List.cons_append, List.nil_append, List.append_nil, List.getElem?_cons_zero, List.getElem?_cons_succ, List.set_cons_zero, List.set_cons_succ, Nat.reduceSub, Nat.reduceAdd, if_true, if_false, ite_true, ite_false, reduceIte, Bool.false_eq_true, decide_true, decide_false, Bool.not_true, Bool.not_false, Bool.not_eq_true', decide_eq_true_eq, decide_eq_false_iff_not, isi_dic_bool, isi_dic_int, isi_dic_str, isi_dic_dict, Bool.true_eq_false, isi_int_int, isi_int_bool, isi_bl_int, isi_bl_bool, isi_non_int, isi_non_bool, isi_str_int, isi_str_bool, isi_str_str, isi_lst_list, isi_tup_tuple, Option.some.injEq, exists_eq_left', exists_eq_left, DV.int.injEq, DV.str.injEq, DV.bl.injEq, List.cons.injEq, and_true, true_and])
local macro_rules | `(tactic| walk_at "dl") => `(tactic| try walk_at "dl1")
local macro_rules | `(tactic| walk_at "go") => `(tactic| repeat' (first
  | (intro _)
  | walk_at "dl1"
  | (refine ⟨by first | decide | omega, ?_⟩)
  | split))
theorem fl_opt (n : Nat) (o : Option Str) : flD n (optD o) := by cases o <;> cases n <;> trivial
theorem fl_good (n : Nat) (s : Str) (o : Option Str) : flD (n + 1) (.tup [.str s, optD o]) := fun x hx => by
  rcases List.mem_cons.mp hx with rfl | hx
  · cases n <;> trivial
  · rw [List.mem_singleton.mp hx]; exact fl_opt n o
theorem fl_tstr (n : Nat) (f : Str → Str) (l : List Str) : flD (n + 1) (.tup (l.map fun b => DV.str (f b))) := fun x hx => by
  obtain ⟨s, _, rfl⟩ := List.mem_map.mp hx
  cases n <;> trivial
theorem mk_world {K : PySem.W.Frag} {most : Int} {sh bs : List Str} {ws : List Int} {na se hs0 ks hs : List Str} (P : PlanOk most sh bs ws na se hs0) (hm : most ≤ 12) (p : ks.Perm bs) (t : TreeOk sh ks hs) {R RX : DV → Prop} (h : R (worldD K sh bs.reverse (ws.map .int) na se (fOf ks hs))) : s_PWorld___init__ K [yardD K sh bs.reverse (ws.map .int) na se, tabD ks hs] R RX := by
  obtain ⟨nd1, nd2, nd3⟩ := List.nodup_append.mp P.nd
  have lp := p.length_eq
  have b1 := P.b1
  refine ⟨sh, bs.reverse, ws.map .int, na, se, ks, hs, ixOf ks, rfl, ⟨p.trans (List.reverse_perm bs).symm, p.nodup_iff.mpr nd2, t.l.symm, by omega, tree_of (List.Perm.refl ks) (fun s z w => nd3 s z s (p.mem_iff.mp w) rfl) t, fun x hx => ?_⟩, h⟩
  obtain ⟨k, hk, rfl⟩ := List.mem_iff_getElem.mp hx
  exact (t.t k _ (List.getElem?_eq_getElem hk)).imp_right fun z => List.mem_reverse.mpr (p.mem_iff.mp (List.mem_of_mem_take z))
end DL
namespace NW
open PySem PySem.Spec PyProof.Rows L2
end NW
namespace DL
open PySem PySem.Spec PyProof.Rows L2 NW
section
variable {X : Cx} {e : Expr} {st : Stmt} {td : TE} {sd : SD} {g : TG} {gg : WG} {t : WT} {tt : TT} {wk wv w : WE} {vs : List Nat} {ti : TE → TI} {mk : List Key → List DV → List DV} {wi : WI} {Ex : L2.WX}
def fVals (w : WE) : WF := fun ρ R => w ρ fun d => ∃ ks xs, d = .dic ks xs ∧ R xs
/-- {k: v for x in d}, d locked meanwhile -/
def fDcK (mk : List Key → List DV → List DV) (sd : SD) (gg : WG) (t : WT) (wk wv : WE) (vs : List Nat) : WFD := fun ρ R => sd ρ fun ks xs => (mk ks xs).length ≤ 1000000 ∧ dcL gg t wk wv (mk ks xs) (wiL ρ vs) [] [] R
end
end DL
namespace DL
open PySem PySem.Spec PyProof.Rows L2 NW
local macro_rules | `(tactic| walk_at "dl1") => `(tactic| simp only [fVals, fDcK, eN, eCall, eMeth, eaN, eaC, eTu, eCB, wRetE, wAsgE, wAsgOE, wIsE, wIndex, wTryM, pickW, handE, wAugD, fLcO, wNotN, iEnV, wRaiseN, fKeys, fKeysO, fSrtS, wIxD, wIxO, wSlA, wInDN, wLenDD, fDc, wFD, sIx, sNo, wIsH, wHF, wMkK, wAsgMK, asDI, dAddT, gP, wAsgFD, fCallD, fMethD, fDict, wCM, asD1, wDropCM, wAsgCM, wItemsO, fSortP, wForK, fLcK, sFd, sV, wExt, dAddT, dBinI, dBinX, wAsgB, fSortI, fSl, wAsgD, wPutD, atD, atDR, asK, wInOD, wLenOD, fCallN, wCallB, wCallK, wCallD, wDropK, frzE, frz1, wFld, wProp, wMeth, wMeth0, wLenI, dInI, dEqI, tyOk, iOwnD, iVk, wIsC, isC, wSelf, wSelfD, atS, wGet, asD, wGetO, wInDD, wDict, wTrev, dTrev, wMkI, wMkI0, wDropI, wAsgIO, frzL1, wSetO, dSumA, dEqT, dIntL, wCallF, flatR, wRaise1, fSrt, wItems, wTry, wAsgX, wDropX, wKd, wXf, wSeq, wAsg, wAsgO, wRet, wIfS, wNx, wPass, wBk, wCt, wDrop, wAug, wApp, wAppPop, wPop, wFor, wFz, wV, wVP, atV, atP, atO, wC, wOp, wCall, wCallN, wCB, aC, aN, wL, wTu, fL, wF, fCat, fList, wTB, wTru, wAnd, wOr, wNot, wAndV, wOrV, wNotV, wIf, wChain, wIsN, wNeg, dNeg, wSl, pN, pP, dSl, wLrev, dLrev, wIsi, wIsi2, iL, iT, iV, iS, iR1, iR2, gN, fLc, wYes, wiL,
  dAdd, dSub, dMul, dMulS, dMulL, dDiv, dMod, dLt, dLe, dGt, dGe, dEq, dNe, eqD, dIn, dNi, dIx, dTru, isNon, dLen, dInt, dAbs, dMax, dMin, dList, dTup, dStr, dIAdd, frzE, frz1, startD, List.map_cons, List.map_nil, List.length_cons, List.length_nil, List.replicate_succ, List.replicate_zero, List.cons_append, List.nil_append, List.append_nil, List.getElem?_cons_zero, List.getElem?_cons_succ, List.set_cons_zero, List.set_cons_succ, Nat.reduceSub, Nat.reduceAdd, if_true, if_false, ite_true, ite_false, reduceIte, Bool.false_eq_true, decide_true, decide_false, Bool.not_true, Bool.not_false, Bool.not_eq_true', decide_eq_true_eq, decide_eq_false_iff_not, isi_dic_bool, isi_dic_int, isi_dic_str, isi_dic_dict, Bool.true_eq_false, isi_int_int, isi_int_bool, isi_bl_int, isi_bl_bool, isi_non_int, isi_non_bool, isi_str_int, isi_str_bool, isi_str_str, isi_lst_list, isi_tup_tuple, Option.some.injEq, exists_eq_left', exists_eq_left, DV.int.injEq, DV.str.injEq, DV.bl.injEq, List.cons.injEq, and_true, true_and])
local macro_rules | `(tactic| walk_at "dl") => `(tactic| try walk_at "dl1")
local macro_rules | `(tactic| walk_at "go") => `(tactic| repeat' (first
  | (intro _)
  | walk_at "dl1"
  | (refine ⟨by first | decide | omega, ?_⟩)
  | split))
end DL
namespace DL
open PySem PySem.Spec PyProof.Rows L2 NW
section
variable {sh bs : List Str} {f : Str → Str} {rk : Str → Nat}
theorem srtS_of {l m : List Str} (p : l.Perm m) : srtS l = srtS m := srtS_eq ((srtS_perm _).trans p) (pw_sorted (srtS_pw _))
end
end DL
namespace DL
open PySem PySem.Spec PyProof.Rows L2 NW
local macro_rules | `(tactic| walk_at "dl1") => `(tactic| simp only [fVals, fDcK, eN, eCall, eMeth, eaN, eaC, eTu, eCB, wRetE, wAsgE, wAsgOE, wIsE, wIndex, wTryM, pickW, handE, wAugD, fLcO, wNotN, iEnV, wRaiseN, fKeys, fKeysO, fSrtS, wIxD, wIxO, wSlA, wInDN, wLenDD, fDc, wFD, sIx, sNo, wIsH, wHF, wMkK, wAsgMK, asDI, dAddT, gP, wAsgFD, fCallD, fMethD, fDict, wCM, asD1, wDropCM, wAsgCM, wItemsO, fSortP, wForK, fLcK, sFd, sV, wExt, dAddT, dBinI, dBinX, wAsgB, fSortI, fSl, wAsgD, wPutD, atD, atDR, asK, wInOD, wLenOD, fCallN, wCallB, wCallK, wCallD, wDropK, frzE, frz1, wFld, wProp, wMeth, wMeth0, wLenI, dInI, dEqI, tyOk, iOwnD, iVk, wIsC, isC, wSelf, wSelfD, atS, wGet, asD, wGetO, wInDD, wDict, wTrev, dTrev, wMkI, wMkI0, wDropI, wAsgIO, frzL1, wSetO, dSumA, dEqT, dIntL, wCallF, flatR, wRaise1, fSrt, wItems, wTry, wAsgX, wDropX, wKd, wXf, wSeq, wAsg, wAsgO, wRet, wIfS, wNx, wPass, wBk, wCt, wDrop, wAug, wApp, wAppPop, wPop, wFor, wFz, wV, wVP, atV, atP, atO, wC, wOp, wCall, wCallN, wCB, aC, aN, wL, wTu, fL, wF, fCat, fList, wTB, wTru, wAnd, wOr, wNot, wAndV, wOrV, wNotV, wIf, wChain, wIsN, wNeg, dNeg, wSl, pN, pP, dSl, wLrev, dLrev, wIsi, wIsi2, iL, iT, iV, iS, iR1, iR2, gN, fLc, wYes, wiL,
  dAdd, dSub, dMul, dMulS, dMulL, dDiv, dMod, dLt, dLe, dGt, dGe, dEq, dNe, eqD, dIn, dNi, dIx, dTru, isNon, dLen, dInt, dAbs, dMax, dMin, dList, dTup, dStr, dIAdd, frzE, frz1, startD, List.map_cons, List.map_nil, List.length_cons, List.length_nil, List.replicate_succ, List.replicate_zero, List.cons_append, List.nil_append, List.append_nil, List.getElem?_cons_zero, List.getElem?_cons_succ, List.set_cons_zero, List.set_cons_succ, Nat.reduceSub, Nat.reduceAdd, if_true, if_false, ite_true, ite_false, reduceIte, Bool.false_eq_true, decide_true, decide_false, Bool.not_true, Bool.not_false, Bool.not_eq_true', decide_eq_true_eq, decide_eq_false_iff_not, isi_dic_bool, isi_dic_int, isi_dic_str, isi_dic_dict, Bool.true_eq_false, isi_int_int, isi_int_bool, isi_bl_int, isi_bl_bool, isi_non_int, isi_non_bool, isi_str_int, isi_str_bool, isi_str_str, isi_lst_list, isi_tup_tuple, Option.some.injEq, exists_eq_left', exists_eq_left, DV.int.injEq, DV.str.injEq, DV.bl.injEq, List.cons.injEq, and_true, true_and])
local macro_rules | `(tactic| walk_at "dl") => `(tactic| try walk_at "dl1")
local macro_rules | `(tactic| walk_at "go") => `(tactic| repeat' (first
  | (intro _)
  | walk_at "dl1"
  | (refine ⟨by first | decide | omega, ?_⟩)
  | split))
def w_inside19 : WS :=
  (wRet (wF (fLc (iL (wF (fSrtS (wV 0)))) (gN 2) (wTB (wOp dEq (wIxD (wV 0) (wV 2)) (wVP 1))) (wV 2) [2])))
def s_inside19 : DS1 := fun ds R => ∃ ks hs h, ds = [tabD ks hs, .str h] ∧ ks.length = hs.length ∧ ks.length < 64 ∧ R (.lst (((srtS ks).filter fun b => decide (fOf ks hs b = h)).map .str))
theorem l_inside19 : ∀ ds R, s_inside19 ds R → ds.length = 2 := by
  rintro ds R ⟨_, _, _, rfl, _⟩
  rfl
theorem o_inside19 : Owes 3 (s_inside19) (w_inside19) := by
  rintro ds R ⟨ks, hs, h, rfl, l, l64, hr⟩
  unfold w_inside19
  walk_at "dl"
  refine ⟨_, .inr (.inr ⟨⟨_, rfl⟩, l64⟩), fun ys p q => ⟨_, rfl, ?_⟩⟩
  rw [srtS_eq p q, List.length_map, srtS_len]
  refine ⟨by omega, ?_⟩
  refine lcL_ind (fun i acc => acc = ((((srtS ks).take i).filter fun b => decide (fOf ks hs b = h)).map .str)) rfl ?_ ?_
  · rintro i x acc K' hx rfl hK
    rw [List.getElem?_map] at hx
    cases eb : (srtS ks)[i]? with
    | none => rw [eb] at hx; cases hx
    | some b =>
      rw [eb] at hx
      obtain rfl := (Option.some.inj hx).symm
      have hb : b ∈ ks := srtS_mem.mp (List.mem_of_getElem? eb)
      walk_at "dl"
      refine ⟨_, _, rfl, _, (lk_fOf l hb).1, ?_⟩
      rw [take_snoc eb, List.filter_append, List.map_append] at hK
      dsimp only
      by_cases e : fOf ks hs b = h
      · rw [if_pos e]
        exact hK _ (by simp [e])
      · rw [if_neg e]
        exact hK _ (by simp [e])
  rintro acc rfl
  rw [List.length_map, List.take_length]
  exact hr
end DL
namespace DL
open PySem PySem.Spec PyProof.Rows L2 NW
local macro_rules | `(tactic| walk_at "dl1") => `(tactic| simp only [fVals, fDcK, eN, eCall, eMeth, eaN, eaC, eTu, eCB, wRetE, wAsgE, wAsgOE, wIsE, wIndex, wTryM, pickW, handE, wAugD, fLcO, wNotN, iEnV, wRaiseN, fKeys, fKeysO, fSrtS, wIxD, wIxO, wSlA, wInDN, wLenDD, fDc, wFD, sIx, sNo, wIsH, wHF, wMkK, wAsgMK, asDI, dAddT, gP, wAsgFD, fCallD, fMethD, fDict, wCM, asD1, wDropCM, wAsgCM, wItemsO, fSortP, wForK, fLcK, sFd, sV, wExt, dAddT, dBinI, dBinX, wAsgB, fSortI, fSl, wAsgD, wPutD, atD, atDR, asK, wInOD, wLenOD, fCallN, wCallB, wCallK, wCallD, wDropK, frzE, frz1, wFld, wProp, wMeth, wMeth0, wLenI, dInI, dEqI, tyOk, iOwnD, iVk, wIsC, isC, wSelf, wSelfD, atS, wGet, asD, wGetO, wInDD, wDict, wTrev, dTrev, wMkI, wMkI0, wDropI, wAsgIO, frzL1, wSetO, dSumA, dEqT, dIntL, wCallF, flatR, wRaise1, fSrt, wItems, wTry, wAsgX, wDropX, wKd, wXf, wSeq, wAsg, wAsgO, wRet, wIfS, wNx, wPass, wBk, wCt, wDrop, wAug, wApp, wAppPop, wPop, wFor, wFz, wV, wVP, atV, atP, atO, wC, wOp, wCall, wCallN, wCB, aC, aN, wL, wTu, fL, wF, fCat, fList, wTB, wTru, wAnd, wOr, wNot, wAndV, wOrV, wNotV, wIf, wChain, wIsN, wNeg, dNeg, wSl, pN, pP, dSl, wLrev, dLrev, wIsi, wIsi2, iL, iT, iV, iS, iR1, iR2, gN, fLc, wYes, wiL,
  dAdd, dSub, dMul, dMulS, dMulL, dDiv, dMod, dLt, dLe, dGt, dGe, dEq, dNe, eqD, dIn, dNi, dIx, dTru, isNon, dLen, dInt, dAbs, dMax, dMin, dList, dTup, dStr, dIAdd, frzE, frz1, startD, List.map_cons, List.map_nil, List.length_cons, List.length_nil, List.replicate_succ, List.replicate_zero, List.cons_append, List.nil_append, List.append_nil, List.getElem?_cons_zero, List.getElem?_cons_succ, List.set_cons_zero, List.set_cons_succ, Nat.reduceSub, Nat.reduceAdd, if_true, if_false, ite_true, ite_false, reduceIte, Bool.false_eq_true, decide_true, decide_false, Bool.not_true, Bool.not_false, Bool.not_eq_true', decide_eq_true_eq, decide_eq_false_iff_not, isi_dic_bool, isi_dic_int, isi_dic_str, isi_dic_dict, Bool.true_eq_false, isi_int_int, isi_int_bool, isi_bl_int, isi_bl_bool, isi_non_int, isi_non_bool, isi_str_int, isi_str_bool, isi_str_str, isi_lst_list, isi_tup_tuple, Option.some.injEq, exists_eq_left', exists_eq_left, DV.int.injEq, DV.str.injEq, DV.bl.injEq, List.cons.injEq, and_true, true_and])
local macro_rules | `(tactic| walk_at "dl") => `(tactic| try walk_at "dl1")
local macro_rules | `(tactic| walk_at "go") => `(tactic| repeat' (first
  | (intro _)
  | walk_at "dl1"
  | (refine ⟨by first | decide | omega, ?_⟩)
  | split))
end DL
namespace DL
open PySem PySem.Spec PyProof.Rows L2 NW
abbrev DSFT := List DV → (DV → Prop) → (List DV → List DV → Prop) → (DV → Prop) → Prop
def FinFT (W : Wd) (H : Hp) (R : List DV → List DV → Prop) (Q : VK) : Prop := ∀ (pre xs : List DV) (ps us : List V) (a t : Addr) (H1 : Hp), R pre xs → Kp W.st H H1 → W.Ok H1 → Iss W H1 ps pre → Iss W H1 us xs → ps.length ≤ 1000 → us.length ≤ 1000000 → H1 a = none → H1 t = none → a ≠ t → Q (.ref t) (upd (upd H1 a (.lst us)) t (.tup (ps ++ [.ref a])))
def dspFT (s : DSFT) : Sp := fun vs H Q E => ∃ W ds R RF RX, W.Ok H ∧ Iss W H vs ds ∧ s ds R RF RX ∧ Fin W H R Q ∧ FinFT W H RF Q ∧ FinX W H RX E
def sT (s : DSFT) : DS2 := fun ds R RX => s ds R (fun pre xs => R (.tup (pre ++ [.lst xs]))) RX
theorem FinFT.mono {W : Wd} {H H' : Hp} {R : List DV → List DV → Prop} {Q : VK} (f : FinFT W H R Q) (k : Kp W.st H H') : FinFT W H' R Q := fun pre xs ps us a t H1 r k1 => f pre xs ps us a t H1 r (k.trans k1)
/-- such a tuple is data -/
theorem ft_is {W : Wd} {H1 : Hp} {pre xs : List DV} {ps us : List V} {a t : Addr} (o : W.Ok H1) (i1 : Iss W H1 ps pre) (i2 : Iss W H1 us xs) (l1 : ps.length ≤ 1000) (l2 : us.length ≤ 1000000) (ha : H1 a = none) (ht : H1 t = none) (ne : a ≠ t) :
    Same H1 (upd (upd H1 a (.lst us)) t (.tup (ps ++ [.ref a]))) ∧ Is W (upd (upd H1 a (.lst us)) t (.tup (ps ++ [.ref a]))) (.ref t) (.tup (pre ++ [.lst xs])) := by
  have s1 := same_new (o := .lst us) ha
  have ht2 : (upd H1 a (.lst us)) t = none := by rw [upd_ne ne.symm]; exact ht
  have s2 := same_new (o := .tup (ps ++ [.ref a])) ht2
  have s := s1.trans s2
  refine ⟨s, .tup upd_same ((o.same s1).fresh ht2) (by rw [List.length_append, List.length_singleton]; omega) ?_⟩
  exact (i1.mono (Kp.same s)).app (.cons (.lst (s2 _ _ upd_same) (o.fresh ha) l2 (i2.mono (Kp.same s))) .nil)
theorem Fin.ft {W : Wd} {H : Hp} {R : DV → Prop} {Q : VK} (f : Fin W H R Q) : FinFT W H (fun pre xs => R (.tup (pre ++ [.lst xs]))) Q := fun pre xs ps us a t H1 r k o i1 i2 l1 l2 ha ht ne => by
  obtain ⟨s, i⟩ := ft_is o i1 i2 l1 l2 ha ht ne
  exact f _ _ _ r (k.trans (Kp.same s)) (o.same s) i
theorem dspFT_weak {s : DSFT} : ∀ vs H Q E, dspX (sT s) vs H Q E → dspFT s vs H Q E := fun vs H Q E q => by
  obtain ⟨W, ds, R, RX, o, i, z, f, g⟩ := q
  exact ⟨W, ds, R, _, RX, o, i, z, f, f.ft, g⟩
theorem len_dspFT {s : DSFT} {n : Nat} (h : ∀ ds R RF RX, s ds R RF RX → ds.length = n) : ∀ vs H Q E, dspFT s vs H Q E → vs.length = n := fun vs H Q E q => by
  obtain ⟨W, ds, R, RF, RX, o, i, z, _⟩ := q
  rw [i.len]; exact h ds R RF RX z
/-- the def's own side: its last statement returns (a text, a name) -/
def OwesFT (n : Nat) (s : DSFT) (w : WS) (i : Nat) (tx : Str) : Prop := ∀ ds R RF RX, s ds R RF RX → w { nx := fun ρ => (∃ xs, ρ[i]? = some (.ow xs) ∧ RF [.str tx] xs) ∨ (∃ d, ρ[i]? = some (.dt d) ∧ R (.tup [.str tx, d])), rt := R, xc := fun e _ => RX e } (startD n ds)
theorem dl_startFT {s : DSFT} {w : WS} {i : Nat} {tx : Str} {N : List Str} (o : OwesFT N.length s w i tx) (vs : List V) (H : Hp) (Q : VK) (E : XK) (h : dspFT s vs H Q E) :
    tSeq (liftS (fun cls d _ H => E cls d H) w) (tRet (tTup (tCons (tC (.str tx)) (tCons (tVar i) tNil)))) { nx := fun _ H' => Q .non H', rt := Q } (L2.start N vs) H := by
  obtain ⟨W, ds, R, RF, RX, ok, ii, hs, g, gf, gx⟩ := h
  refine ⟨⟨W.st, W.hid, H⟩, fun _ => none, _, _, ⟨ok.s, Kp.refl _ _, by rw [w_none]; exact ok, by rw [w_none]; exact isE_start ii, (fun _ _ z => nomatch z), (fun _ _ _ z => nomatch z)⟩, o ds R RF RX hs, ⟨fun own ρ σ H' r c => ?_, fun _ _ _ _ z => z.elim, fun _ _ _ _ z => z.elim, fun d v H' r k o i => g d v H' r k o i, fun own ρ σ H' C ns xs dd fs r c h1 h2 h3 h4 => ?_⟩⟩
  · rcases r with ⟨xs, e, r⟩ | ⟨d, e, r⟩
    · obtain ⟨p, us, g1, g2, g3, l1, i1⟩ := c.e.ow i xs e
      have hp0 : H p = none := (c.o i p g1).1
      have np : W.st ≠ some p := (c.ok.h p (.inr ⟨i, g1⟩)).2
      refine ⟨.ref p, g2, by show 2 ≤ sizeLine; decide, fun t ht => ?_⟩
      have ne : p ≠ t := fun z => by rw [← z, g3] at ht; cases ht
      have okm : W.Ok (mns H' p) := ⟨StoW.mns ok.s c.k c.ok0.s hp0 np, fun a ha => by
        obtain ⟨⟨o, ho⟩, na⟩ := ok.h a ha
        exact ⟨⟨o, by rw [mns_ne fun e => by rw [e, hp0] at ho; cases ho]; exact c.k.o ho na⟩, na⟩⟩
      have im : Iss W (mns H' p) us xs := Iss.tr (W := (⟨W.st, W.hid, H⟩ : Bs).w own) (W' := W) rfl (fun b o k z => ⟨⟨k.1, fun w => k.2 (.inl w)⟩, by rw [mns_ne fun e => k.2 (.inr ⟨i, by rw [e]; exact g1⟩)]; exact z⟩) i1
      have z := gf [.str tx] xs [.str tx] us p t (mns H' p) r (Kp.mns c.k hp0 np) okm (.cons (.str _) .nil) im (Nat.le_trans (Nat.le_refl 1) (by decide)) l1 mns_same (by rw [mns_ne ne.symm]; exact ht) ne
      rw [mns_upd g3] at z
      exact z
    · obtain ⟨v, h1, h2⟩ := c.e.dt i d e
      refine ⟨v, h1, by show 2 ≤ sizeLine; decide, fun t ht => ?_⟩
      have s1 := same_new (o := .tup [V.str tx, v]) ht
      have c1 := c.mono (Kp.same s1) (c.ok.same s1)
      exact g (.tup [.str tx, d]) (.ref t) _ r c1.k c1.ok0 (.tup upd_same (c.ok0.fresh ht) (by show 2 ≤ 1000000; decide) (.cons (.str _) (.cons (h2.mono (Kp.same s1)).w0 .nil)))
  · exact gx C ns xs dd H' fs r c.k c.ok0 h1 ⟨h2.1, fun z => h2.2 (.inl z)⟩ h3 h4.w0
section
variable {Ex : L2.WX} {X : Cx} {e c : Expr} {st st3 : Stmt} {bs ss : List Stmt} {w : WE} {r : WA} {pos : Pos} {K : PySem.W.Frag}
/-- x = f(..), a list of one's own, or raised -/
def wAsgXO (i : Nat) (s : DSF) (r : WA) : WS := fun E ρ => r ρ fun ds => s ds (fun xs => E.nx (ρ.set i (.ow xs))) fun x => E.xc x ρ
theorem dasgXO {s : DSF} (i : Nat) (h : ∀ te, PE X e te → PS X st (tAsg te (gName i))) (he : PE X e (tCallS (dspXF s) (L2.WE Ex) (liftA r))) : PS X st (liftS Ex (wAsgXO i s r)) := ps_weak (h _ he) fun D σ H q => by
  obtain ⟨B, own, ρ, E, c, h, d⟩ := q
  refine ⟨B.w own, own, ρ, _, c.ok, c.e, h, fun ds vs H1 r1 k1 o1 i1 => ⟨B.w own, ds, _, _, o1, i1, r1, fun xs us q H2 r2 k2 o2 i2 l2 hq => ?_, fx_of c d k1⟩⟩
  exact d.nx _ _ _ _ r2 ((c.mono (k1.trans k2) o2).setO i hq l2 i2)
/-- x.reverse() -/
def wRev (i : Nat) : WS := fun E ρ => atO (fun xs => E.nx (ρ.set i (.ow xs.reverse))) ρ[i]?
theorem drev (i : Nat) (h : PS X st (tDrop (tBM0 K "list" rReverse (tVar i)))) : PS X st (liftS Ex (wRev i)) := ps_weak h fun D σ H q => by
  obtain ⟨B, own, ρ, E, c, hx, d⟩ := q
  obtain ⟨xs, hx, h1⟩ := atO_ex hx
  obtain ⟨a, vs, g1, g2, g3, g4, g5⟩ := c.e.ow i xs hx
  refine ⟨_, g2, .inl ⟨rfl, vs, SqL.of g3⟩, a, vs, rfl, rfl, g3, ?_⟩
  exact d.nx _ _ _ _ h1 (c.updO i g1 hx (by rw [List.length_reverse]; exact g4) g5.rev)
/-- x = f(..); if t: return; y = x[1], the list that x holds then y's own -/
def wTake (i j : Nat) (s : DSFT) (r : WA) (t : WT) (ret rest : WS) : WS := fun E ρ => r ρ fun ds => s ds
  (fun d => t (ρ.set i (.dt d)) fun b => b = true ∧ ret { E with nx := fun _ => False } (ρ.set i (.dt d)))
  (fun pre xs => (pre.length = 1 ∧ i < ρ.length) ∧ t (ρ.set i (.dt (.tup (pre ++ [.lst xs])))) fun b => if b = true then ret { E with nx := fun _ => False } (ρ.set i (.dt (.tup (pre ++ [.lst xs])))) else ∀ tt : Addr, rest E ((ρ.set i (.dt (.cls tt))).set j (.ow xs)))
  (fun _ => False)
theorem dtake {s : DSFT} {t : WT} {ret rest : WS} (i j : Nat) (h1 : PS X st (tAsg (tCall (dspFT s) [] E0 (liftA r)) (gName i))) (ht : PT X c (liftT t)) (ha : PSs X bs (liftS Ex ret)) (h3 : PS X st3 (tAsg (tOp (aIx K) (tVar i) (tC (.int 1))) (gName j))) (hr : PSs X ss (liftS Ex rest)) :
    PSs X (st :: .If c bs [] pos :: st3 :: ss) (liftS Ex (wTake i j s r t ret rest)) := pss_weak (pss_cons h1 (pss_cons (ps_if ht ha pss_nil) (pss_cons h3 hr))) fun D σ H q => by
  obtain ⟨B, own, ρ, E, cc, h, d⟩ := q
  have lr : σ.length = ρ.length := cc.e.len
  refine ⟨B.w own, own, ρ, _, cc.ok, cc.e, h, fun ds vs H1 r1 k1 o1 i1 => ?_⟩
  show dspFT s (vs ++ []) H1 _ E0
  rw [List.append_nil]
  have dF : ∀ (D' : Ends), D'.rt = D.rt → D'.bk = D.bk → D'.ct = D.ct → Dl B { E with nx := fun _ => False } D' Ex := fun D' e1 e2 e3 => ⟨fun _ _ _ _ z => z.elim, by rw [e2]; exact d.bk, by rw [e3]; exact d.ct, by rw [e1]; exact d.rt, d.xc⟩
  refine ⟨B.w own, ds, _, _, _, o1, i1, r1, fun dd v H2 r2 k2 o2 i2 => ?_, fun pre xs ps us a tt H2 r2 k2 o2 j1 j2 l1 l2 hna hnt ne => ?_, fun _ _ _ _ _ _ z => z.elim⟩
  · have c2 := (cc.mono (k1.trans k2) o2).set i i2
    exact ⟨B.w (cut own i), _, _, _, c2.ok, c2.e, r2, fun b H3 r3 k3 o3 => by
      obtain ⟨rfl, r3⟩ := r3
      exact ⟨B, _, _, _, c2.mono k3 o3, r3, dF _ rfl rfl rfl⟩⟩
  · obtain ⟨⟨lp, li⟩, r2⟩ := r2
    obtain ⟨sm, it⟩ := ft_is o2 j1 j2 l1 l2 hna hnt ne
    have c1 := cc.mono (k1.trans k2) o2
    have c2 := (c1.mono (Kp.same sm) (o2.same sm)).set i it
    refine ⟨B.w (cut own i), _, _, _, c2.ok, c2.e, r2, fun b H3 r3 k3 o3 => ?_⟩
    cases b with
    | true => exact ⟨B, _, _, _, c2.mono k3 o3, r3, dF _ rfl rfl rfl⟩
    | false =>
      have r3 := r3
      rw [if_neg (by decide)] at r3
      have na : B.st ≠ some a := (o2.fresh hna).1
      have nt : B.st ≠ some tt := (o2.fresh hnt).1
      have ha2 : (upd (upd H2 a (.lst us)) tt (.tup (ps ++ [.ref a]))) a = some (.lst us) := by rw [upd_ne ne]; exact upd_same
      have ht2 : (upd (upd H2 a (.lst us)) tt (.tup (ps ++ [.ref a]))) tt = some (.tup (ps ++ [.ref a])) := upd_same
      have ha3 : H3 a = some (.lst us) := Kp.o k3 ha2 na
      have ht3 : H3 tt = some (.tup (ps ++ [.ref a])) := Kp.o k3 ht2 nt
      have kk : Kp B.st H2 (mns H3 a) := Kp.mns ((Kp.same sm).trans k3) hna na
      have om : (B.w own).Ok (mns H3 a) := by
        have z := (c2.mono k3 o3).ok0.s
        refine ⟨StoW.mns (H1 := H2) o2.s ((Kp.same sm).trans k3) z hna na, fun b hb => ?_⟩
        obtain ⟨⟨o, ho⟩, nb⟩ := o2.h b hb
        exact ⟨⟨o, Kp.o kk ho nb⟩, nb⟩
      have cm := (c1.mono kk om).set i (v := .ref tt) (d := .cls tt) .cls
      have im : Iss (B.w (cut own i)) (mns H3 a) us xs := (j2.mono kk).cut
      have cf := cm.setO j mns_same l2 im
      rw [mns_upd ha3] at cf
      have lps : ps.length = 1 := by rw [j1.len]; exact lp
      refine ⟨.ref tt, List.getElem?_set_self (by rw [lr]; exact li), ?_⟩
      refine ix_t (SqT.of ht3) (v := .ref a) (atI_nat (j := 1) (by rw [List.getElem?_append_right (by omega), lps]; rfl)) ?_
      exact ⟨B, _, _, E, cf, r3 tt, d⟩
end
end DL
namespace DL
open PySem PySem.Spec PyProof.Rows L2 NW
local macro_rules | `(tactic| walk_at "dl1") => `(tactic| simp only [wTake, wAsgXO, wRev, fVals, fDcK, eN, eCall, eMeth, eaN, eaC, eTu, eCB, wRetE, wAsgE, wAsgOE, wIsE, wIndex, wTryM, pickW, handE, wAugD, fLcO, wNotN, iEnV, wRaiseN, fKeys, fKeysO, fSrtS, wIxD, wIxO, wSlA, wInDN, wLenDD, fDc, wFD, sIx, sNo, wIsH, wHF, wMkK, wAsgMK, asDI, dAddT, gP, wAsgFD, fCallD, fMethD, fDict, wCM, asD1, wDropCM, wAsgCM, wItemsO, fSortP, wForK, fLcK, sFd, sV, wExt, dAddT, dBinI, dBinX, wAsgB, fSortI, fSl, wAsgD, wPutD, atD, atDR, asK, wInOD, wLenOD, fCallN, wCallB, wCallK, wCallD, wDropK, frzE, frz1, wFld, wProp, wMeth, wMeth0, wLenI, dInI, dEqI, tyOk, iOwnD, iVk, wIsC, isC, wSelf, wSelfD, atS, wGet, asD, wGetO, wInDD, wDict, wTrev, dTrev, wMkI, wMkI0, wDropI, wAsgIO, frzL1, wSetO, dSumA, dEqT, dIntL, wCallF, flatR, wRaise1, fSrt, wItems, wTry, wAsgX, wDropX, wKd, wXf, wSeq, wAsg, wAsgO, wRet, wIfS, wNx, wPass, wBk, wCt, wDrop, wAug, wApp, wAppPop, wPop, wFor, wFz, wV, wVP, atV, atP, atO, wC, wOp, wCall, wCallN, wCB, aC, aN, wL, wTu, fL, wF, fCat, fList, wTB, wTru, wAnd, wOr, wNot, wAndV, wOrV, wNotV, wIf, wChain, wIsN, wNeg, dNeg, wSl, pN, pP, dSl, wLrev, dLrev, wIsi, wIsi2, iL, iT, iV, iS, iR1, iR2, gN, fLc, wYes, wiL,
  dAdd, dSub, dMul, dMulS, dMulL, dDiv, dMod, dLt, dLe, dGt, dGe, dEq, dNe, eqD, dIn, dNi, dIx, dTru, isNon, dLen, dInt, dAbs, dMax, dMin, dList, dTup, dStr, dIAdd, frzE, frz1, startD, List.map_cons, List.map_nil, List.length_cons, List.length_nil, List.replicate_succ, List.replicate_zero, List.cons_append, List.nil_append, List.append_nil, List.getElem?_cons_zero, List.getElem?_cons_succ, List.set_cons_zero, List.set_cons_succ, Nat.reduceSub, Nat.reduceAdd, if_true, if_false, ite_true, ite_false, reduceIte, Bool.false_eq_true, decide_true, decide_false, Bool.not_true, Bool.not_false, Bool.not_eq_true', decide_eq_true_eq, decide_eq_false_iff_not, isi_dic_bool, isi_dic_int, isi_dic_str, isi_dic_dict, Bool.true_eq_false, isi_int_int, isi_int_bool, isi_bl_int, isi_bl_bool, isi_non_int, isi_non_bool, isi_str_int, isi_str_bool, isi_str_str, isi_lst_list, isi_tup_tuple, Option.some.injEq, exists_eq_left', exists_eq_left, DV.int.injEq, DV.str.injEq, DV.bl.injEq, List.cons.injEq, and_true, true_and])
local macro_rules | `(tactic| walk_at "dl") => `(tactic| try walk_at "dl1")
local macro_rules | `(tactic| walk_at "go") => `(tactic| repeat' (first
  | (intro _)
  | walk_at "dl1"
  | (refine ⟨by first | decide | omega, ?_⟩)
  | split))
def w_Pheld (K : PySem.W.Frag) : WS :=
  (wDropX (s_Prequire_holder K) (aC (wProp (He.ga K "World") (s_PWorld_yard K) (wV 0)) (aC (wV 1) aN)))
def f_Pheld (K : PySem.W.Frag) : WF :=
  (fLcK mkK (sFd (He.ga K "World") "_table" 0) (gN 2) (wTB (wOp dEq (wMeth (He.ga K "World") "holder" (sNo (s_PWorld_holder K)) (wV 0) (aC (wV 2) aN)) (wVP 1))) (wV 2) [2])
def w_Pall_held (K : PySem.W.Frag) : WS :=
  (wDropX (s_Prequire_holder K) (aC (wProp (He.ga K "World") (s_PWorld_yard K) (wV 0)) (aC (wV 1) aN)))
def f_Pall_held (K : PySem.W.Frag) : WF :=
  (fLcK mkK (sFd (He.ga K "World") "_table" 0) (gN 2) (wTB (wOp dIn (wVP 1) (wCallN (s_Pchain K) (aC (wV 0) (aC (wV 2) aN))))) (wV 2) [2])
def s_Pheld (K : PySem.W.Frag) : DSF := fun ds R RX => ∃ sh bs ws na se f rk h, ds = [worldD K sh bs ws na se f, .str h] ∧ (Tree sh bs f rk ∧ bs.length ≤ 1000) ∧ ((h ∈ sh ∨ h ∈ bs) → R (((srtS bs).filter fun b => decide (f b = h)).map .str)) ∧ (¬ (h ∈ sh ∨ h ∈ bs) → RX (.err (He.ga K "Unknown") ["name"] [.str h]))
theorem l_Pheld (K : PySem.W.Frag) : ∀ ds R RX, s_Pheld K ds R RX → ds.length = 2 := by
  rintro ds R RX ⟨_, _, _, _, _, _, _, _, rfl, _⟩
  rfl
theorem o_Pheld (K : PySem.W.Frag) : OwesXF 3 (s_Pheld K) (w_Pheld K) (f_Pheld K) := by
  rintro ds R RX ⟨sh, bs, ws, na, se, f, rk, h, rfl, ⟨T, lb⟩, h1, h2⟩
  unfold w_Pheld f_Pheld
  walk_at "dl"
  refine ⟨⟨_, _, rfl⟩, sh, bs, _, na, se, f, rfl, sh, bs, _, na, se, h, rfl, fun hx => ?_, h2⟩
  refine ⟨_, _, _, rfl, rfl, ?_⟩
  dsimp only
  unfold mkK
  rw [fKeys_str, List.length_map, srtS_len]
  refine ⟨by omega, ?_⟩
  refine lcL_ind (fun i acc => acc = ((((srtS bs).take i).filter fun b => decide (f b = h)).map .str)) rfl ?_ ?_
  · rintro i x acc K' hx rfl hK
    rw [List.getElem?_map] at hx
    cases eb : (srtS bs)[i]? with
    | none => rw [eb] at hx; cases hx
    | some b =>
      rw [eb] at hx
      obtain rfl := (Option.some.inj hx).symm
      have hb : b ∈ bs := srtS_mem.mp (List.mem_of_getElem? eb)
      walk_at "dl"
      rw [take_snoc eb, List.filter_append, List.map_append] at hK
      refine ⟨w_obj K sh bs ws na se f (by decide +kernel), sh, bs, ws, na, se, f, b, rfl, fun _ => ?_, fun z => absurd hb z⟩
      dsimp only
      by_cases e : f b = h
      · rw [if_pos e]
        exact hK _ (by simp [e])
      · rw [if_neg e]
        exact hK _ (by simp [e])
  rintro acc rfl
  rw [List.length_map, List.take_length]
  exact h1 hx
def s_Pall_held (K : PySem.W.Frag) : DSF := fun ds R RX => ∃ sh bs ws na se f rk h, ds = [worldD K sh bs ws na se f, .str h] ∧ (Tree sh bs f rk ∧ bs.length ≤ 1000) ∧ ((h ∈ sh ∨ h ∈ bs) → R (((srtS bs).filter fun b => decide (h ∈ chO bs f b)).map .str)) ∧ (¬ (h ∈ sh ∨ h ∈ bs) → RX (.err (He.ga K "Unknown") ["name"] [.str h]))
theorem l_Pall_held (K : PySem.W.Frag) : ∀ ds R RX, s_Pall_held K ds R RX → ds.length = 2 := by
  rintro ds R RX ⟨_, _, _, _, _, _, _, _, rfl, _⟩
  rfl
theorem o_Pall_held (K : PySem.W.Frag) : OwesXF 3 (s_Pall_held K) (w_Pall_held K) (f_Pall_held K) := by
  rintro ds R RX ⟨sh, bs, ws, na, se, f, rk, h, rfl, ⟨T, lb⟩, h1, h2⟩
  unfold w_Pall_held f_Pall_held
  walk_at "dl"
  refine ⟨⟨_, _, rfl⟩, sh, bs, _, na, se, f, rfl, sh, bs, _, na, se, h, rfl, fun hx => ?_, h2⟩
  refine ⟨_, _, _, rfl, rfl, ?_⟩
  dsimp only
  unfold mkK
  rw [fKeys_str, List.length_map, srtS_len]
  refine ⟨by omega, ?_⟩
  refine lcL_ind (fun i acc => acc = ((((srtS bs).take i).filter fun b => decide (h ∈ chO bs f b)).map .str)) rfl ?_ ?_
  · rintro i x acc K' hx rfl hK
    rw [List.getElem?_map] at hx
    cases eb : (srtS bs)[i]? with
    | none => rw [eb] at hx; cases hx
    | some b =>
      rw [eb] at hx
      obtain rfl := (Option.some.inj hx).symm
      have hb : b ∈ bs := srtS_mem.mp (List.mem_of_getElem? eb)
      walk_at "dl"
      rw [take_snoc eb, List.filter_append, List.map_append] at hK
      refine ⟨sh, bs, ws, na, se, f, rk, b, rfl, T, lb, fun _ => ⟨_, rfl, ?_⟩, fun z => absurd hb z⟩
      dsimp only
      by_cases e : h ∈ chO bs f b
      · rw [if_pos (decide_eq_true e)]
        exact hK _ (by simp [e])
      · rw [if_neg (by rw [decide_eq_false e]; decide)]
        exact hK _ (by simp [e])
  rintro acc rfl
  rw [List.length_map, List.take_length]
  exact h1 hx
def w_Pis_within (K : PySem.W.Frag) : WS :=
  (wSeq (wAsgX 3 (s_Pchain K) (aC (wV 0) (aC (wV 1) aN)))
    (wSeq (wDropX (s_Prequire_holder K) (aC (wProp (He.ga K "World") (s_PWorld_yard K) (wV 0)) (aC (wV 2) aN)))
    (wRet (wOp dIn (wVP 2) (wVP 3)))))
def s_Pis_within (K : PySem.W.Frag) : DS2 := fun ds R RX => ∃ sh bs ws na se f rk b h, ds = [worldD K sh bs ws na se f, .str b, .str h] ∧ (Tree sh bs f rk ∧ bs.length ≤ 1000) ∧ (b ∈ bs → (h ∈ sh ∨ h ∈ bs) → R (.bl (decide (h ∈ chO bs f b)))) ∧ (b ∉ bs → RX (.err (He.ga K "Unknown") ["name"] [.str b])) ∧ (b ∈ bs → ¬ (h ∈ sh ∨ h ∈ bs) → RX (.err (He.ga K "Unknown") ["name"] [.str h]))
theorem l_Pis_within (K : PySem.W.Frag) : ∀ ds R RX, s_Pis_within K ds R RX → ds.length = 3 := by
  rintro ds R RX ⟨_, _, _, _, _, _, _, _, _, rfl, _⟩
  rfl
theorem o_Pis_within (K : PySem.W.Frag) : OwesX 4 (s_Pis_within K) (w_Pis_within K) := by
  rintro ds R RX ⟨sh, bs, ws, na, se, f, rk, b, h, rfl, ⟨T, lb⟩, h1, h2, h3⟩
  unfold w_Pis_within
  walk_at "dl"
  refine ⟨sh, bs, ws, na, se, f, rk, b, rfl, T, lb, fun hb => ?_, h2⟩
  refine ⟨⟨_, _, rfl⟩, sh, bs, _, na, se, f, rfl, sh, bs, _, na, se, h, rfl, fun hx => ⟨_, rfl, h1 hb hx⟩, fun hx => h3 hb hx⟩
end DL
namespace DL
open PySem PySem.Spec PyProof.Rows L2 NW
local macro_rules | `(tactic| walk_at "dl1") => `(tactic| simp only [wTake, wAsgXO, wRev, fVals, fDcK, eN, eCall, eMeth, eaN, eaC, eTu, eCB, wRetE, wAsgE, wAsgOE, wIsE, wIndex, wTryM, pickW, handE, wAugD, fLcO, wNotN, iEnV, wRaiseN, fKeys, fKeysO, fSrtS, wIxD, wIxO, wSlA, wInDN, wLenDD, fDc, wFD, sIx, sNo, wIsH, wHF, wMkK, wAsgMK, asDI, dAddT, gP, wAsgFD, fCallD, fMethD, fDict, wCM, asD1, wDropCM, wAsgCM, wItemsO, fSortP, wForK, fLcK, sFd, sV, wExt, dAddT, dBinI, dBinX, wAsgB, fSortI, fSl, wAsgD, wPutD, atD, atDR, asK, wInOD, wLenOD, fCallN, wCallB, wCallK, wCallD, wDropK, frzE, frz1, wFld, wProp, wMeth, wMeth0, wLenI, dInI, dEqI, tyOk, iOwnD, iVk, wIsC, isC, wSelf, wSelfD, atS, wGet, asD, wGetO, wInDD, wDict, wTrev, dTrev, wMkI, wMkI0, wDropI, wAsgIO, frzL1, wSetO, dSumA, dEqT, dIntL, wCallF, flatR, wRaise1, fSrt, wItems, wTry, wAsgX, wDropX, wKd, wXf, wSeq, wAsg, wAsgO, wRet, wIfS, wNx, wPass, wBk, wCt, wDrop, wAug, wApp, wAppPop, wPop, wFor, wFz, wV, wVP, atV, atP, atO, wC, wOp, wCall, wCallN, wCB, aC, aN, wL, wTu, fL, wF, fCat, fList, wTB, wTru, wAnd, wOr, wNot, wAndV, wOrV, wNotV, wIf, wChain, wIsN, wNeg, dNeg, wSl, pN, pP, dSl, wLrev, dLrev, wIsi, wIsi2, iL, iT, iV, iS, iR1, iR2, gN, fLc, wYes, wiL,
  dAdd, dSub, dMul, dMulS, dMulL, dDiv, dMod, dLt, dLe, dGt, dGe, dEq, dNe, eqD, dIn, dNi, dIx, dTru, isNon, dLen, dInt, dAbs, dMax, dMin, dList, dTup, dStr, dIAdd, frzE, frz1, startD, List.map_cons, List.map_nil, List.length_cons, List.length_nil, List.replicate_succ, List.replicate_zero, List.cons_append, List.nil_append, List.append_nil, List.getElem?_cons_zero, List.getElem?_cons_succ, List.set_cons_zero, List.set_cons_succ, Nat.reduceSub, Nat.reduceAdd, if_true, if_false, ite_true, ite_false, reduceIte, Bool.false_eq_true, decide_true, decide_false, Bool.not_true, Bool.not_false, Bool.not_eq_true', decide_eq_true_eq, decide_eq_false_iff_not, isi_dic_bool, isi_dic_int, isi_dic_str, isi_dic_dict, Bool.true_eq_false, isi_int_int, isi_int_bool, isi_bl_int, isi_bl_bool, isi_non_int, isi_non_bool, isi_str_int, isi_str_bool, isi_str_str, isi_lst_list, isi_tup_tuple, Option.some.injEq, exists_eq_left', exists_eq_left, DV.int.injEq, DV.str.injEq, DV.bl.injEq, List.cons.injEq, and_true, true_and])
local macro_rules | `(tactic| walk_at "dl") => `(tactic| try walk_at "dl1")
local macro_rules | `(tactic| walk_at "go") => `(tactic| repeat' (first
  | (intro _)
  | walk_at "dl1"
  | (refine ⟨by first | decide | omega, ?_⟩)
  | split))
def w_asked18 (K : PySem.W.Frag) : WS :=
  (wTryM K (["Unknown"] : List Str) (wIfS (wTB (wOp dEq (wVP 0) (wC (.str "within")))) (wAsgX 4 (s_Pis_within K) (aC (wV 1) (aC (wV 2) (aC (wV 3) aN)))) (wIfS (wTB (wOp dEq (wVP 0) (wC (.str "held")))) (wAsgXO 4 (s_Pheld K) (aC (wV 1) (aC (wV 2) aN))) (wAsgXO 4 (s_Pall_held K) (aC (wV 1) (aC (wV 2) aN))))) (("Unknown", some 5, fun a cls d => (wSeq (wIfS (wOr (wNot (wTru (wIsE K (["Unknown"] : List Str) a cls d ["ValueError"] 5))) (wTru (wIsE K (["Unknown"] : List Str) a cls d ["Refusal", "BadName", "Inside", "Same"] 5))) (wRet (wTu (aC (wC (.str "other")) aN))) wNx)
    (wRet (wTu (aC (wC (.str "Unknown")) (aC (wXf K [("Unknown", "name")] a cls d "name" 5) aN)))))) :: ("NestError", none, fun a cls d => (wRet (wTu (aC (wC (.str "other")) aN)))) :: []))
def s_asked18 (K : PySem.W.Frag) : DSFT := fun ds R RF _ => ∃ what sh bs ws na se f rk a b, ds = [.str what, worldD K sh bs ws na se f, .str a, .str b] ∧ (Tree sh bs f rk ∧ bs.length ≤ 1000) ∧
  ((what = "within" ∧ (a ∈ bs → (b ∈ sh ∨ b ∈ bs) → R (.tup [.str "good", .bl (decide (b ∈ chO bs f a))])) ∧ (a ∉ bs → R (.tup [.str "Unknown", .str a])) ∧ (a ∈ bs → ¬ (b ∈ sh ∨ b ∈ bs) → R (.tup [.str "Unknown", .str b])))
  ∨ (what = "held" ∧ ((a ∈ sh ∨ a ∈ bs) → RF [.str "good"] (((srtS bs).filter fun x => decide (f x = a)).map .str)) ∧ (¬ (a ∈ sh ∨ a ∈ bs) → R (.tup [.str "Unknown", .str a])))
  ∨ (what = "all" ∧ ((a ∈ sh ∨ a ∈ bs) → RF [.str "good"] (((srtS bs).filter fun x => decide (a ∈ chO bs f x)).map .str)) ∧ (¬ (a ∈ sh ∨ a ∈ bs) → R (.tup [.str "Unknown", .str a]))))
theorem l_asked18 (K : PySem.W.Frag) : ∀ ds R RF RX, s_asked18 K ds R RF RX → ds.length = 4 := by
  rintro ds R RF RX ⟨_, _, _, _, _, _, _, _, _, _, rfl, _⟩
  rfl
theorem o_asked18 (K : PySem.W.Frag) : OwesFT 6 (s_asked18 K) (w_asked18 K) 4 "good" := by
  rintro ds R RF RX ⟨what, sh, bs, ws, na, se, f, rk, a, b, rfl, ⟨T, lb⟩, hc⟩
  unfold w_asked18
  walk_at "dl"
  rcases hc with ⟨rfl, h1, h2, h3⟩ | ⟨rfl, h1, h2⟩ | ⟨rfl, h1, h2⟩
  · rw [if_pos rfl]
    refine ⟨sh, bs, ws, na, se, f, rk, a, b, rfl, ⟨T, lb⟩, fun ha hb => ?_, fun ha => ?_, fun ha hb => ?_⟩
    · exact .inr ⟨_, rfl, h1 ha hb⟩
    · refine ⟨"Unknown", _, _, rfl, by decide, ?_⟩
      rw [if_pos (by decide +kernel)]
      intro x dd
      refine ⟨"Unknown", dd, _, _, rfl, rfl, rfl, by decide, ?_⟩
      rw [if_neg (by decide +kernel)]
      refine ⟨"Unknown", dd, _, _, rfl, rfl, rfl, by decide, ?_⟩
      rw [if_neg (by decide +kernel)]
      exact ⟨"Unknown", dd, _, _, _, rfl, rfl, rfl, by decide, rfl, by decide, h2 ha⟩
    · refine ⟨"Unknown", _, _, rfl, by decide, ?_⟩
      rw [if_pos (by decide +kernel)]
      intro x dd
      refine ⟨"Unknown", dd, _, _, rfl, rfl, rfl, by decide, ?_⟩
      rw [if_neg (by decide +kernel)]
      refine ⟨"Unknown", dd, _, _, rfl, rfl, rfl, by decide, ?_⟩
      rw [if_neg (by decide +kernel)]
      exact ⟨"Unknown", dd, _, _, _, rfl, rfl, rfl, by decide, rfl, by decide, h3 ha hb⟩
  · rw [if_neg (by decide), if_pos rfl]
    refine ⟨sh, bs, ws, na, se, f, rk, a, rfl, ⟨T, lb⟩, fun ha => ?_, fun ha => ?_⟩
    · exact .inl ⟨_, rfl, h1 ha⟩
    · refine ⟨"Unknown", _, _, rfl, by decide, ?_⟩
      rw [if_pos (by decide +kernel)]
      intro x dd
      refine ⟨"Unknown", dd, _, _, rfl, rfl, rfl, by decide, ?_⟩
      rw [if_neg (by decide +kernel)]
      refine ⟨"Unknown", dd, _, _, rfl, rfl, rfl, by decide, ?_⟩
      rw [if_neg (by decide +kernel)]
      exact ⟨"Unknown", dd, _, _, _, rfl, rfl, rfl, by decide, rfl, by decide, h2 ha⟩
  · rw [if_neg (by decide), if_neg (by decide)]
    refine ⟨sh, bs, ws, na, se, f, rk, a, rfl, ⟨T, lb⟩, fun ha => ?_, fun ha => ?_⟩
    · exact .inl ⟨_, rfl, h1 ha⟩
    · refine ⟨"Unknown", _, _, rfl, by decide, ?_⟩
      rw [if_pos (by decide +kernel)]
      intro x dd
      refine ⟨"Unknown", dd, _, _, rfl, rfl, rfl, by decide, ?_⟩
      rw [if_neg (by decide +kernel)]
      refine ⟨"Unknown", dd, _, _, rfl, rfl, rfl, by decide, ?_⟩
      rw [if_neg (by decide +kernel)]
      exact ⟨"Unknown", dd, _, _, _, rfl, rfl, rfl, by decide, rfl, by decide, h2 ha⟩
def w_is_row18 (K : PySem.W.Frag) : WS :=
  (wTake 4 5 (s_asked18 K) (aC (wV 2) (aC (wV 0) (aC (wV 1) (aC (wC (.str "")) aN)))) (wNot (wTru (wCall (s_same 5) (aC (wV 4) (aC (wTu (aC (wC (.str "good")) (aC (wV 3) aN))) aN))))) (wRet (wC (.bl false)))
    (wSeq (wApp 5 (wV 1))
    (wSeq (wRev 5)
    (wRet (wCall (s_same 5) (aC (wCallN (sT (s_asked18 K)) (aC (wV 2) (aC (wV 0) (aC (wV 1) (aC (wC (.str "")) aN))))) (aC (wTu (aC (wC (.str "good")) (aC (wV 3) aN))) aN)))))))
def rowOf (bs : List Str) (f : Str → Str) (what a : Str) : List Str := if what = "held" then (srtS bs).filter fun x => decide (f x = a) else (srtS bs).filter fun x => decide (a ∈ chO bs f x)
theorem ask_row {K : PySem.W.Frag} {sh bs : List Str} {ws : List DV} {na se : List Str} {f : Str → Str} {rk : Str → Nat} {what a s : Str} (T : Tree sh bs f rk) (lb : bs.length ≤ 1000) (hw : what = "held" ∨ what = "all") (ha : a ∈ sh ∨ a ∈ bs) {R RX : DV → Prop} {RF : List DV → List DV → Prop} (h : RF [.str "good"] ((rowOf bs f what a).map .str)) : s_asked18 K [.str what, worldD K sh bs ws na se f, .str a, .str s] R RF RX := by
  refine ⟨what, sh, bs, ws, na, se, f, rk, a, s, rfl, ⟨T, lb⟩, .inr ?_⟩
  rcases hw with rfl | rfl
  · exact .inl ⟨rfl, fun _ => h, fun z => absurd ha z⟩
  · exact .inr ⟨rfl, fun _ => h, fun z => absurd ha z⟩
theorem fl_goodL (n : Nat) (s : Str) (l : List Str) : flD (n + 2) (.tup [.str s, .lst (l.map .str)]) := fun x hx => by
  rcases List.mem_cons.mp hx with rfl | hx
  · trivial
  · rw [List.mem_singleton.mp hx]; exact fl_strs n l
theorem fl_goodB (n : Nat) (s : Str) (k : Bool) : flD (n + 1) (.tup [.str s, .bl k]) := fun x hx => by
  rcases List.mem_cons.mp hx with rfl | hx
  · cases n <;> trivial
  · rw [List.mem_singleton.mp hx]; cases n <;> trivial
theorem rowOf_len (bs : List Str) (f : Str → Str) (what a : Str) : (rowOf bs f what a).length ≤ bs.length := by
  unfold rowOf
  split
  · exact Nat.le_trans (List.length_filter_le _ _) (Nat.le_of_eq (srtS_len _))
  · exact Nat.le_trans (List.length_filter_le _ _) (Nat.le_of_eq (srtS_len _))
def s_is_row18 (K : PySem.W.Frag) : DS1 := fun ds R => ∃ sh bs ws na se f rk a what, ds = [worldD K sh bs ws na se f, .str a, .str what, .lst ((rowOf bs f what a).map .str)] ∧ (Tree sh bs f rk ∧ bs.length ≤ 1000) ∧ (what = "held" ∨ what = "all") ∧ (a ∈ sh ∨ a ∈ bs) ∧ R (.bl true)
theorem l_is_row18 (K : PySem.W.Frag) : ∀ ds R, s_is_row18 K ds R → ds.length = 4 := by
  rintro ds R ⟨_, _, _, _, _, _, _, _, _, rfl, _⟩
  rfl
theorem o_is_row18 (K : PySem.W.Frag) : Owes 6 (s_is_row18 K) (w_is_row18 K) := by
  rintro ds R ⟨sh, bs, ws, na, se, f, rk, a, what, rfl, ⟨T, lb⟩, hw, ha, h⟩
  unfold w_is_row18
  walk_at "dl"
  have lr := rowOf_len bs f what a
  refine ask_row T lb hw ha ⟨⟨rfl, by decide⟩, by decide, rfl, fl_goodL 2 _ _, ?_⟩
  dsimp only
  rw [if_neg (by decide)]
  intro tt
  exact ⟨by rw [List.length_map]; omega, ask_row T lb hw ha ⟨by decide, rfl, fl_goodL 2 _ _, h⟩⟩
def w_is_right18 (K : PySem.W.Frag) : WS :=
  (wSeq (wFor (iL (wOp dAdd (wOp dIx (wVP 0) (wC (.int 0))) (wF (fKeys (wOp dIx (wVP 0) (wC (.int 1))))))) (gN 3) (wSeq (wAsgO 4 (fL aN))
    (wSeq (wFor (iL (wF (fSrtS (wV 1)))) (gN 5) (wSeq (wAsg 6 (wOp dIn (wVP 3) (wCall s_chain9 (aC (wV 1) (aC (wV 5) aN)))))
    (wCut (wIfS (wTru (wVP 6)) (wApp 4 (wV 5)) wNx)
    (wIfS (wNot (wTru (wCall (s_same 5) (aC (wCallN (sT (s_asked18 K)) (aC (wC (.str "within")) (aC (wV 2) (aC (wV 5) (aC (wV 3) aN))))) (aC (wTu (aC (wC (.str "good")) (aC (wV 6) aN))) aN))))) (wRet (wC (.bl false))) wNx))))
    (wSeq (wIfS (wNot (wTru (wCallB (s_is_row18 K) (aC (wV 2) (aC (wV 3) (aC (wC (.str "all")) (aC (wV 4) aN))))))) (wRet (wC (.bl false))) wNx)
    (wIfS (wNot (wTru (wCall (s_is_row18 K) (aC (wV 2) (aC (wV 3) (aC (wC (.str "held")) (aC (wCall s_inside19 (aC (wV 1) (aC (wV 3) aN))) aN))))))) (wRet (wC (.bl false))) wNx)))))
    (wRet (wC (.bl true))))
def s_is_right18 (K : PySem.W.Frag) : DS1 := fun ds R => ∃ most sh bs ws na se hs ks hs2, ds = [planD sh bs ws na se hs, tabD ks hs2, worldD K sh bs.reverse (ws.map .int) na se (fOf ks hs2)] ∧ most ≤ 12 ∧ PlanOk most sh bs ws na se hs ∧ ks.Perm bs ∧ TreeOk sh ks hs2 ∧ R (.bl true)
theorem l_is_right18 (K : PySem.W.Frag) : ∀ ds R, s_is_right18 K ds R → ds.length = 3 := by
  rintro ds R ⟨_, _, _, _, _, _, _, _, _, rfl, _⟩
  rfl
theorem o_is_right18 (K : PySem.W.Frag) : Owes 7 (s_is_right18 K) (w_is_right18 K) := by
  rintro ds R ⟨most, sh, bs, ws, na, se, hs, ks, hs2, rfl, hm, P, p, t, h⟩
  obtain ⟨nd1, nd2, nd3⟩ := List.nodup_append.mp P.nd
  have s1 := P.s1; have b1 := P.b1; have lp := p.length_eq
  obtain ⟨bl, ebl⟩ : ∃ bl, bl = bs.reverse := ⟨_, rfl⟩
  have pb : bl.Perm bs := ebl ▸ List.reverse_perm bs
  have pk : ks.Perm bl := p.trans pb.symm
  have lb := pb.length_eq
  obtain ⟨f, ef⟩ : ∃ f, f = fOf ks hs2 := ⟨_, rfl⟩
  have T : Tree sh bl f (ixOf ks) := ef ▸ tree_of pk (fun s z q => nd3 s z s (p.mem_iff.mp q) rfl) t
  have Tk : Tree sh ks f (ixOf ks) := ef ▸ tree_of (List.Perm.refl ks) (fun s z q => nd3 s z s (p.mem_iff.mp q) rfl) t
  have eP : planD sh bs ws na se hs = .lst [.lst (sh.map .str), .dic (bl.map Sum.inr) (ws.map .int), .lst (na.map .str), .lst (se.map .str), tabD bs hs] := by rw [ebl]; rfl
  have eS : srtS ks = srtS bl := srtS_of pk
  rw [← ebl, ← ef, eP]
  unfold w_is_right18
  walk_at "dl"
  refine ⟨_, rfl, _, rfl, _, _, rfl, ?_⟩
  rw [fKeys_str]
  dsimp only
  rw [← List.map_append]
  refine ⟨by rw [List.length_map, List.length_map]; omega, _, rfl, ?_⟩
  refine forL_ind (fun i ρ => ∃ (v3 v4 v5 v6 : Sl), ρ = [.dt (.lst [.lst (sh.map .str), .dic (bl.map Sum.inr) (ws.map .int), .lst (na.map .str), .lst (se.map .str), tabD bs hs]), .dt (tabD ks hs2), .dt (worldD K sh bl (ws.map .int) na se f), v3, v4, v5, v6]) ⟨_, _, _, _, rfl⟩ ?_ ?_
  · rintro i x ρ K1 hx ⟨v3, v4, v5, v6, rfl⟩ hK
    obtain ⟨a, ha, rfl⟩ := List.mem_map.mp (List.mem_of_getElem? hx)
    have ha := List.mem_append.mp ha
    walk_at "dl"
    refine ⟨by decide, _, .inr (.inr ⟨⟨_, rfl⟩, by omega⟩), fun ys py qy => ⟨_, rfl, ?_⟩⟩
    rw [srtS_eq py qy, eS]
    refine forL_ind (fun j ρ => ∃ (v5 v6 : Sl), ρ = [.dt (.lst [.lst (sh.map .str), .dic (bl.map Sum.inr) (ws.map .int), .lst (na.map .str), .lst (se.map .str), tabD bs hs]), .dt (tabD ks hs2), .dt (worldD K sh bl (ws.map .int) na se f), .dt (.str a), .ow ((((srtS bl).take j).filter fun x => decide (a ∈ chO bl f x)).map .str), v5, v6]) ⟨_, _, rfl⟩ ?_ ?_
    · rintro j x ρ K2 hx ⟨v5, v6, rfl⟩ hK2
      rw [List.getElem?_map] at hx
      cases eb : (srtS bl)[j]? with
      | none => rw [eb] at hx; cases hx
      | some b =>
        rw [eb] at hx
        obtain rfl := (Option.some.inj hx).symm
        have hb : b ∈ bl := srtS_mem.mp (List.mem_of_getElem? eb)
        walk_at "dl"
        refine ⟨ks, hs2, sh, ixOf ks, b, rfl, t.l.symm, by omega, ef ▸ Tk, pk.mem_iff.mpr hb, _, rfl, ?_⟩
        have ec : chO ks (fOf ks hs2) b = chO bl f b := by rw [← ef]; exact chO_perm pk b
        rw [ec]
        refine ⟨fun ρ => ρ = [.dt (.lst [.lst (sh.map .str), .dic (bl.map Sum.inr) (ws.map .int), .lst (na.map .str), .lst (se.map .str), tabD bs hs]), .dt (tabD ks hs2), .dt (worldD K sh bl (ws.map .int) na se f), .dt (.str a), .ow ((((srtS bl).take (j + 1)).filter fun x => decide (a ∈ chO bl f x)).map .str), .dt (.str b), .dt (.bl (decide (a ∈ chO bl f b)))], ?_, ?_⟩
        · walk_at "dl"
          rw [take_snoc eb, List.filter_append, List.map_append]
          have ll := List.length_filter_le (fun x => decide (a ∈ chO bl f x)) ((srtS bl).take j)
          rw [List.length_take, srtS_len] at ll
          by_cases e : a ∈ chO bl f b
          · rw [if_pos e]
            exact ⟨by rw [List.length_map]; omega, by simp [e]⟩
          · rw [if_neg e]
            simp [e]
        rintro ρ rfl
        walk_at "dl"
        refine ⟨"within", sh, bl, _, na, se, f, _, b, a, rfl, ⟨T, by omega⟩, .inl ⟨rfl, fun _ _ => ?_, fun z => absurd hb z, fun _ z => absurd ha z⟩⟩
        refine ⟨by decide, rfl, fl_goodB 3 _ _, ?_⟩
        dsimp only
        rw [if_neg (by decide)]
        exact hK2 _ ⟨_, _, rfl⟩
    rintro ρ ⟨v5, v6, rfl⟩
    rw [List.length_map, List.take_length]
    walk_at "dl"
    refine ⟨sh, bl, _, na, se, f, _, a, "all", by unfold rowOf; rw [if_neg (by decide)], ⟨T, by omega⟩, .inr rfl, ha, _, rfl, ?_⟩
    rw [if_neg (by decide)]
    refine ⟨ks, hs2, a, rfl, t.l.symm, by omega, ?_⟩
    rw [← ef, eS]
    refine ⟨sh, bl, _, na, se, f, _, a, "held", by unfold rowOf; rw [if_pos rfl], ⟨T, by omega⟩, .inl rfl, ha, ?_⟩
    dsimp only
    rw [if_neg (by decide)]
    exact hK _ ⟨_, _, _, _, rfl⟩
  rintro ρ ⟨v3, v4, v5, v6, rfl⟩
  exact h
def w_is_refused18 (K : PySem.W.Frag) : WS :=
  (wSeq (wAsg 4 (wC .non))
    (wCut (wIfS (wAnd (wTB (wOp dNi (wVP 3) (wOp dIx (wVP 0) (wC (.int 0))))) (wTB (wInDN true (wV 3) (wOp dIx (wVP 0) (wC (.int 1)))))) (wAsg 4 (wTu (aC (wC (.str "Unknown")) (aC (wV 3) aN)))) wNx)
    (wCut (wIfS (wTB (wInDN true (wV 2) (wOp dIx (wVP 0) (wC (.int 1))))) (wAsg 4 (wTu (aC (wC (.str "Unknown")) (aC (wV 2) aN)))) wNx)
    (wSeq (wIfS (wAnd (wTB (wNotN (wVP 4))) (wNot (wTru (wCall (s_same 5) (aC (wCallN (sT (s_asked18 K)) (aC (wC (.str "within")) (aC (wV 1) (aC (wV 2) (aC (wV 3) aN))))) (aC (wV 4) aN)))))) (wRet (wC (.bl false))) wNx)
    (wSeq (wIfS (wOr (wTB (wOp dIn (wVP 2) (wOp dIx (wVP 0) (wC (.int 0))))) (wTB (wInDN false (wV 2) (wOp dIx (wVP 0) (wC (.int 1)))))) (wRet (wC (.bl true))) wNx)
    (wSeq (wFor (iL (wL (aC (wC (.str "held")) (aC (wC (.str "all")) aN)))) (gN 5) (wIfS (wNot (wTru (wCall (s_same 5) (aC (wCallN (sT (s_asked18 K)) (aC (wV 5) (aC (wV 1) (aC (wV 2) (aC (wV 3) aN))))) (aC (wTu (aC (wC (.str "Unknown")) (aC (wV 2) aN))) aN))))) (wRet (wC (.bl false))) wNx))
    (wRet (wC (.bl true)))))))))
def s_is_refused18 (K : PySem.W.Frag) : DS1 := fun ds R => ∃ most sh bs ws na se hs f rk a b, ds = [planD sh bs ws na se hs, worldD K sh bs.reverse (ws.map .int) na se f, .str a, .str b] ∧ most ≤ 12 ∧ PlanOk most sh bs ws na se hs ∧ Tree sh bs.reverse f rk ∧ R (.bl true)
theorem l_is_refused18 (K : PySem.W.Frag) : ∀ ds R, s_is_refused18 K ds R → ds.length = 4 := by
  rintro ds R ⟨_, _, _, _, _, _, _, _, _, _, _, rfl, _⟩
  rfl
theorem o_is_refused18 (K : PySem.W.Frag) : Owes 6 (s_is_refused18 K) (w_is_refused18 K) := by
  rintro ds R ⟨most, sh, bs, ws, na, se, hs, f, rk, a, b, rfl, hm, P, T, h⟩
  have b1 := P.b1
  obtain ⟨bl, ebl⟩ : ∃ bl, bl = bs.reverse := ⟨_, rfl⟩
  have lb : bl.length = bs.length := by rw [ebl, List.length_reverse]
  have eP : planD sh bs ws na se hs = .lst [.lst (sh.map .str), .dic (bl.map Sum.inr) (ws.map .int), .lst (na.map .str), .lst (se.map .str), tabD bs hs] := by rw [ebl]; rfl
  rw [← ebl] at T ⊢
  rw [eP]
  obtain ⟨pd, epd⟩ : ∃ pd, pd = DV.lst [.lst (sh.map .str), .dic (bl.map Sum.inr) (ws.map .int), .lst (na.map .str), .lst (se.map .str), tabD bs hs] := ⟨_, rfl⟩
  obtain ⟨W, eW⟩ : ∃ W, W = worldD K sh bl (ws.map .int) na se f := ⟨_, rfl⟩
  unfold w_is_refused18
  walk_at "dl"
  refine ⟨fun ρ => ρ = [.dt (.lst [.lst (sh.map .str), .dic (bl.map Sum.inr) (ws.map .int), .lst (na.map .str), .lst (se.map .str), tabD bs hs]), .dt (worldD K sh bl (ws.map .int) na se f), .dt (.str a), .dt (.str b), .dt (if b ∈ sh ∨ b ∈ bl then .non else .tup [.str "Unknown", .str b]), .un], ?_, ?_⟩
  · walk_at "dl"
    refine ⟨_, rfl, _, rfl, ?_⟩
    dsimp only
    by_cases h1 : b ∈ sh
    · rw [decide_eq_true h1, if_neg (by decide), if_pos (.inl h1)]
    · rw [decide_eq_false h1, if_pos rfl]
      refine ⟨_, rfl, _, _, rfl, ?_⟩
      rw [has_str]
      by_cases h2 : b ∈ bl
      · rw [decide_eq_true h2, if_neg (by decide), if_pos (.inr h2)]
      · rw [decide_eq_false h2, if_pos rfl, if_neg (fun z => z.elim h1 h2)]
        exact ⟨by decide, rfl⟩
  rintro ρ rfl
  refine ⟨fun ρ => ρ = [.dt (.lst [.lst (sh.map .str), .dic (bl.map Sum.inr) (ws.map .int), .lst (na.map .str), .lst (se.map .str), tabD bs hs]), .dt (worldD K sh bl (ws.map .int) na se f), .dt (.str a), .dt (.str b), .dt (if a ∈ bl then (if b ∈ sh ∨ b ∈ bl then .non else .tup [.str "Unknown", .str b]) else .tup [.str "Unknown", .str a]), .un], ?_, ?_⟩
  · walk_at "dl"
    refine ⟨_, rfl, _, _, rfl, ?_⟩
    rw [has_str]
    by_cases h2 : a ∈ bl
    · rw [decide_eq_true h2, if_neg (by decide), if_pos h2]
    · rw [decide_eq_false h2, if_pos rfl, if_neg h2]
      exact ⟨by decide, rfl⟩
  rintro ρ rfl
  have un : ∀ s : Str, flD 4 (.tup [.str "Unknown", .str s]) := fun s => fl_good 3 _ (some s)
  by_cases ha : a ∈ bl
  · have nas : a ∉ sh := fun z => T.dj a z ha
    rw [if_pos ha]
    by_cases hb : b ∈ sh ∨ b ∈ bl
    · rw [if_pos hb]
      walk_at "dl"
      refine ⟨_, rfl, _, rfl, ?_⟩
      dsimp only
      rw [if_neg (by rw [decide_eq_false nas]; decide)]
      refine ⟨_, rfl, _, _, rfl, ?_⟩
      rw [has_str, if_pos (decide_eq_true ha)]
      exact h
    · rw [if_neg hb]
      walk_at "dl"
      refine ⟨"within", sh, bl, _, na, se, f, rk, a, b, rfl, ⟨T, by omega⟩, .inl ⟨rfl, fun _ z => absurd z hb, fun z => absurd ha z, fun _ _ => ⟨rfl, un b, ?_⟩⟩⟩
      dsimp only
      rw [if_neg (by decide)]
      refine ⟨_, rfl, _, rfl, ?_⟩
      dsimp only
      rw [if_neg (by rw [decide_eq_false nas]; decide)]
      refine ⟨_, rfl, _, _, rfl, ?_⟩
      rw [has_str, if_pos (decide_eq_true ha)]
      exact h
  · rw [if_neg ha]
    walk_at "dl"
    refine ⟨"within", sh, bl, _, na, se, f, rk, a, b, rfl, ⟨T, by omega⟩, .inl ⟨rfl, fun z => absurd z ha, fun _ => ⟨rfl, un a, ?_⟩, fun z => absurd z ha⟩⟩
    dsimp only
    rw [if_neg (by decide)]
    refine ⟨_, rfl, _, rfl, ?_⟩
    dsimp only
    by_cases hs2 : a ∈ sh
    · rw [if_pos (decide_eq_true hs2)]
      exact h
    rw [if_neg (by rw [decide_eq_false hs2]; decide)]
    refine ⟨_, rfl, _, _, rfl, ?_⟩
    rw [has_str, if_neg (by rw [decide_eq_false ha]; decide)]
    have nh : ¬ (a ∈ sh ∨ a ∈ bl) := fun z => z.elim hs2 ha
    refine ⟨by decide, _, rfl, ?_⟩
    refine forL_ind (fun i ρ => ∃ v4 v5 : Sl, ρ = [.dt (.lst [.lst (sh.map .str), .dic (bl.map Sum.inr) (ws.map .int), .lst (na.map .str), .lst (se.map .str), tabD bs hs]), .dt (worldD K sh bl (ws.map .int) na se f), .dt (.str a), .dt (.str b), v4, v5]) ⟨_, _, rfl⟩ ?_ ?_
    · rintro i x ρ K1 hx ⟨v4, v5, rfl⟩ hK
      obtain ⟨w, hw, rfl⟩ : ∃ w : Str, (w = "held" ∨ w = "all") ∧ x = .str w := by
        rcases List.mem_of_getElem? hx |> fun z => (by simpa using z : x = .str "held" ∨ x = .str "all") with rfl | rfl
        · exact ⟨_, .inl rfl, rfl⟩
        · exact ⟨_, .inr rfl, rfl⟩
      walk_at "dl"
      refine ⟨w, sh, bl, _, na, se, f, rk, a, b, rfl, ⟨T, by omega⟩, .inr ?_⟩
      have fin : ∀ {Q : Prop}, Q → Q := fun z => z
      rcases hw with rfl | rfl
      · refine .inl ⟨rfl, fun z => absurd z nh, fun _ => ⟨by decide, rfl, un a, ?_⟩⟩
        dsimp only
        rw [if_neg (by decide)]
        exact hK _ ⟨_, _, rfl⟩
      · refine .inr ⟨rfl, fun z => absurd z nh, fun _ => ⟨by decide, rfl, un a, ?_⟩⟩
        dsimp only
        rw [if_neg (by decide)]
        exact hK _ ⟨_, _, rfl⟩
    rintro ρ ⟨v4, v5, rfl⟩
    exact h
end DL
namespace DL
open PySem PySem.Spec PyProof.Rows L2 NW
local macro_rules | `(tactic| walk_at "dl1") => `(tactic| simp only [wTake, wAsgXO, wRev, fVals, fDcK, eN, eCall, eMeth, eaN, eaC, eTu, eCB, wRetE, wAsgE, wAsgOE, wIsE, wIndex, wTryM, pickW, handE, wAugD, fLcO, wNotN, iEnV, wRaiseN, fKeys, fKeysO, fSrtS, wIxD, wIxO, wSlA, wInDN, wLenDD, fDc, wFD, sIx, sNo, wIsH, wHF, wMkK, wAsgMK, asDI, dAddT, gP, wAsgFD, fCallD, fMethD, fDict, wCM, asD1, wDropCM, wAsgCM, wItemsO, fSortP, wForK, fLcK, sFd, sV, wExt, dAddT, dBinI, dBinX, wAsgB, fSortI, fSl, wAsgD, wPutD, atD, atDR, asK, wInOD, wLenOD, fCallN, wCallB, wCallK, wCallD, wDropK, frzE, frz1, wFld, wProp, wMeth, wMeth0, wLenI, dInI, dEqI, tyOk, iOwnD, iVk, wIsC, isC, wSelf, wSelfD, atS, wGet, asD, wGetO, wInDD, wDict, wTrev, dTrev, wMkI, wMkI0, wDropI, wAsgIO, frzL1, wSetO, dSumA, dEqT, dIntL, wCallF, flatR, wRaise1, fSrt, wItems, wTry, wAsgX, wDropX, wKd, wXf, wSeq, wAsg, wAsgO, wRet, wIfS, wNx, wPass, wBk, wCt, wDrop, wAug, wApp, wAppPop, wPop, wFor, wFz, wV, wVP, atV, atP, atO, wC, wOp, wCall, wCallN, wCB, aC, aN, wL, wTu, fL, wF, fCat, fList, wTB, wTru, wAnd, wOr, wNot, wAndV, wOrV, wNotV, wIf, wChain, wIsN, wNeg, dNeg, wSl, pN, pP, dSl, wLrev, dLrev, wIsi, wIsi2, iL, iT, iV, iS, iR1, iR2, gN, fLc, wYes, wiL,
  dAdd, dSub, dMul, dMulS, dMulL, dDiv, dMod, dLt, dLe, dGt, dGe, dEq, dNe, eqD, dIn, dNi, dIx, dTru, isNon, dLen, dInt, dAbs, dMax, dMin, dList, dTup, dStr, dIAdd, frzE, frz1, startD, List.map_cons, List.map_nil, List.length_cons, List.length_nil, List.replicate_succ, List.replicate_zero, List.cons_append, List.nil_append, List.append_nil, List.getElem?_cons_zero, List.getElem?_cons_succ, List.set_cons_zero, List.set_cons_succ, Nat.reduceSub, Nat.reduceAdd, if_true, if_false, ite_true, ite_false, reduceIte, Bool.false_eq_true, decide_true, decide_false, Bool.not_true, Bool.not_false, Bool.not_eq_true', decide_eq_true_eq, decide_eq_false_iff_not, isi_dic_bool, isi_dic_int, isi_dic_str, isi_dic_dict, Bool.true_eq_false, isi_int_int, isi_int_bool, isi_bl_int, isi_bl_bool, isi_non_int, isi_non_bool, isi_str_int, isi_str_bool, isi_str_str, isi_lst_list, isi_tup_tuple, Option.some.injEq, exists_eq_left', exists_eq_left, DV.int.injEq, DV.str.injEq, DV.bl.injEq, List.cons.injEq, and_true, true_and])
local macro_rules | `(tactic| walk_at "dl") => `(tactic| try walk_at "dl1")
local macro_rules | `(tactic| walk_at "go") => `(tactic| repeat' (first
  | (intro _)
  | walk_at "dl1"
  | (refine ⟨by first | decide | omega, ?_⟩)
  | split))
def w_law18 (K : PySem.W.Frag) : WS :=
  (wSeq (wAsg 2 (wCall s_plan (aC (wV 1) (aC (wC (.int 12)) aN))))
    (wSeq (wAsg 3 (wCall s_any_table (aC (wV 1) (aC (wV 2) aN))))
    (wSeq (wAsg 4 (wCall (s_yard9 K) (aC (wV 2) aN)))
    (wSeq (wAsg 5 (wMkI (s_PWorld___init__ K) (aC (wV 4) (aC (wDict (wOp dIx (wVP 2) (wC (.int 4)))) aN))))
    (wSeq (wAsg 6 (wMkI (s_PWorld___init__ K) (aC (wV 4) (aC (wDict (wV 3)) aN))))
    (wSeq (wIfS (wOr (wNot (wTru (wCall (s_is_right18 K) (aC (wV 2) (aC (wOp dIx (wVP 2) (wC (.int 4))) (aC (wV 5) aN)))))) (wNot (wTru (wCall (s_is_right18 K) (aC (wV 2) (aC (wV 3) (aC (wV 6) aN))))))) (wRet (wC (.bl false))) wNx)
    (wSeq (wFor (iR1 (aC (wC (.int 4)) aN)) (gN 7) (wSeq (wAsg 8 (wCall s_word9 (aC (wV 1) (aC (wV 2) aN))))
    (wCut (wIfS (wTB (wOp dEq (wVP 7) (wC (.int 0)))) (wAsg 8 (wCall s_pick (aC (wV 1) (aC (wOp dIx (wVP 2) (wC (.int 0))) aN)))) wNx)
    (wSeq (wIfS (wNot (wTru (wCall (s_is_refused18 K) (aC (wV 2) (aC (wV 5) (aC (wV 8) (aC (wCall s_word9 (aC (wV 1) (aC (wV 2) aN))) aN))))))) (wRet (wC (.bl false))) wNx)
    (wIfS (wNot (wTru (wCall (s_is_refused18 K) (aC (wV 2) (aC (wV 6) (aC (wCall s_word9 (aC (wV 1) (aC (wV 2) aN))) (aC (wCall s_not_name (aC (wV 1) aN)) aN))))))) (wRet (wC (.bl false))) wNx)))))
    (wSeq (wIfS (wOr (wNot (wTru (wCall (s_same 5) (aC (wProp (He.ga K "World") (s_PWorld_row K) (wV 5)) (aC (wCall s_row9 (aC (wOp dIx (wVP 2) (wC (.int 4))) aN)) aN))))) (wNot (wTru (wCall (s_same 5) (aC (wProp (He.ga K "World") (s_PWorld_row K) (wV 6)) (aC (wCall s_row9 (aC (wV 3) aN)) aN)))))) (wRet (wC (.bl false))) wNx)
    (wRet (wCall (s_is_right18 K) (aC (wV 2) (aC (wOp dIx (wVP 2) (wC (.int 4))) (aC (wV 5) aN)))))))))))))
theorem o_law18 (K : PySem.W.Frag) : w_law18 K { nx := fun _ => False, rt := fun d => d = .bl true } (.un :: .dt .sto :: List.replicate 7 .un) := by
  unfold w_law18
  walk_at "dl"
  refine ⟨_, rfl, ⟨by decide, by decide⟩, fun sh bs ws na se hs P => ?_⟩
  obtain ⟨nd1, nd2, nd3⟩ := List.nodup_append.mp P.nd
  have b1 := P.b1; have s1 := P.s1
  refine ⟨_, sh, bs, ws, na, se, hs, rfl, by decide, P, fun ks hs2 p t2 => ?_⟩
  refine ⟨_, sh, bs, ws, na, se, hs, rfl, by decide, P, ?_⟩
  have rv := (List.reverse_perm bs).symm
  have tr : ∀ {ks bs' hs2 : List Str}, ks.Perm bs → ks.Perm bs' → TreeOk sh ks hs2 → Tree sh bs' (fOf ks hs2) (ixOf ks) := fun p p' t => tree_of p' (fun s z w => nd3 s z s (p.mem_iff.mp w) rfl) t
  have isr : ∀ {ks hs2 : List Str} {Q : DV → Prop}, ks.Perm bs → TreeOk sh ks hs2 → Q (.bl true) → s_is_right18 K [planD sh bs ws na se hs, tabD ks hs2, worldD K sh bs.reverse (ws.map .int) na se (fOf ks hs2)] Q := fun {ks hs2 Q} p t q =>
    ⟨12, sh, bs, ws, na, se, hs, ks, hs2, rfl, by decide, P, p, t, q⟩
  have isf : ∀ {ks hs2 : List Str} {a b : Str} {Q : DV → Prop}, ks.Perm bs → TreeOk sh ks hs2 → Q (.bl true) → s_is_refused18 K [planD sh bs ws na se hs, worldD K sh bs.reverse (ws.map .int) na se (fOf ks hs2), .str a, .str b] Q := fun {ks hs2 a b Q} p t q =>
    ⟨12, sh, bs, ws, na, se, hs, fOf ks hs2, ixOf ks, a, b, rfl, by decide, P, tr p (p.trans rv) t, q⟩
  refine ⟨tabD bs hs, rfl, _, _, rfl, mk_world P (by decide) (List.Perm.refl _) P.m.t ?_⟩
  refine ⟨_, _, rfl, mk_world P (by decide) p t2 ?_⟩
  refine ⟨tabD bs hs, rfl, isr (List.Perm.refl _) P.m.t ?_⟩
  dsimp only
  rw [if_neg (by decide)]
  refine isr p t2 ?_
  dsimp only
  rw [if_neg (by decide)]
  refine ⟨by decide, by decide, ?_⟩
  refine forL_ind (fun i ρ => ∃ v7 v8 : Sl, ρ = [.un, .dt .sto, .dt (planD sh bs ws na se hs), .dt (tabD ks hs2), .dt (yardD K sh bs.reverse (ws.map .int) na se), .dt (worldD K sh bs.reverse (ws.map .int) na se (fOf bs hs)), .dt (worldD K sh bs.reverse (ws.map .int) na se (fOf ks hs2)), v7, v8]) ⟨_, _, rfl⟩ ?_ ?_
  · rintro i x ρ K' hx ⟨v7, v8, rfl⟩ hK
    obtain ⟨rfl, _⟩ := intL_at hx
    walk_at "dl"
    refine ⟨_, sh, bs, ws, na, se, hs, rfl, by decide, P, fun wd lw => ?_⟩
    refine ⟨fun ρ => ∃ (s : Str) (v7 : Sl), ρ = [.un, .dt .sto, .dt (planD sh bs ws na se hs), .dt (tabD ks hs2), .dt (yardD K sh bs.reverse (ws.map .int) na se), .dt (worldD K sh bs.reverse (ws.map .int) na se (fOf bs hs)), .dt (worldD K sh bs.reverse (ws.map .int) na se (fOf ks hs2)), v7, .dt (.str s)], ?_, ?_⟩
    · walk_at "dl"
      split
      · refine ⟨.lst (sh.map .str), rfl, ?_⟩
        simp only [s_pick]
        refine ⟨by rw [List.length_map]; omega, by rw [List.length_map]; omega, fun x hx => ?_⟩
        obtain ⟨s0, _, rfl⟩ := List.mem_map.mp hx
        exact ⟨s0, rfl⟩
      · exact ⟨wd, rfl⟩
    rintro ρ ⟨s, v7, rfl⟩
    walk_at "dl"
    refine ⟨_, sh, bs, ws, na, se, hs, rfl, by decide, P, fun w2 _ => isf (List.Perm.refl _) P.m.t ?_⟩
    dsimp only
    rw [if_neg (by decide)]
    refine ⟨_, sh, bs, ws, na, se, hs, rfl, by decide, P, fun w3 _ => ?_⟩
    simp only [s_not_name]
    refine fun w4 _ _ => isf p t2 ?_
    dsimp only
    rw [if_neg (by decide)]
    exact hK _ ⟨_, _, rfl⟩
  rintro ρ ⟨v7, v8, rfl⟩
  walk_at "dl"
  refine ⟨⟨_, _, rfl⟩, sh, bs.reverse, _, na, se, fOf bs hs, rfl, tabD bs hs, rfl, bs, hs, rfl, P.m.t.l.symm, by omega, ?_⟩
  rw [srtS_of (List.reverse_perm bs)]
  refine ⟨rfl, fl_tstr 3 (fOf bs hs) _, ?_⟩
  dsimp only
  rw [if_neg (by decide)]
  refine ⟨⟨_, _, rfl⟩, sh, bs.reverse, _, na, se, fOf ks hs2, rfl, ks, hs2, rfl, t2.l.symm, by have := p.length_eq; omega, ?_⟩
  rw [srtS_of ((List.reverse_perm bs).trans p.symm)]
  refine ⟨rfl, fl_tstr 3 (fOf ks hs2) _, ?_⟩
  dsimp only
  rw [if_neg (by decide)]
  exact ⟨tabD bs hs, rfl, isr (List.Perm.refl _) P.m.t rfl⟩
end DL
namespace DL
open PySem PySem.Spec PyProof.Rows L2 NW
open C8 (tCut pss_cut)
structure Txt (K : PySem.W.Frag) (mg : Str → Option Value) : Prop where
  g_mix : mg "_law_mix" = some (.ref (He.ga K "_law_mix"))
  F_mix : ∃ fd, FunD K "_law_mix" "_law_mix" (defArgs q_mix) (defBody q_mix) (defScope q_mix) [] [] (He.ga K "_law_mix") fd
  g_take : mg "_law_take" = some (.ref (He.ga K "_law_take"))
  F_take : ∃ fd, FunD K "_law_take" "_law_take" (defArgs q_take) (defBody q_take) (defScope q_take) [] [] (He.ga K "_law_take") fd
  g_store : mg "_law_store" = some (.ref (He.ga K "_law_store"))
  F_store : ∃ fd, FunD K "_law_store" "_law_store" (defArgs q_store) (defBody q_store) (defScope q_store) [] [] (He.ga K "_law_store") fd
  g_same : mg "_law_same" = some (.ref (He.ga K "_law_same"))
  F_same : ∃ fd, FunD K "_law_same" "_law_same" (defArgs q_same) (defBody q_same) (defScope q_same) [] [] (He.ga K "_law_same") fd
  g_number : mg "_law_number" = some (.ref (He.ga K "_law_number"))
  F_number : ∃ fd, FunD K "_law_number" "_law_number" (defArgs q_number) (defBody q_number) (defScope q_number) [] [] (He.ga K "_law_number") fd
  g_pick : mg "_law_pick" = some (.ref (He.ga K "_law_pick"))
  F_pick : ∃ fd, FunD K "_law_pick" "_law_pick" (defArgs q_pick) (defBody q_pick) (defScope q_pick) [] [] (He.ga K "_law_pick") fd
  g_shuffled : mg "_law_shuffled" = some (.ref (He.ga K "_law_shuffled"))
  F_shuffled : ∃ fd, FunD K "_law_shuffled" "_law_shuffled" (defArgs q_shuffled) (defBody q_shuffled) (defScope q_shuffled) [] [] (He.ga K "_law_shuffled") fd
  g_sign : mg "_law_sign" = some (.ref (He.ga K "_law_sign"))
  F_sign : ∃ fd, FunD K "_law_sign" "_law_sign" (defArgs q_sign) (defBody q_sign) (defScope q_sign) [] [] (He.ga K "_law_sign") fd
  g_name_of : mg "_law_name_of" = some (.ref (He.ga K "_law_name_of"))
  F_name_of : ∃ fd, FunD K "_law_name_of" "_law_name_of" (defArgs q_name_of) (defBody q_name_of) (defScope q_name_of) [] [] (He.ga K "_law_name_of") fd
  g_name : mg "_law_name" = some (.ref (He.ga K "_law_name"))
  F_name : ∃ fd, FunD K "_law_name" "_law_name" (defArgs q_name) (defBody q_name) (defScope q_name) [] [] (He.ga K "_law_name") fd
  g_unlike : mg "_law_unlike" = some (.ref (He.ga K "_law_unlike"))
  F_unlike : ∃ fd, FunD K "_law_unlike" "_law_unlike" (defArgs q_unlike) (defBody q_unlike) (defScope q_unlike) [] [] (He.ga K "_law_unlike") fd
  g_name_like : mg "_law_name_like" = some (.ref (He.ga K "_law_name_like"))
  F_name_like : ∃ fd, FunD K "_law_name_like" "_law_name_like" (defArgs q_name_like) (defBody q_name_like) (defScope q_name_like) [] [] (He.ga K "_law_name_like") fd
  g_names : mg "_law_names" = some (.ref (He.ga K "_law_names"))
  F_names : ∃ fd, FunD K "_law_names" "_law_names" (defArgs q_names) (defBody q_names) (defScope q_names) [] [] (He.ga K "_law_names") fd
  g_not_name : mg "_law_not_name" = some (.ref (He.ga K "_law_not_name"))
  F_not_name : ∃ fd, FunD K "_law_not_name" "_law_not_name" (defArgs q_not_name) (defBody q_not_name) (defScope q_not_name) [] [] (He.ga K "_law_not_name") fd
  g_marked : mg "_law_marked" = some (.ref (He.ga K "_law_marked"))
  F_marked : ∃ fd, FunD K "_law_marked" "_law_marked" (defArgs q_marked) (defBody q_marked) (defScope q_marked) [] [] (He.ga K "_law_marked") fd
  g_tree : mg "_law_tree" = some (.ref (He.ga K "_law_tree"))
  F_tree : ∃ fd, FunD K "_law_tree" "_law_tree" (defArgs q_tree) (defBody q_tree) (defScope q_tree) [] [] (He.ga K "_law_tree") fd
  g_weights : mg "_law_weights" = some (.ref (He.ga K "_law_weights"))
  F_weights : ∃ fd, FunD K "_law_weights" "_law_weights" (defArgs q_weights) (defBody q_weights) (defScope q_weights) [] [] (He.ga K "_law_weights") fd
  g_plan_of : mg "_law_plan_of" = some (.ref (He.ga K "_law_plan_of"))
  F_plan_of : ∃ fd, FunD K "_law_plan_of" "_law_plan_of" (defArgs q_plan_of) (defBody q_plan_of) (defScope q_plan_of) [] [] (He.ga K "_law_plan_of") fd
  g_plan : mg "_law_plan" = some (.ref (He.ga K "_law_plan"))
  F_plan : ∃ fd, FunD K "_law_plan" "_law_plan" (defArgs q_plan) (defBody q_plan) (defScope q_plan) [] [] (He.ga K "_law_plan") fd
  g_Pis_name : mg "is_name" = some (.ref (He.ga K "is_name"))
  F_Pis_name : ∃ fd, FunD K "is_name" "is_name" (defArgs q_Pis_name) (defBody q_Pis_name) (defScope q_Pis_name) [] [] (He.ga K "is_name") fd
  g_Pvalid_name : mg "valid_name" = some (.ref (He.ga K "valid_name"))
  F_Pvalid_name : ∃ fd, FunD K "valid_name" "valid_name" (defArgs q_Pvalid_name) (defBody q_Pvalid_name) (defScope q_Pvalid_name) [] [] (He.ga K "valid_name") fd
  g_Pis_number : mg "is_number" = some (.ref (He.ga K "is_number"))
  F_Pis_number : ∃ fd, FunD K "is_number" "is_number" (defArgs q_Pis_number) (defBody q_Pis_number) (defScope q_Pis_number) [] [] (He.ga K "is_number") fd
  g_Pvalid_weight : mg "valid_weight" = some (.ref (He.ga K "valid_weight"))
  F_Pvalid_weight : ∃ fd, FunD K "valid_weight" "valid_weight" (defArgs q_Pvalid_weight) (defBody q_Pvalid_weight) (defScope q_Pvalid_weight) [] [] (He.ga K "valid_weight") fd
  g_P_require_count : mg "_require_count" = some (.ref (He.ga K "_require_count"))
  F_P_require_count : ∃ fd, FunD K "_require_count" "_require_count" (defArgs q_P_require_count) (defBody q_P_require_count) (defScope q_P_require_count) [] [] (He.ga K "_require_count") fd
  g_P_require_shelves : mg "_require_shelves" = some (.ref (He.ga K "_require_shelves"))
  F_P_require_shelves : ∃ fd, FunD K "_require_shelves" "_require_shelves" (defArgs q_P_require_shelves) (defBody q_P_require_shelves) (defScope q_P_require_shelves) [] [] (He.ga K "_require_shelves") fd
  g_P_require_listed : mg "_require_listed" = some (.ref (He.ga K "_require_listed"))
  F_P_require_listed : ∃ fd, FunD K "_require_listed" "_require_listed" (defArgs q_P_require_listed) (defBody q_P_require_listed) (defScope q_P_require_listed) [] [] (He.ga K "_require_listed") fd
  g_P_require_boxes : mg "_require_boxes" = some (.ref (He.ga K "_require_boxes"))
  F_P_require_boxes : ∃ fd, FunD K "_require_boxes" "_require_boxes" (defArgs q_P_require_boxes) (defBody q_P_require_boxes) (defScope q_P_require_boxes) [] [] (He.ga K "_require_boxes") fd
  g_Prequire_box : mg "require_box" = some (.ref (He.ga K "require_box"))
  F_Prequire_box : ∃ fd, FunD K "require_box" "require_box" (defArgs q_Prequire_box) (defBody q_Prequire_box) (defScope q_Prequire_box) [] [] (He.ga K "require_box") fd
  g_Pis_holder : mg "is_holder" = some (.ref (He.ga K "is_holder"))
  F_Pis_holder : ∃ fd, FunD K "is_holder" "is_holder" (defArgs q_Pis_holder) (defBody q_Pis_holder) (defScope q_Pis_holder) [] [] (He.ga K "is_holder") fd
  g_Prequire_holder : mg "require_holder" = some (.ref (He.ga K "require_holder"))
  F_Prequire_holder : ∃ fd, FunD K "require_holder" "require_holder" (defArgs q_Prequire_holder) (defBody q_Prequire_holder) (defScope q_Prequire_holder) [] [] (He.ga K "require_holder") fd
  g_P_meets_itself : mg "_meets_itself" = some (.ref (He.ga K "_meets_itself"))
  F_P_meets_itself : ∃ fd, FunD K "_meets_itself" "_meets_itself" (defArgs q_P_meets_itself) (defBody q_P_meets_itself) (defScope q_P_meets_itself) [] [] (He.ga K "_meets_itself") fd
  g_Pleast_looped : mg "least_looped" = some (.ref (He.ga K "least_looped"))
  F_Pleast_looped : ∃ fd, FunD K "least_looped" "least_looped" (defArgs q_Pleast_looped) (defBody q_Pleast_looped) (defScope q_Pleast_looped) [] [] (He.ga K "least_looped") fd
  g_Pchain : mg "chain" = some (.ref (He.ga K "chain"))
  F_Pchain : ∃ fd, FunD K "chain" "chain" (defArgs q_Pchain) (defBody q_Pchain) (defScope q_Pchain) [] [] (He.ga K "chain") fd
  g_Pheld : mg "held" = some (.ref (He.ga K "held"))
  F_Pheld : ∃ fd, FunD K "held" "held" (defArgs q_Pheld) (defBody q_Pheld) (defScope q_Pheld) [] [] (He.ga K "held") fd
  g_Pall_held : mg "all_held" = some (.ref (He.ga K "all_held"))
  F_Pall_held : ∃ fd, FunD K "all_held" "all_held" (defArgs q_Pall_held) (defBody q_Pall_held) (defScope q_Pall_held) [] [] (He.ga K "all_held") fd
  g_Pis_within : mg "is_within" = some (.ref (He.ga K "is_within"))
  F_Pis_within : ∃ fd, FunD K "is_within" "is_within" (defArgs q_Pis_within) (defBody q_Pis_within) (defScope q_Pis_within) [] [] (He.ga K "is_within") fd
  g_yard : mg "_law_yard" = some (.ref (He.ga K "_law_yard"))
  F_yard : ∃ fd, FunD K "_law_yard" "_law_yard" (defArgs q_yard) (defBody q_yard) (defScope q_yard) [] [] (He.ga K "_law_yard") fd
  g_chain : mg "_law_chain" = some (.ref (He.ga K "_law_chain"))
  F_chain : ∃ fd, FunD K "_law_chain" "_law_chain" (defArgs q_chain) (defBody q_chain) (defScope q_chain) [] [] (He.ga K "_law_chain") fd
  g_inside : mg "_law_inside" = some (.ref (He.ga K "_law_inside"))
  F_inside : ∃ fd, FunD K "_law_inside" "_law_inside" (defArgs q_inside) (defBody q_inside) (defScope q_inside) [] [] (He.ga K "_law_inside") fd
  g_row : mg "_law_row" = some (.ref (He.ga K "_law_row"))
  F_row : ∃ fd, FunD K "_law_row" "_law_row" (defArgs q_row) (defBody q_row) (defScope q_row) [] [] (He.ga K "_law_row") fd
  g_any_table : mg "_law_any_table" = some (.ref (He.ga K "_law_any_table"))
  F_any_table : ∃ fd, FunD K "_law_any_table" "_law_any_table" (defArgs q_any_table) (defBody q_any_table) (defScope q_any_table) [] [] (He.ga K "_law_any_table") fd
  g_word : mg "_law_word" = some (.ref (He.ga K "_law_word"))
  F_word : ∃ fd, FunD K "_law_word" "_law_word" (defArgs q_word) (defBody q_word) (defScope q_word) [] [] (He.ga K "_law_word") fd
  g_asked : mg "_law_asked" = some (.ref (He.ga K "_law_asked"))
  F_asked : ∃ fd, FunD K "_law_asked" "_law_asked" (defArgs q_asked) (defBody q_asked) (defScope q_asked) [] [] (He.ga K "_law_asked") fd
  g_is_row : mg "_law_is_row" = some (.ref (He.ga K "_law_is_row"))
  F_is_row : ∃ fd, FunD K "_law_is_row" "_law_is_row" (defArgs q_is_row) (defBody q_is_row) (defScope q_is_row) [] [] (He.ga K "_law_is_row") fd
  g_is_right : mg "_law_is_right" = some (.ref (He.ga K "_law_is_right"))
  F_is_right : ∃ fd, FunD K "_law_is_right" "_law_is_right" (defArgs q_is_right) (defBody q_is_right) (defScope q_is_right) [] [] (He.ga K "_law_is_right") fd
  g_is_refused : mg "_law_is_refused" = some (.ref (He.ga K "_law_is_refused"))
  F_is_refused : ∃ fd, FunD K "_law_is_refused" "_law_is_refused" (defArgs q_is_refused) (defBody q_is_refused) (defScope q_is_refused) [] [] (He.ga K "_law_is_refused") fd
  g_law : mg "law" = some (.ref (He.ga K "law"))
  F_law : ∃ fd, FunD K "law" "law" (defArgs q_law) (defBody q_law) (defScope q_law) [] [] (He.ga K "law") fd
  z_ValueError : mg "ValueError" = none
  z_abs : mg "abs" = none
  z_all : mg "all" = none
  z_bool : mg "bool" = none
  z_dict : mg "dict" = none
  z_enumerate : mg "enumerate" = none
  z_int : mg "int" = none
  z_isinstance : mg "isinstance" = none
  z_iter : mg "iter" = none
  z_len : mg "len" = none
  z_list : mg "list" = none
  z_max : mg "max" = none
  z_min : mg "min" = none
  z_range : mg "range" = none
  z_sorted : mg "sorted" = none
  z_str : mg "str" = none
  z_tuple : mg "tuple" = none
  k_DIGITS : ∃ t, mg "DIGITS" = some (.str "0123456789" t)
  k_LETTERS : ∃ t, mg "LETTERS" = some (.str "abcdefghijklmnopqrstuvwxyz" t)
  k_LONGEST_NAME : ∃ t, mg "LONGEST_NAME" = some (.int 8 t)
  k_MOST_WEIGHT : ∃ t, mg "MOST_WEIGHT" = some (.int 1000000000 t)
  c_BadCount : mg "BadCount" = some (.ref (He.ga K "BadCount"))
  c_BadName : mg "BadName" = some (.ref (He.ga K "BadName"))
  c_BadWeight : mg "BadWeight" = some (.ref (He.ga K "BadWeight"))
  c_Inside : mg "Inside" = some (.ref (He.ga K "Inside"))
  c_Loop : mg "Loop" = some (.ref (He.ga K "Loop"))
  c_NestError : mg "NestError" = some (.ref (He.ga K "NestError"))
  c_NoHolder : mg "NoHolder" = some (.ref (He.ga K "NoHolder"))
  c_Refusal : mg "Refusal" = some (.ref (He.ga K "Refusal"))
  c_Same : mg "Same" = some (.ref (He.ga K "Same"))
  c_Twice : mg "Twice" = some (.ref (He.ga K "Twice"))
  c_Unknown : mg "Unknown" = some (.ref (He.ga K "Unknown"))
  c_World : mg "World" = some (.ref (He.ga K "World"))
  c_Yard : mg "Yard" = some (.ref (He.ga K "Yard"))
  e_BadCount : ErrN K (He.ga K "BadCount") "BadCount.__init__" ["what", "many"] (defArgs q_BadCount) (defBody q_BadCount) (defScope q_BadCount)
  e_BadName : ErrN K (He.ga K "BadName") "BadName.__init__" ["name"] (defArgs q_BadName) (defBody q_BadName) (defScope q_BadName)
  e_BadWeight : ErrN K (He.ga K "BadWeight") "BadWeight.__init__" ["weight"] (defArgs q_BadWeight) (defBody q_BadWeight) (defScope q_BadWeight)
  e_Loop : ErrN K (He.ga K "Loop") "Loop.__init__" ["name"] (defArgs q_Loop) (defBody q_Loop) (defScope q_Loop)
  e_NoHolder : ErrN K (He.ga K "NoHolder") "NoHolder.__init__" ["name"] (defArgs q_NoHolder) (defBody q_NoHolder) (defScope q_NoHolder)
  e_Twice : ErrN K (He.ga K "Twice") "Twice.__init__" ["name"] (defArgs q_Twice) (defBody q_Twice) (defScope q_Twice)
  e_Unknown : ErrN K (He.ga K "Unknown") "Unknown.__init__" ["name"] (defArgs q_Unknown) (defBody q_Unknown) (defScope q_Unknown)
  cl_Yard : Cls K (He.ga K "Yard")
  na_Yard__boxes : NoAttr K (He.ga K "Yard") "_boxes"
  na_Yard__holders : NoAttr K (He.ga K "Yard") "_holders"
  na_Yard__nailed : NoAttr K (He.ga K "Yard") "_nailed"
  na_Yard__sealed : NoAttr K (He.ga K "Yard") "_sealed"
  na_Yard__shelves : NoAttr K (He.ga K "Yard") "_shelves"
  na_Yard__weights : NoAttr K (He.ga K "Yard") "_weights"
  ci_Yard : CInst K (He.ga K "Yard")
  nf_Yard : NFs K (He.ga K "Yard")
  cv_Yard_MOST_BOXES : ∃ mc u, ClX.CRead K (He.ga K "Yard") mc ∧ ClX.CVal K (He.ga K "Yard") mc "MOST_BOXES" (.int 12) u
  cv_Yard_MOST_SHELVES : ∃ mc u, ClX.CRead K (He.ga K "Yard") mc ∧ ClX.CVal K (He.ga K "Yard") mc "MOST_SHELVES" (.int 4) u
  cl_World : Cls K (He.ga K "World")
  na_World__row : NoAttr K (He.ga K "World") "_row"
  na_World__table : NoAttr K (He.ga K "World") "_table"
  na_World__yard : NoAttr K (He.ga K "World") "_yard"
  ci_World : CInst K (He.ga K "World")
  nf_World : NFs K (He.ga K "World")
  FI_Yard : ∃ f fd, Mk K (He.ga K "Yard") f ∧ FunD K "__init__" "Yard.__init__" (defArgs q_PYard___init__) (defBody q_PYard___init__) (defScope q_PYard___init__) [] [("nailed", .ref (kwAt ("Yard", some "__init__") "nailed" K)), ("sealed", .ref (kwAt ("Yard", some "__init__") "sealed" K))] f fd
  FM_Yard_is_box : ∃ f fd, Meth K (He.ga K "Yard") "is_box" f ∧ FunD K "is_box" "Yard.is_box" (defArgs q_PYard_is_box) (defBody q_PYard_is_box) (defScope q_PYard_is_box) [] [] f fd
  FM_Yard_is_shelf : ∃ f fd, Meth K (He.ga K "Yard") "is_shelf" f ∧ FunD K "is_shelf" "Yard.is_shelf" (defArgs q_PYard_is_shelf) (defBody q_PYard_is_shelf) (defScope q_PYard_is_shelf) [] [] f fd
  FM_Yard___iter__ : ∃ f fd, Meth K (He.ga K "Yard") "__iter__" f ∧ FunD K "__iter__" "Yard.__iter__" (defArgs q_PYard___iter__) (defBody q_PYard___iter__) (defScope q_PYard___iter__) [] [] f fd
  FI_World : ∃ f fd, Mk K (He.ga K "World") f ∧ FunD K "__init__" "World.__init__" (defArgs q_PWorld___init__) (defBody q_PWorld___init__) (defScope q_PWorld___init__) [] [] f fd
  FP_World_yard : ∃ p g fd, PropOf K (He.ga K "World") "yard" p g ∧ FunD K "yard" "World.yard" (defArgs q_PWorld_yard) (defBody q_PWorld_yard) (defScope q_PWorld_yard) [] [] g fd
  FP_World_row : ∃ p g fd, PropOf K (He.ga K "World") "row" p g ∧ FunD K "row" "World.row" (defArgs q_PWorld_row) (defBody q_PWorld_row) (defScope q_PWorld_row) [] [] g fd
  FM_World_holder : ∃ f fd, Meth K (He.ga K "World") "holder" f ∧ FunD K "holder" "World.holder" (defArgs q_PWorld_holder) (defBody q_PWorld_holder) (defScope q_PWorld_holder) [] [] f fd
  FM_World___iter__ : ∃ f fd, Meth K (He.ga K "World") "__iter__" f ∧ FunD K "__iter__" "World.__iter__" (defArgs q_PWorld___iter__) (defBody q_PWorld___iter__) (defScope q_PWorld___iter__) [] [] f fd
  eg : ErrsG K (["BadName", "Inside", "Refusal", "Same"] : List PySem.Str) (["Unknown"] : List PySem.Str)
  xm : ∀ p ∈ ([("Unknown", "NestError"), ("Unknown", "Unknown")] : List (PySem.Str × PySem.Str)), PySem.W.exmOne K (.ref (He.ga K p.1)) (.ref (He.ga K p.2)) = some (inL (kindsOf p.1) p.2)
  fldE : ∀ p ∈ ([("Unknown", "name")] : List (PySem.Str × PySem.Str)), PySem.W.findIn K (.ref (He.ga K p.1)) p.2 = some none
section
variable {P : Program} {w : World} {K : PySem.W.Frag} {mg : Str → Option Value} {base : Heap} {p : Addr × Obj}
theorem EG (T : Txt K mg) {L : List Str} (h : ∀ c ∈ L, c ∈ (["Unknown"] : List PySem.Str) := by decide +kernel) : ErrsG K (["BadName", "Inside", "Refusal", "Same"] : List PySem.Str) L := ⟨fun c z => T.eg.f c (h c z)⟩
theorem XM (T : Txt K mg) {L cs : List Str} (h : ∀ cn ∈ L, ∀ c ∈ cs, (cn, c) ∈ ([("Unknown", "NestError"), ("Unknown", "Unknown")] : List (PySem.Str × PySem.Str)) := by decide +kernel) : XmOk K L cs := fun cn hn c hc => T.xm (cn, c) (h cn hn c hc)
theorem LX (T : Txt K mg) {L : List (Str × Str)} (h : ∀ c ∈ L, c ∈ ([("Unknown", "name")] : List (PySem.Str × PySem.Str)) ∧ c.1 ∈ (["Unknown"] : List PySem.Str) := by decide +kernel) : ∀ c ∈ L, XfC K (He.ga K c.1) ∧ PySem.W.findIn K (.ref (He.ga K c.1)) c.2 = some none := fun c z => ⟨(T.eg.f c.1 (h c z).2).xf, T.fldE c (h c z).1⟩
theorem sc_BadCount : FnScope (["self", "what", "many"] : List Str) (["self", "what", "many"] : List Str) (defScope q_BadCount) := ⟨rfl, rfl, rfl, by decide +kernel, rfl, by decide +kernel, by decide +kernel⟩
theorem i_BadCount (T : Txt K mg) : InitOk P w K mg base (He.ga K "BadCount") 1 (["self", "what", "many"] : List Str) (sp_initE K (He.ga K "BadCount") ["what", "many"]) :=
  initN (by decide) (by decide) T.e_BadCount sc_BadCount (fun _ _ _ _ _ _ us hl => match us, hl with | [_, _, _], _ => rfl) (fun _ _ _ _ _ _ _ => (pss_cons (ps_ost (pv 0) (pv 1)) (pss_cons (ps_ost (pv 0) (pv 2)) pss_nil)))
theorem sc_BadName : FnScope (["self", "name"] : List Str) (["self", "name"] : List Str) (defScope q_BadName) := ⟨rfl, rfl, rfl, by decide +kernel, rfl, by decide +kernel, by decide +kernel⟩
theorem sc_BadWeight : FnScope (["self", "weight"] : List Str) (["self", "weight"] : List Str) (defScope q_BadWeight) := ⟨rfl, rfl, rfl, by decide +kernel, rfl, by decide +kernel, by decide +kernel⟩
theorem sc_Loop : FnScope (["self", "name"] : List Str) (["self", "name"] : List Str) (defScope q_Loop) := ⟨rfl, rfl, rfl, by decide +kernel, rfl, by decide +kernel, by decide +kernel⟩
theorem sc_NoHolder : FnScope (["self", "name"] : List Str) (["self", "name"] : List Str) (defScope q_NoHolder) := ⟨rfl, rfl, rfl, by decide +kernel, rfl, by decide +kernel, by decide +kernel⟩
theorem sc_Twice : FnScope (["self", "name"] : List Str) (["self", "name"] : List Str) (defScope q_Twice) := ⟨rfl, rfl, rfl, by decide +kernel, rfl, by decide +kernel, by decide +kernel⟩
theorem sc_Unknown : FnScope (["self", "name"] : List Str) (["self", "name"] : List Str) (defScope q_Unknown) := ⟨rfl, rfl, rfl, by decide +kernel, rfl, by decide +kernel, by decide +kernel⟩
theorem i1_BadName (T : Txt K mg) : InitOk P w K mg base (He.ga K "BadName") 1 (["self", "name"] : List Str) (sp_init1 K (He.ga K "BadName") "name") :=
  init1 ⟨T.e_BadName.o, T.e_BadName.n "name" List.mem_cons_self, T.e_BadName.ex⟩ sc_BadName (fun _ _ _ _ _ _ us hl => match us, hl with | [_, _], _ => rfl) (fun _ _ _ _ _ _ _ => pss_one (ps_ost (pv 0) (pv 1)))
theorem i1_BadWeight (T : Txt K mg) : InitOk P w K mg base (He.ga K "BadWeight") 1 (["self", "weight"] : List Str) (sp_init1 K (He.ga K "BadWeight") "weight") :=
  init1 ⟨T.e_BadWeight.o, T.e_BadWeight.n "weight" List.mem_cons_self, T.e_BadWeight.ex⟩ sc_BadWeight (fun _ _ _ _ _ _ us hl => match us, hl with | [_, _], _ => rfl) (fun _ _ _ _ _ _ _ => pss_one (ps_ost (pv 0) (pv 1)))
theorem i1_Loop (T : Txt K mg) : InitOk P w K mg base (He.ga K "Loop") 1 (["self", "name"] : List Str) (sp_init1 K (He.ga K "Loop") "name") :=
  init1 ⟨T.e_Loop.o, T.e_Loop.n "name" List.mem_cons_self, T.e_Loop.ex⟩ sc_Loop (fun _ _ _ _ _ _ us hl => match us, hl with | [_, _], _ => rfl) (fun _ _ _ _ _ _ _ => pss_one (ps_ost (pv 0) (pv 1)))
theorem i1_NoHolder (T : Txt K mg) : InitOk P w K mg base (He.ga K "NoHolder") 1 (["self", "name"] : List Str) (sp_init1 K (He.ga K "NoHolder") "name") :=
  init1 ⟨T.e_NoHolder.o, T.e_NoHolder.n "name" List.mem_cons_self, T.e_NoHolder.ex⟩ sc_NoHolder (fun _ _ _ _ _ _ us hl => match us, hl with | [_, _], _ => rfl) (fun _ _ _ _ _ _ _ => pss_one (ps_ost (pv 0) (pv 1)))
theorem i1_Twice (T : Txt K mg) : InitOk P w K mg base (He.ga K "Twice") 1 (["self", "name"] : List Str) (sp_init1 K (He.ga K "Twice") "name") :=
  init1 ⟨T.e_Twice.o, T.e_Twice.n "name" List.mem_cons_self, T.e_Twice.ex⟩ sc_Twice (fun _ _ _ _ _ _ us hl => match us, hl with | [_, _], _ => rfl) (fun _ _ _ _ _ _ _ => pss_one (ps_ost (pv 0) (pv 1)))
theorem i1_Unknown (T : Txt K mg) : InitOk P w K mg base (He.ga K "Unknown") 1 (["self", "name"] : List Str) (sp_init1 K (He.ga K "Unknown") "name") :=
  init1 ⟨T.e_Unknown.o, T.e_Unknown.n "name" List.mem_cons_self, T.e_Unknown.ex⟩ sc_Unknown (fun _ _ _ _ _ _ us hl => match us, hl with | [_, _], _ => rfl) (fun _ _ _ _ _ _ _ => pss_one (ps_ost (pv 0) (pv 1)))
theorem sc_mix : FnScope ["seed", "turn", "one", "two"] ["seed", "turn"] (defScope q_mix) := ⟨rfl, rfl, rfl, by decide +kernel, rfl, by decide +kernel, by decide +kernel⟩
theorem h_mix (T : Txt K mg) : Has P w K mg base "_law_mix" 1 ["seed", "turn"] sp_mix := by
  refine has_of (N := ["seed", "turn", "one", "two"]) (k := 0) (t := t_mix K) T.g_mix T.F_mix sc_mix NW.l_mix (fun _ _ _ _ _ _ us hl => match us, hl with | [_, _], _ => rfl) (fun cdv A outer s H E hr => ?_) (p_mix K)
  exact (pss_cons (ps_set (i := 2) sc_mix.nd rfl (Or.inl rfl) (pe_op oMod (pe_op oAdd (pe_op oAdd (pe_op oMul (pe_callTy cInt (by rfl) T.z_int (by decide +kernel) (pa_cons (pv 0) pa_nil)) pe_int) (pe_op oMul (pe_callTy cInt (by rfl) T.z_int (by decide +kernel) (pa_cons (pv 1) pa_nil)) pe_int)) pe_int) pe_int))
    (pss_cons (ps_set (i := 3) sc_mix.nd rfl (Or.inl rfl) (pe_op oMod (pe_op oAdd (pe_op oAdd (pe_op oAdd (pe_op oMul (pv 2) (pv 2)) (pv 2)) (pe_callTy cInt (by rfl) T.z_int (by decide +kernel) (pa_cons (pv 0) pa_nil))) (pe_callTy cInt (by rfl) T.z_int (by decide +kernel) (pa_cons (pv 1) pa_nil))) pe_int))
    (pss_one (ps_ret (pe_op oMod (pe_op oAdd (pe_op oAdd (pe_op oMul (pv 3) (pv 3)) (pe_op oMul pe_int (pv 3))) (pv 2)) pe_int)))))
theorem sc_take : FnScope ["store", "many", "cell", "digits", "number", "room", "k"] ["store", "many"] (defScope q_take) := ⟨rfl, rfl, rfl, by decide +kernel, rfl, by decide +kernel, by decide +kernel⟩
theorem h0_take (T : Txt K mg) : Has P w K mg base "_law_take" 2 ["store", "many"] sp_take := by
  refine has_of (N := ["store", "many", "cell", "digits", "number", "room", "k"]) (k := 1) (t := t_take K) T.g_take T.F_take sc_take NW.l_take (fun _ _ _ _ _ _ us hl => match us, hl with | [_, _], _ => rfl) (fun cdv A outer s H E hr => ?_) (p_take K)
  exact (pss_cons (ps_if (pt_cmpR oLt (pv 1) pe_int (nomark _)) (pss_one (ps_ret pe_int)) pss_nil)
    (pss_cut (ps_if (pw_and (pt_cmpR oEq (pe_ix oIx (pv 0) pe_int (fun _ _ => rfl)) pe_int (nomark _)) (pw_and (pt_cmpR oEq (pe_ix oIx (pv 0) pe_int (fun _ _ => rfl)) pe_int (nomark _)) (pw_and1 (pt_cmpR oLt (pe_ix oIx (pv 0) pe_int (fun _ _ => rfl)) (pe_callB cLen (by rfl) T.z_len (by decide +kernel) (pa_cons (pe_ix oIx (pv 0) pe_int (fun _ _ => rfl)) pa_nil)) (nomark _))))).pt (pss_cons (ps_set (i := 2) sc_take.nd rfl (Or.inl rfl) (pe_callTy cInt (by rfl) T.z_int (by decide +kernel) (pa_cons (pe_ix oIx (pe_ix oIx (pv 0) pe_int (fun _ _ => rfl)) (pe_ix oIx (pv 0) pe_int (fun _ _ => rfl)) (fun _ _ => rfl)) pa_nil)))
    (pss_cons (ps_augS (pv 0) pe_int getL pe_int ioAdd oSet)
    (pss_cons (ps_asg (pe_op oMod (pe_callTy cInt (by rfl) T.z_int (by decide +kernel) (pa_cons (pe_op oAdd (pe_op oMul (pe_ix oIx (pv 0) pe_int (fun _ _ => rfl)) pe_int) (pv 2)) pa_nil)) pe_int) (pg_sub (pv 0) pe_int oSet))
    (pss_one (ps_if (pt_cmpR oGe (pe_callB call_abs (by rfl) T.z_abs (by decide +kernel) (pa_cons (pv 2) pa_nil)) (pe_powc pe_int pe_int 1000000000000000000 (by decide +kernel)) (nomark _)) (pss_one (ps_asg (pe_callB call_abs (by rfl) T.z_abs (by decide +kernel) (pa_cons (pv 2) pa_nil)) (pg_sub (pv 0) pe_int oSet))) (pss_one (ps_asg pe_int (pg_sub (pv 0) pe_int oSet)))))))) pss_nil)
    (pss_cons (ps_augS (pv 0) pe_int getL pe_int ioAdd oSet)
    (pss_cons (ps_if (pt_cmpR oGt (pe_ix oIx (pv 0) pe_int (fun _ _ => rfl)) pe_int (nomark _)) (pss_cons (ps_set (i := 3) sc_take.nd rfl (Or.inl rfl) (pe_callTy cInt (by rfl) T.z_int (by decide +kernel) (pa_cons (pe_ix oIx (pv 0) pe_int (fun _ _ => rfl)) pa_nil)))
    (pss_cons (ps_asg (pe_op oDiv (pv 3) (pv 1)) (pg_sub (pv 0) pe_int oSet))
    (pss_one (ps_ret (pe_op oMod (pv 3) (pv 1)))))) pss_nil)
    (pss_cons (ps_asg (pe_callB (call_max2 rfl) (by rfl) T.z_max (by decide +kernel) (pa_cons pe_int (pa_cons (pe_op oSub (pe_ix oIx (pv 0) pe_int (fun _ _ => rfl)) pe_int) pa_nil))) (pg_sub (pv 0) pe_int oSet))
    (pss_cons (ps_set (i := 4) sc_take.nd rfl (Or.inl rfl) pe_int)
    (pss_cons (ps_set (i := 5) sc_take.nd rfl (Or.inl rfl) pe_int)
    (pss_cons (ps_for PassesOwn.never rfl (pi_range1 (by rfl) T.z_range (pa_cons pe_int pa_nil)) (pg_name (i := 6) sc_take.nd rfl (Or.inl rfl)) (pss_cons (ps_if (pt_cmpR oGe (pv 5) (pv 1) (nomark _)) (pss_one ps_break) pss_nil)
    (pss_cons (ps_set (i := 4) sc_take.nd rfl (Or.inl rfl) (pe_op oAdd (pe_op oMul (pv 4) pe_int) (pe_dc (h_mix T) hr (pa_cons (pe_ix oIx (pv 0) pe_int (fun _ _ => rfl)) (pa_cons (pe_op oAdd (pe_ix oIx (pv 0) pe_int (fun _ _ => rfl)) (pe_op oMul pe_int (pv 6))) pa_nil)))))
    (pss_one (ps_set (i := 5) sc_take.nd rfl (Or.inl rfl) (pe_op oMul (pv 5) pe_int))))))
    (pss_one (ps_ret (pe_op oMod (pe_callTy cInt (by rfl) T.z_int (by decide +kernel) (pa_cons (pv 4) pa_nil)) (pv 1))))))))))))
theorem h_take (T : Txt K mg) : Has P w K mg base "_law_take" 2 ["store", "many"] (dsp s_take) := Has.weak (h0_take T) take_weak
theorem sc_store : FnScope ["script"] ["script"] (defScope q_store) := ⟨rfl, rfl, rfl, by decide +kernel, rfl, by decide +kernel, by decide +kernel⟩
theorem h_store (T : Txt K mg) : Has P w K mg base "_law_store" 1 ["script"] (sp_store K) := by
  refine has_of (N := ["script"]) (k := 0) (t := t_store K) T.g_store T.F_store sc_store (l_store K) (fun _ _ _ _ _ _ us hl => match us, hl with | [_], _ => rfl) (fun cdv A outer s H E hr => ?_) (p_store K)
  exact (pss_one (ps_ret (pe_lst (pa_cons (pe_callTy cList (by rfl) T.z_list (by decide +kernel) (pa_cons (pv 0) pa_nil)) (pa_cons pe_int (pa_cons pe_int (pa_cons pe_int (pa_cons pe_int (pa_cons pe_int pa_nil)))))))))
theorem sc_same : FnScope ["one", "other", "k"] ["one", "other"] (defScope q_same) := ⟨rfl, rfl, rfl, by decide +kernel, rfl, by decide +kernel, by decide +kernel⟩
theorem h0_same (T : Txt K mg) : ∀ n, Has P w K mg base "_law_same" n ["one", "other"] (sp_same n)
  | 0 => has0 T.g_same T.F_same (fun _ _ _ _ _ _ us hl => match us, hl with | [_, _], _ => rfl) (fun _ _ _ _ h => h)
  | n + 1 => by
    have ih : Has P w K mg base "_law_same" n ["one", "other"] (sp_same n) := h0_same T n
    refine has_of (N := ["one", "other", "k"]) (k := n) (t := t_same K n) T.g_same T.F_same sc_same (NW.l_same (n + 1)) (fun _ _ _ _ _ _ us hl => match us, hl with | [_, _], _ => rfl) (fun cdv A outer s H E hr => ?_) (p_same K n)
    exact (pss_cons (ps_if (pw_or (pt_cmp (pc_isN (pv 0))) (pw_or1 (pt_cmp (pc_isN (pv 1))))).pt (pss_one (ps_ret (pe_and (pe_cmp (pc_isN (pv 0))) (pe_one (pe_cmp (pc_isN (pv 1))))))) pss_nil)
    (pss_cons (ps_if (pw_or (pt_truth (pe_callB cIsi (by rfl) T.z_isinstance (by decide +kernel) (pa_cons (pv 0) (pa_cons (pe_bltn (v := .ty "bool") (u := .type "bool") (by rfl) T.z_bool (by rfl) (by rfl)) pa_nil))) (fun _ => rfl)) (pw_or1 (pt_truth (pe_callB cIsi (by rfl) T.z_isinstance (by decide +kernel) (pa_cons (pv 1) (pa_cons (pe_bltn (v := .ty "bool") (u := .type "bool") (by rfl) T.z_bool (by rfl) (by rfl)) pa_nil))) (fun _ => rfl)))).pt (pss_one (ps_ret (pe_and (pe_callB cIsi (by rfl) T.z_isinstance (by decide +kernel) (pa_cons (pv 0) (pa_cons (pe_bltn (v := .ty "bool") (u := .type "bool") (by rfl) T.z_bool (by rfl) (by rfl)) pa_nil))) (pe_and (pe_callB cIsi (by rfl) T.z_isinstance (by decide +kernel) (pa_cons (pv 1) (pa_cons (pe_bltn (v := .ty "bool") (u := .type "bool") (by rfl) T.z_bool (by rfl) (by rfl)) pa_nil))) (pe_one (pe_cmpR oEq (pv 0) (pv 1) (nomark _))))))) pss_nil)
    (pss_cons (ps_if (pt_truth (pe_callB cIsi (by rfl) T.z_isinstance (by decide +kernel) (pa_cons (pv 0) (pa_cons (pe_bltn (v := .ty "int") (u := .type "int") (by rfl) T.z_int (by rfl) (by rfl)) pa_nil))) (fun _ => rfl)) (pss_one (ps_ret (pe_and (pe_callB cIsi (by rfl) T.z_isinstance (by decide +kernel) (pa_cons (pv 1) (pa_cons (pe_bltn (v := .ty "int") (u := .type "int") (by rfl) T.z_int (by rfl) (by rfl)) pa_nil))) (pe_one (pe_cmpR oEq (pv 0) (pv 1) (nomark _)))))) pss_nil)
    (pss_cons (ps_if (pt_truth (pe_callB cIsi (by rfl) T.z_isinstance (by decide +kernel) (pa_cons (pv 0) (pa_cons (pe_bltn (v := .ty "str") (u := .type "str") (by rfl) T.z_str (by rfl) (by rfl)) pa_nil))) (fun _ => rfl)) (pss_one (ps_ret (pe_and (pe_callB cIsi (by rfl) T.z_isinstance (by decide +kernel) (pa_cons (pv 1) (pa_cons (pe_bltn (v := .ty "str") (u := .type "str") (by rfl) T.z_str (by rfl) (by rfl)) pa_nil))) (pe_one (pe_cmpR oEq (pv 0) (pv 1) (nomark _)))))) pss_nil)
    (pss_cons (ps_if (pt_truth (pe_callB cIsi (by rfl) T.z_isinstance (by decide +kernel) (pa_cons (pv 0) (pa_cons (pe_bltn (v := .ty "dict") (u := .type "dict") (by rfl) T.z_dict (by rfl) (by rfl)) pa_nil))) (fun _ => rfl)) pss_never pss_nil)
    (pss_cons (ps_if (pw_and (pt_truth (pe_callB cIsi (by rfl) T.z_isinstance (by decide +kernel) (pa_cons (pv 0) (pa_cons (pe_bltn (v := .ty "list") (u := .type "list") (by rfl) T.z_list (by rfl) (by rfl)) pa_nil))) (fun _ => rfl)) (pw_and1 (pt_not (pt_truth (pe_callB cIsi (by rfl) T.z_isinstance (by decide +kernel) (pa_cons (pv 1) (pa_cons (pe_bltn (v := .ty "list") (u := .type "list") (by rfl) T.z_list (by rfl) (by rfl)) pa_nil))) (fun _ => rfl))))).pt (pss_one (ps_ret pe_bl)) pss_nil)
    (pss_cons (ps_if (pw_and (pt_truth (pe_callB cIsi (by rfl) T.z_isinstance (by decide +kernel) (pa_cons (pv 0) (pa_cons (pe_bltn (v := .ty "tuple") (u := .type "tuple") (by rfl) T.z_tuple (by rfl) (by rfl)) pa_nil))) (fun _ => rfl)) (pw_and1 (pt_not (pt_truth (pe_callB cIsi (by rfl) T.z_isinstance (by decide +kernel) (pa_cons (pv 1) (pa_cons (pe_bltn (v := .ty "tuple") (u := .type "tuple") (by rfl) T.z_tuple (by rfl) (by rfl)) pa_nil))) (fun _ => rfl))))).pt (pss_one (ps_ret pe_bl)) pss_nil)
    (pss_cons (ps_if (pw_or (pt_not (pt_truth (pe_callB cIsi (by rfl) T.z_isinstance (by decide +kernel) (pa_cons (pv 0) (pa_cons (pe_tup (pa_cons (pe_bltn (v := .ty "list") (u := .type "list") (by rfl) T.z_list (by rfl) (by rfl)) (pa_cons (pe_bltn (v := .ty "tuple") (u := .type "tuple") (by rfl) T.z_tuple (by rfl) (by rfl)) pa_nil))) pa_nil))) (fun _ => rfl))) (pw_or1 (pt_cmpR oNe (pe_callB cLen (by rfl) T.z_len (by decide +kernel) (pa_cons (pv 0) pa_nil)) (pe_callB cLen (by rfl) T.z_len (by decide +kernel) (pa_cons (pv 1) pa_nil)) (nomark _)))).pt (pss_one (ps_ret pe_bl)) pss_nil)
    (pss_cons (ps_for PassesOwn.never rfl (pi_range1 (by rfl) T.z_range (pa_cons (pe_callB cLen (by rfl) T.z_len (by decide +kernel) (pa_cons (pv 0) pa_nil)) pa_nil)) (pg_name (i := 2) sc_same.nd rfl (Or.inl rfl)) (pss_one (ps_if (pt_not (pt_truth (pe_dc ih hr (pa_cons (pe_ix oIx (pv 0) (pv 2) (fun _ _ => rfl)) (pa_cons (pe_ix oIx (pv 1) (pv 2) (fun _ _ => rfl)) pa_nil)) (Nat.le_refl _)) (fun _ => rfl))) (pss_one (ps_ret pe_bl)) pss_nil)))
    (pss_one (ps_ret pe_bl)))))))))))
theorem h_same (T : Txt K mg) : ∀ n, Has P w K mg base "_law_same" (n + 1) ["one", "other"] (dsp (s_same (n + 1))) := fun n => Has.weak (h0_same T (n + 1)) (same_weak n)
theorem sc_number : FnScope ["store", "low", "high", "manner"] ["store", "low", "high"] (defScope q_number) := ⟨rfl, rfl, rfl, by decide +kernel, rfl, by decide +kernel, by decide +kernel⟩
theorem h_number (T : Txt K mg) : Has P w K mg base "_law_number" 3 ["store", "low", "high"] (dsp (s_number)) := by
  refine has_of (N := ["store", "low", "high", "manner"]) (k := 2) (t := liftS (fun _ _ _ _ => False) (w_number)) T.g_number T.F_number sc_number (len_dsp (l_number)) (fun _ _ _ _ _ _ us hl => match us, hl with | [_, _, _], _ => rfl) (fun cdv A outer s H E hr => ?_) (dl_start (o_number))
  exact (dss (dasg 3 (fun _ h => ps_set (i := 3) sc_number.nd rfl (Or.inl rfl) h) (dcall (pe_dc (h_take T) hr (dac (dv 0 (pv 0)) (dac dc_int dan)))))
    (dss (difS (PW.pt (dor (dtcmp oEq opEq (dvP 3 (pv 3)) (dp dc_int) (nomark _)) (dor1 (dtcmp kLe opLe (dvP 2 (pv 2)) (dvP 1 (pv 1)) (nomark _))))) (dss1 (dret (dv 1 (pv 1)))) dss0)
    (dss (difS (dtcmp oEq opEq (dvP 3 (pv 3)) (dp dc_int) (nomark _)) (dss1 (dret (dv 2 (pv 2)))) dss0)
    (dss (difS (dtcmp oEq opEq (dvP 3 (pv 3)) (dp dc_int) (nomark _)) (dss1 (dret (dcb clMin (pe_callB (call_min2 rfl) (by rfl) T.z_min (by decide +kernel) (dbc (dvP 2 (pv 2)) (dbc (dp (dop oAdd opAdd (dp (dop oAdd opAdd (dvP 1 (pv 1)) (dp dc_int))) (dp (dcall (pe_dc (h_take T) hr (dac (dv 0 (pv 0)) (dac dc_int dan))))))) dbn)))))) dss0)
    (dss (difS (dtcmp oEq opEq (dvP 3 (pv 3)) (dp dc_int) (nomark _)) (dss1 (dret (dcb clMax (pe_callB (call_max2 rfl) (by rfl) T.z_max (by decide +kernel) (dbc (dvP 1 (pv 1)) (dbc (dp (dop oSub opSub (dp (dop oSub opSub (dvP 2 (pv 2)) (dp dc_int))) (dp (dcall (pe_dc (h_take T) hr (dac (dv 0 (pv 0)) (dac dc_int dan))))))) dbn)))))) dss0)
    (dss1 (dret (dop oAdd opAdd (dvP 1 (pv 1)) (dp (dcall (pe_dc (h_take T) hr (dac (dv 0 (pv 0)) (dac (dop oAdd opAdd (dp (dop oSub opSub (dvP 2 (pv 2)) (dvP 1 (pv 1)))) (dp dc_int)) dan)))))))))))))
theorem sc_pick : FnScope ["store", "row"] ["store", "row"] (defScope q_pick) := ⟨rfl, rfl, rfl, by decide +kernel, rfl, by decide +kernel, by decide +kernel⟩
theorem h_pick (T : Txt K mg) : Has P w K mg base "_law_pick" 3 ["store", "row"] (dsp (s_pick)) := by
  refine has_of (N := ["store", "row"]) (k := 2) (t := liftS (fun _ _ _ _ => False) (w_pick)) T.g_pick T.F_pick sc_pick (len_dsp (l_pick)) (fun _ _ _ _ _ _ us hl => match us, hl with | [_, _], _ => rfl) (fun cdv A outer s H E hr => ?_) (dl_start (o_pick))
  exact (dss1 (dret (dix oIx opIx (dvP 1 (pv 1)) (dp (dcall (pe_dc (h_take T) hr (dac (dv 0 (pv 0)) (dac (dcb clLen (pe_callB cLen (by rfl) T.z_len (by decide +kernel) (dbc (dvP 1 (pv 1)) dbn))) dan))))) (fun _ _ => rfl))))
theorem sc_shuffled : FnScope ["store", "row", "rest", "found", "k"] ["store", "row"] (defScope q_shuffled) := ⟨rfl, rfl, rfl, by decide +kernel, rfl, by decide +kernel, by decide +kernel⟩
theorem h_shuffled (T : Txt K mg) : Has P w K mg base "_law_shuffled" 3 ["store", "row"] (dsp (s_shuffP)) := by
  refine has_of (N := ["store", "row", "rest", "found", "k"]) (k := 2) (t := liftS (fun _ _ _ _ => False) w_shuffled) T.g_shuffled T.F_shuffled sc_shuffled (len_dsp (l_shuffP)) (fun _ _ _ _ _ _ us hl => match us, hl with | [_, _], _ => rfl) (fun cdv A outer s H E hr => ?_) (dl_start (o_shuffP))
  exact (dss (dasgO 2 (fun _ h => ps_set (i := 2) sc_shuffled.nd rfl (Or.inl rfl) h) (dlistF (fun _ h => pe_callTy cList (by rfl) T.z_list (by decide +kernel) (pa_cons h pa_nil)) (dvP 1 (pv 1))))
    (dss (dasgO 3 (fun _ h => ps_set (i := 3) sc_shuffled.nd rfl (Or.inl rfl) h) (dlstF dan))
    (dss (dfor PassesOwn.never rfl (diR1 (fun _ h => pi_range1 (by rfl) T.z_range h) (dac (dcb clLen (pe_callB cLen (by rfl) T.z_len (by decide +kernel) (dbc (dvP 1 (pv 1)) dbn))) dan)) (pg_name (i := 4) sc_shuffled.nd rfl (Or.inl rfl)) (tgN 4) (dss1 (dappPop 3 2 (fun _ h => ps_expr (pe_bm PySem.F.plainAttrs_list PySem.F.slot_list_append PySem.F.type_list_append mt_append (pv 3) (pa_cons (pe_bm PySem.F.plainAttrs_list PySem.F.slot_list_pop PySem.F.type_list_pop mt_popAt (pv 2) (pa_cons h pa_nil)) pa_nil))) (dcall (pe_dc (h_take T) hr (dac (dv 0 (pv 0)) (dac (dcb clLen (pe_callB cLen (by rfl) T.z_len (by decide +kernel) (dbc (dvP 2 (pv 2)) dbn))) dan)))))))
    (dss1 (dret (dv 3 (pv 3)))))))
theorem sc_sign : FnScope ["number"] ["number"] (defScope q_sign) := ⟨rfl, rfl, rfl, by decide +kernel, rfl, by decide +kernel, by decide +kernel⟩
theorem h_sign (T : Txt K mg) : Has P w K mg base "_law_sign" 1 ["number"] (dsp (s_sign)) := by
  refine has_of (N := ["number"]) (k := 0) (t := liftS (fun _ _ _ _ => False) (w_sign)) T.g_sign T.F_sign sc_sign (len_dsp (l_sign)) (fun _ _ _ _ _ _ us hl => match us, hl with | [_], _ => rfl) (fun cdv A outer s H E hr => ?_) (dl_start (o_sign))
  exact (dss1 (dret (dix oIx opIx (dp dc_str) (dp (dop oMod opMod (dp (dcb clInt (pe_callTy cInt (by rfl) T.z_int (by decide +kernel) (dbc (dvP 0 (pv 0)) dbn)))) (dp dc_int))) (fun _ _ => rfl))))
theorem sc_name_of : FnScope ["number", "size", "rest", "name", "k"] ["number"] (defScope q_name_of) := ⟨rfl, rfl, rfl, by decide +kernel, rfl, by decide +kernel, by decide +kernel⟩
theorem h_name_of (T : Txt K mg) : Has P w K mg base "_law_name_of" 2 ["number"] (dsp (s_name_of)) := by
  refine has_of (N := ["number", "size", "rest", "name", "k"]) (k := 1) (t := liftS (fun _ _ _ _ => False) (w_name_of)) T.g_name_of T.F_name_of sc_name_of (len_dsp (l_name_of)) (fun _ _ _ _ _ _ us hl => match us, hl with | [_], _ => rfl) (fun cdv A outer s H E hr => ?_) (dl_start (o_name_of))
  exact (dss (dasg 1 (fun _ h => ps_set (i := 1) sc_name_of.nd rfl (Or.inl rfl) h) (dop oMod opMod (dp (dcb clInt (pe_callTy cInt (by rfl) T.z_int (by decide +kernel) (dbc (dvP 0 (pv 0)) dbn)))) (dp dc_int)))
    (dss (dasg 2 (fun _ h => ps_set (i := 2) sc_name_of.nd rfl (Or.inl rfl) h) (dop oDiv opDiv (dp (dcb clInt (pe_callTy cInt (by rfl) T.z_int (by decide +kernel) (dbc (dvP 0 (pv 0)) dbn)))) (dp dc_int)))
    (dss (dasg 3 (fun _ h => ps_set (i := 3) sc_name_of.nd rfl (Or.inl rfl) h) (dcall (pe_dc (h_sign T) hr (dac (dop oMod opMod (dvP 2 (pv 2)) (dp dc_int)) dan))))
    (dss (dasg 2 (fun _ h => ps_set (i := 2) sc_name_of.nd rfl (Or.inl rfl) h) (dop oDiv opDiv (dvP 2 (pv 2)) (dp dc_int)))
    (dss (dfor PassesOwn.never rfl (diR1 (fun _ h => pi_range1 (by rfl) T.z_range h) (dac (dv 1 (pv 1)) dan)) (pg_name (i := 4) sc_name_of.nd rfl (Or.inl rfl)) (tgN 4) (dss (dasg 3 (fun _ h => ps_set (i := 3) sc_name_of.nd rfl (Or.inl rfl) h) (dop oAdd opAdd (dvP 3 (pv 3)) (dp (dcall (pe_dc (h_sign T) hr (dac (dop oMod opMod (dvP 2 (pv 2)) (dp dc_int)) dan))))))
    (dss1 (dasg 2 (fun _ h => ps_set (i := 2) sc_name_of.nd rfl (Or.inl rfl) h) (dop oDiv opDiv (dvP 2 (pv 2)) (dp dc_int))))))
    (dss1 (dret (dv 3 (pv 3)))))))))
theorem sc_name : FnScope ["store"] ["store"] (defScope q_name) := ⟨rfl, rfl, rfl, by decide +kernel, rfl, by decide +kernel, by decide +kernel⟩
theorem h_name (T : Txt K mg) : Has P w K mg base "_law_name" 3 ["store"] (dsp (s_name)) := by
  refine has_of (N := ["store"]) (k := 2) (t := liftS (fun _ _ _ _ => False) (w_name)) T.g_name T.F_name sc_name (len_dsp (l_name)) (fun _ _ _ _ _ _ us hl => match us, hl with | [_], _ => rfl) (fun cdv A outer s H E hr => ?_) (dl_start (o_name))
  exact (dss1 (dret (dcall (pe_dc (h_name_of T) hr (dac (dcall (pe_dc (h_take T) hr (dac (dv 0 (pv 0)) (dac (dc (pe_mulc (pe_mulc pe_int pe_int 208 (by decide +kernel)) (pe_powc pe_int pe_int 78364164096 (by decide +kernel)) 16299746131968 (by decide +kernel)) (fun _ _ => .int _)) dan)))) dan)))))
theorem sc_unlike : FnScope ["name", "taken", "k", "other"] ["name", "taken"] (defScope q_unlike) := ⟨rfl, rfl, rfl, by decide +kernel, rfl, by decide +kernel, by decide +kernel⟩
theorem h_unlike (T : Txt K mg) : Has P w K mg base "_law_unlike" 2 ["name", "taken"] (dsp (s_unlikeN)) := by
  refine has_of (N := ["name", "taken", "k", "other"]) (k := 1) (t := liftS (fun _ _ _ _ => False) w_unlike) T.g_unlike T.F_unlike sc_unlike (len_dsp (l_unlikeN)) (fun _ _ _ _ _ _ us hl => match us, hl with | [_, _], _ => rfl) (fun cdv A outer s H E hr => ?_) (dl_start (o_unlikeN))
  exact (dss (difS (dtcmp kNi opNi (dvP 0 (pv 0)) (dvP 1 (pv 1)) (by rfl)) (dss1 (dret (dv 0 (pv 0)))) dss0)
    (dss (dfor PassesOwn.never rfl (diR1 (fun _ h => pi_range1 (by rfl) T.z_range h) (dac (dop oAdd opAdd (dp (dcb clLen (pe_callB cLen (by rfl) T.z_len (by decide +kernel) (dbc (dvP 1 (pv 1)) dbn)))) (dp dc_int)) dan)) (pg_name (i := 2) sc_unlike.nd rfl (Or.inl rfl)) (tgN 2) (dss (dasg 3 (fun _ h => ps_set (i := 3) sc_unlike.nd rfl (Or.inl rfl) h) (dop oAdd opAdd (dp (dop oAdd opAdd (dp (dsl (dvP 0 (pv 0)) dpo0 (dpo (dp dc_int)))) (dp (dcall (pe_dc (h_sign T) hr (dac (dop oMod opMod (dp (dop oDiv opDiv (dvP 2 (pv 2)) (dp dc_int))) (dp dc_int)) dan)))))) (dp (dcall (pe_dc (h_sign T) hr (dac (dop oMod opMod (dvP 2 (pv 2)) (dp dc_int)) dan))))))
    (dss1 (difS (dtcmp kNi opNi (dvP 3 (pv 3)) (dvP 1 (pv 1)) (by rfl)) (dss1 (dret (dv 3 (pv 3)))) dss0))))
    (dss1 (dret (dv 0 (pv 0))))))
theorem sc_name_like : FnScope ["store", "manner", "stem", "at", "words"] ["store", "manner", "stem"] (defScope q_name_like) := ⟨rfl, rfl, rfl, by decide +kernel, rfl, by decide +kernel, by decide +kernel⟩
theorem h_name_like (T : Txt K mg) : Has P w K mg base "_law_name_like" 4 ["store", "manner", "stem"] (dsp (s_name_like_by)) := by
  refine has_of (N := ["store", "manner", "stem", "at", "words"]) (k := 3) (t := liftS (fun _ _ _ _ => False) w_name_like_by) T.g_name_like T.F_name_like sc_name_like (len_dsp (l_name_like_by)) (fun _ _ _ _ _ _ us hl => match us, hl with | [_, _, _], _ => rfl) (fun cdv A outer s H E hr => ?_) (dl_start (o_name_like_by))
  exact (dss (difS (dtcmp oEq opEq (dvP 1 (pv 1)) (dp dc_int) (nomark _)) (dss (dasg 3 (fun _ h => ps_set (i := 3) sc_name_like.nd rfl (Or.inl rfl) h) (dcall (pe_dc (h_take T) hr (dac (dv 0 (pv 0)) (dac (dcb clLen (pe_callB cLen (by rfl) T.z_len (by decide +kernel) (dbc (dvP 2 (pv 2)) dbn))) dan)))))
    (dss (difS (dtcmp oEq opEq (dvP 3 (pv 3)) (dp dc_int) (nomark _)) (dss1 (dret (dop oAdd opAdd (dp (dcall (pe_dc (h_sign T) hr (dac (dcall (pe_dc (h_take T) hr (dac (dv 0 (pv 0)) (dac dc_int dan)))) dan)))) (dp (dsl (dvP 2 (pv 2)) (dpo (dp dc_int)) dpo0))))) dss0)
    (dss1 (dret (dop oAdd opAdd (dp (dop oAdd opAdd (dp (dsl (dvP 2 (pv 2)) dpo0 (dpo (dvP 3 (pv 3))))) (dp (dcall (pe_dc (h_sign T) hr (dac (dcall (pe_dc (h_take T) hr (dac (dv 0 (pv 0)) (dac dc_int dan)))) dan)))))) (dp (dsl (dvP 2 (pv 2)) (dpo (dp (dop oAdd opAdd (dvP 3 (pv 3)) (dp dc_int)))) dpo0))))))) dss0)
    (dss (difS (dtcmp oEq opEq (dvP 1 (pv 1)) (dp dc_int) (nomark _)) (dss1 (dret (dsl (dvP 2 (pv 2)) dpo0 (dpo (dp (dop oAdd opAdd (dp dc_int) (dp (dcall (pe_dc (h_take T) hr (dac (dv 0 (pv 0)) (dac (dcb clLen (pe_callB cLen (by rfl) T.z_len (by decide +kernel) (dbc (dvP 2 (pv 2)) dbn))) dan))))))))))) dss0)
    (dss (difS (dtcmp oEq opEq (dvP 1 (pv 1)) (dp dc_int) (nomark _)) (dss1 (dret (dop oAdd opAdd (dp (dsl (dvP 2 (pv 2)) dpo0 (dpo (dp dc_int)))) (dp (dcb clStr (pe_callTy cStr (by rfl) T.z_str (by decide +kernel) (dbc (dp (dcall (pe_dc (h_take T) hr (dac (dv 0 (pv 0)) (dac dc_int dan))))) dbn))))))) dss0)
    (dss (difS (dtcmp oEq opEq (dvP 1 (pv 1)) (dp dc_int) (nomark _)) (dss1 (dret (dcall (pe_dc (h_sign T) hr (dac (dcall (pe_dc (h_take T) hr (dac (dv 0 (pv 0)) (dac dc_int dan)))) dan))))) dss0)
    (dss (difS (dtcmp oEq opEq (dvP 1 (pv 1)) (dp dc_int) (nomark _)) (dss (dasg 4 (fun _ h => ps_set (i := 4) sc_name_like.nd rfl (Or.inl rfl) h) (dlst (dac dc_str (dac dc_str (dac dc_str (dac dc_str (dac dc_str (dac dc_str (dac dc_str (dac dc_str (dac dc_str (dac dc_str (dac dc_str (dac dc_str (dac dc_str dan)))))))))))))))
    (dss1 (dret (dcall (pe_dc (h_pick T) hr (dac (dv 0 (pv 0)) (dac (dv 4 (pv 4)) dan))))))) dss0)
    (dss1 (dret (dcall (pe_dc (h_name T) hr (dac (dv 0 (pv 0)) dan))))))))))
theorem sc_names : FnScope ["store", "many", "taken", "manner", "stem", "found", "k"] ["store", "many", "taken"] (defScope q_names) := ⟨rfl, rfl, rfl, by decide +kernel, rfl, by decide +kernel, by decide +kernel⟩
theorem h_names (T : Txt K mg) : Has P w K mg base "_law_names" 5 ["store", "many", "taken"] (dsp (s_namesN)) := by
  refine has_of (N := ["store", "many", "taken", "manner", "stem", "found", "k"]) (k := 4) (t := liftS (fun _ _ _ _ => False) w_namesN) T.g_names T.F_names sc_names (len_dsp (l_namesN)) (fun _ _ _ _ _ _ us hl => match us, hl with | [_, _, _], _ => rfl) (fun cdv A outer s H E hr => ?_) (dl_start (o_namesN))
  exact (dss (dasg 3 (fun _ h => ps_set (i := 3) sc_names.nd rfl (Or.inl rfl) h) (dcall (pe_dc (h_take T) hr (dac (dv 0 (pv 0)) (dac dc_int dan)))))
    (dss (dasg 4 (fun _ h => ps_set (i := 4) sc_names.nd rfl (Or.inl rfl) h) (dcall (pe_dc (h_name T) hr (dac (dv 0 (pv 0)) dan))))
    (dss (dasgO 5 (fun _ h => ps_set (i := 5) sc_names.nd rfl (Or.inl rfl) h) (dlstF dan))
    (dss (dfor PassesOwn.never rfl (diR1 (fun _ h => pi_range1 (by rfl) T.z_range h) (dac (dv 1 (pv 1)) dan)) (pg_name (i := 6) sc_names.nd rfl (Or.inl rfl)) (tgN 6) (dss1 (dapp 5 (fun _ h => ps_expr (pe_bm PySem.F.plainAttrs_list PySem.F.slot_list_append PySem.F.type_list_append mt_append (pv 5) (pa_cons h pa_nil))) (dcall (pe_dc (h_unlike T) hr (dac (dcall (pe_dc (h_name_like T) hr (dac (dv 0 (pv 0)) (dac (dv 3 (pv 3)) (dac (dv 4 (pv 4)) dan))))) (dac (dop oAdd opAdd (dp (dcb clList (pe_callTy cList (by rfl) T.z_list (by decide +kernel) (dbc (dvP 2 (pv 2)) dbn)))) (dvP 5 (pv 5))) dan)))))))
    (dss1 (dret (dv 5 (pv 5))))))))
theorem sc_not_name : FnScope ["store", "name", "wrong", "sign", "manner", "at"] ["store"] (defScope q_not_name) := ⟨rfl, rfl, rfl, by decide +kernel, rfl, by decide +kernel, by decide +kernel⟩
theorem h_not_name (T : Txt K mg) : Has P w K mg base "_law_not_name" 4 ["store"] (dsp (s_not_name)) := by
  refine has_of (N := ["store", "name", "wrong", "sign", "manner", "at"]) (k := 3) (t := liftS (fun _ _ _ _ => False) (w_not_name)) T.g_not_name T.F_not_name sc_not_name (len_dsp (l_not_name)) (fun _ _ _ _ _ _ us hl => match us, hl with | [_], _ => rfl) (fun cdv A outer s H E hr => ?_) (dl_start (o_not_name))
  exact (dss (dasg 1 (fun _ h => ps_set (i := 1) sc_not_name.nd rfl (Or.inl rfl) h) (dcall (pe_dc (h_name T) hr (dac (dv 0 (pv 0)) dan))))
    (dss (dasg 2 (fun _ h => ps_set (i := 2) sc_not_name.nd rfl (Or.inl rfl) h) dc_str)
    (dss (dasg 3 (fun _ h => ps_set (i := 3) sc_not_name.nd rfl (Or.inl rfl) h) (dcall (pe_dc (h_pick T) hr (dac (dv 0 (pv 0)) (dac (dv 2 (pv 2)) dan)))))
    (dss (dasg 4 (fun _ h => ps_set (i := 4) sc_not_name.nd rfl (Or.inl rfl) h) (dcall (pe_dc (h_take T) hr (dac (dv 0 (pv 0)) (dac dc_int dan)))))
    (dss (dasg 5 (fun _ h => ps_set (i := 5) sc_not_name.nd rfl (Or.inl rfl) h) (dcall (pe_dc (h_take T) hr (dac (dv 0 (pv 0)) (dac (dcb clLen (pe_callB cLen (by rfl) T.z_len (by decide +kernel) (dbc (dvP 1 (pv 1)) dbn))) dan)))))
    (dss (difS (dtcmp oEq opEq (dvP 4 (pv 4)) (dp dc_int) (nomark _)) (dss1 (dret dc_str)) dss0)
    (dss (difS (dtcmp oEq opEq (dvP 4 (pv 4)) (dp dc_int) (nomark _)) (dss1 (dret (dop oAdd opAdd (dp (dop oMulS opMulS (dp (dsl (dp (dop oAdd opAdd (dvP 1 (pv 1)) (dp dc_str))) dpo0 (dpo (dp dc_int)))) (dp (dop oAdd opAdd (dp dc_int) (dp (dcall (pe_dc (h_take T) hr (dac (dv 0 (pv 0)) (dac dc_int dan))))))))) (dp (dcall (pe_dc (h_sign T) hr (dac (dcall (pe_dc (h_take T) hr (dac (dv 0 (pv 0)) (dac dc_int dan)))) dan))))))) dss0)
    (dss (difS (dtcmp oEq opEq (dvP 4 (pv 4)) (dp dc_int) (nomark _)) (dss1 (dret (dop oAdd opAdd (dp (dcb clStr (pe_callTy cStr (by rfl) T.z_str (by decide +kernel) (dbc (dp (dcall (pe_dc (h_take T) hr (dac (dv 0 (pv 0)) (dac dc_int dan))))) dbn)))) (dp (dsl (dvP 1 (pv 1)) (dpo (dp dc_int)) dpo0))))) dss0)
    (dss (difS (dtcmp oEq opEq (dvP 4 (pv 4)) (dp dc_int) (nomark _)) (dss1 (dret (dop oAdd opAdd (dp (dop oAdd opAdd (dp (dsl (dvP 1 (pv 1)) dpo0 (dpo (dvP 5 (pv 5))))) (dvP 3 (pv 3)))) (dp (dsl (dvP 1 (pv 1)) (dpo (dp (dop oAdd opAdd (dvP 5 (pv 5)) (dp dc_int)))) dpo0))))) dss0)
    (dss (difS (dtcmp oEq opEq (dvP 4 (pv 4)) (dp dc_int) (nomark _)) (dss1 (dret (dop oAdd opAdd (dp (dsl (dvP 1 (pv 1)) dpo0 (dpo (dp dc_int)))) (dvP 3 (pv 3))))) dss0)
    (dss (difS (dtcmp oEq opEq (dvP 4 (pv 4)) (dp dc_int) (nomark _)) (dss1 (dret (dop oAdd opAdd (dvP 3 (pv 3)) (dp (dsl (dvP 1 (pv 1)) dpo0 (dpo (dp dc_int))))))) dss0)
    (dss1 (dret (dupper (dvP 1 (pv 1))))))))))))))))
theorem sc_marked : FnScope ["store", "names", "manner", "found", "name"] ["store", "names"] (defScope q_marked) := ⟨rfl, rfl, rfl, by decide +kernel, rfl, by decide +kernel, by decide +kernel⟩
theorem h_marked (T : Txt K mg) : Has P w K mg base "_law_marked" 4 ["store", "names"] (dsp (s_markedN)) := by
  refine has_of (N := ["store", "names", "manner", "found", "name"]) (k := 3) (t := liftS (fun _ _ _ _ => False) w_markedN) T.g_marked T.F_marked sc_marked (len_dsp (l_markedN)) (fun _ _ _ _ _ _ us hl => match us, hl with | [_, _], _ => rfl) (fun cdv A outer s H E hr => ?_) (dl_start (o_markedN))
  exact (dss (dasg 2 (fun _ h => ps_set (i := 2) sc_marked.nd rfl (Or.inl rfl) h) (dcall (pe_dc (h_take T) hr (dac (dv 0 (pv 0)) (dac dc_int dan)))))
    (dss (difS (dtcmp kLt opLt (dvP 2 (pv 2)) (dp dc_int) (nomark _)) (dss1 (dret (dlst dan))) dss0)
    (dss (difS (dtcmp oEq opEq (dvP 2 (pv 2)) (dp dc_int) (nomark _)) (dss1 (dret (dlst (dac (dcall (pe_dc (h_pick T) hr (dac (dv 0 (pv 0)) (dac (dv 1 (pv 1)) dan)))) dan)))) dss0)
    (dss (difS (dtcmp oEq opEq (dvP 2 (pv 2)) (dp dc_int) (nomark _)) (dss1 (dret (dcb clList (pe_callTy cList (by rfl) T.z_list (by decide +kernel) (dbc (dvP 1 (pv 1)) dbn))))) dss0)
    (dss (dasgO 3 (fun _ h => ps_set (i := 3) sc_marked.nd rfl (Or.inl rfl) h) (dlstF dan))
    (dss (dfor PassesOwn.never rfl (diL (dv 1 (pv 1))) (pg_name (i := 4) sc_marked.nd rfl (Or.inl rfl)) (tgN 4) (dss1 (difS (dtcmp kLt opLt (dp (dcall (pe_dc (h_take T) hr (dac (dv 0 (pv 0)) (dac dc_int dan))))) (dp (dop oSub opSub (dvP 2 (pv 2)) (dp dc_int))) (nomark _)) (dss1 (dapp 3 (fun _ h => ps_expr (pe_bm PySem.F.plainAttrs_list PySem.F.slot_list_append PySem.F.type_list_append mt_append (pv 3) (pa_cons h pa_nil))) (dv 4 (pv 4)))) dss0)))
    (dss1 (dret (dv 3 (pv 3))))))))))
theorem sc_tree : FnScope ["store", "shelves", "inner", "manner", "table", "k", "holders", "holder"] ["store", "shelves", "inner"] (defScope q_tree) := ⟨rfl, rfl, rfl, by decide +kernel, rfl, by decide +kernel, by decide +kernel⟩
theorem h_tree (T : Txt K mg) : Has P w K mg base "_law_tree" 4 ["store", "shelves", "inner"] (dsp (s_tree)) := by
  refine has_of (N := ["store", "shelves", "inner", "manner", "table", "k", "holders", "holder"]) (k := 3) (t := liftS (fun _ _ _ _ => False) (w_tree)) T.g_tree T.F_tree sc_tree (len_dsp (l_tree)) (fun _ _ _ _ _ _ us hl => match us, hl with | [_, _, _], _ => rfl) (fun cdv A outer s H E hr => ?_) (dl_start (o_tree))
  exact (dss (dasg 3 (fun _ h => ps_set (i := 3) sc_tree.nd rfl (Or.inl rfl) h) (dcall (pe_dc (h_take T) hr (dac (dv 0 (pv 0)) (dac dc_int dan)))))
    (dss (dasgD 4 (ps_set (i := 4) sc_tree.nd rfl (Or.inl rfl) pe_dnewK))
    (dss (dfor PassesOwn.never rfl (diR1 (fun _ h => pi_range1 (by rfl) T.z_range h) (dac (dcb clLen (pe_callB cLen (by rfl) T.z_len (by decide +kernel) (dbc (dvP 2 (pv 2)) dbn))) dan)) (pg_name (i := 5) sc_tree.nd rfl (Or.inl rfl)) (tgN 5) (dss (dasg 6 (fun _ h => ps_set (i := 6) sc_tree.nd rfl (Or.inl rfl) h) (dop oAdd opAdd (dp (dcb clList (pe_callTy cList (by rfl) T.z_list (by decide +kernel) (dbc (dvP 1 (pv 1)) dbn)))) (dp (dsl (dvP 2 (pv 2)) dpo0 (dpo (dvP 5 (pv 5)))))))
    (dsc (difS (dtcmp oEq opEq (dvP 3 (pv 3)) (dp dc_int) (nomark _)) (dss1 (dasg 6 (fun _ h => ps_set (i := 6) sc_tree.nd rfl (Or.inl rfl) h) (dcb clList (pe_callTy cList (by rfl) T.z_list (by decide +kernel) (dbc (dvP 1 (pv 1)) dbn))))) dss0)
    (dsc (difS (dtcmp oEq opEq (dvP 3 (pv 3)) (dp dc_int) (nomark _)) (dss1 (dasg 6 (fun _ h => ps_set (i := 6) sc_tree.nd rfl (Or.inl rfl) h) (dop oAdd opAdd (dp (dcb clList (pe_callTy cList (by rfl) T.z_list (by decide +kernel) (dbc (dvP 1 (pv 1)) dbn)))) (dp (dsl (dvP 2 (pv 2)) dpo0 (dpo (dp (dcb clMin (pe_callB (call_min2 rfl) (by rfl) T.z_min (by decide +kernel) (dbc (dvP 5 (pv 5)) (dbc (dp dc_int) dbn))))))))))) dss0)
    (dss (dasg 7 (fun _ h => ps_set (i := 7) sc_tree.nd rfl (Or.inl rfl) h) (dcall (pe_dc (h_pick T) hr (dac (dv 0 (pv 0)) (dac (dv 6 (pv 6)) dan)))))
    (dsc (difS (PW.pt (dand (dtcmp oEq opEq (dvP 3 (pv 3)) (dp dc_int) (nomark _)) (dand (dtcmp kGt opGt (dvP 5 (pv 5)) (dp dc_int) (nomark _)) (dand1 (dtcmp kGt opGt (dp (dcall (pe_dc (h_take T) hr (dac (dv 0 (pv 0)) (dac dc_int dan))))) (dp dc_int) (nomark _)))))) (dss1 (dasg 7 (fun _ h => ps_set (i := 7) sc_tree.nd rfl (Or.inl rfl) h) (dix oIx opIx (dvP 2 (pv 2)) (dp (dop oSub opSub (dvP 5 (pv 5)) (dp dc_int))) (fun _ _ => rfl)))) dss0)
    (dss1 (dputD 4 (ps_dput (hu_of hr) (pv 4) (dix oIx opIx (dvP 2 (pv 2)) (dvP 5 (pv 5)) (fun _ _ => rfl)) (dv 7 (pv 7)) rfl)))))))))
    (dss1 (dret (dv 4 (pv 4)))))))
theorem sc_weights : FnScope ["store", "inner", "table", "most", "manner", "inside", "name", "fulls", "boxes", "k", "likes", "full", "weight"] ["store", "inner", "table", "most"] (defScope q_weights) := ⟨rfl, rfl, rfl, by decide +kernel, rfl, by decide +kernel, by decide +kernel⟩
theorem h_weights (T : Txt K mg) : Has P w K mg base "_law_weights" 4 ["store", "inner", "table", "most"] (dsp (s_weights)) := by
  refine has_of (N := ["store", "inner", "table", "most", "manner", "inside", "name", "fulls", "boxes", "k", "likes", "full", "weight"]) (k := 3) (t := liftS (fun _ _ _ _ => False) (w_weights)) T.g_weights T.F_weights sc_weights (len_dsp (l_weights)) (fun _ _ _ _ _ _ us hl => match us, hl with | [_, _, _, _], _ => rfl) (fun cdv A outer s H E hr => ?_) (dl_start (o_weights))
  exact (dss (dasg 4 (fun _ h => ps_set (i := 4) sc_weights.nd rfl (Or.inl rfl) h) (dcall (pe_dc (h_take T) hr (dac (dv 0 (pv 0)) (dac dc_int dan)))))
    (dss (dasgD 5 (ps_set (i := 5) sc_weights.nd rfl (Or.inr rfl) pe_dnewK))
    (dss (dfor PassesOwn.never rfl (diL (dv 1 (pv 1))) (pg_name (i := 6) sc_weights.nd rfl (Or.inr rfl)) (tgN 6) (dss1 (dputD 5 (ps_dput (hu_of hr) (pv 5) (dv 6 (pv 6)) dc_int rfl))))
    (dss (dasgO 7 (fun _ h => ps_set (i := 7) sc_weights.nd rfl (Or.inl rfl) h) (dlstF dan))
    (dss (dasgD 8 (ps_set (i := 8) sc_weights.nd rfl (Or.inl rfl) pe_dnewK))
    (dss (dfor PassesOwn.never rfl (diR1 (fun _ h => pi_range1 (by rfl) T.z_range h) (dac (dcb clLen (pe_callB cLen (by rfl) T.z_len (by decide +kernel) (dbc (dvP 1 (pv 1)) dbn))) dan)) (pg_name (i := 9) sc_weights.nd rfl (Or.inl rfl)) (tgN 9) (dss (dasg 6 (fun _ h => ps_set (i := 6) sc_weights.nd rfl (Or.inr rfl) h) (dix oIx opIx (dvP 1 (pv 1)) (dp (dop oSub opSub (dp (dop oSub opSub (dp (dcb clLen (pe_callB cLen (by rfl) T.z_len (by decide +kernel) (dbc (dvP 1 (pv 1)) dbn)))) (dp dc_int))) (dvP 9 (pv 9)))) (fun _ _ => rfl)))
    (dss (dsetLcOw 10 7 (tcN 11) one_tr (ps_setLc (i := 10) (own := [("full", 11)]) (g := gName 11) (by rfl) sc_weights.nd rfl rfl (sw_true rfl rfl rfl (by decide +kernel)) (pi_list (pv 7)) (blkOk_by (own := [("full", 11)]) (N := ["store", "inner", "table", "most", "manner", "inside", "name", "fulls", "boxes", "k", "likes", "full", "weight"]) (sc := defScope q_weights) (by decide +kernel)) (fun _ _ _ _ _ => pg_name (i := 11) sc_weights.nd rfl (Or.inl rfl)) (fun _ _ _ _ _ => (pts_one (dtchain opLe opLe (pt_chain kLe kLe (dp dc_int) (dp (dop oSub opSub (dvP 11 (pv 11)) (dp (dixO 5 (pe_dget (hu_of hr) (pv 5) (dv 6 (pv 6)) (fun _ _ => rfl)))))) (dvP 3 (pv 3)))))) (fun _ _ _ _ _ => (dop oSub opSub (dvP 11 (pv 11)) (dp (dixO 5 (pe_dget (hu_of hr) (pv 5) (dv 6 (pv 6)) (fun _ _ => rfl))))))))
    (dss (dasg 12 (fun _ h => ps_set (i := 12) sc_weights.nd rfl (Or.inl rfl) h) (dop oAdd opAdd (dp dc_int) (dp (dcall (pe_dc (h_take T) hr (dac (dv 0 (pv 0)) (dac (dcb clMin (pe_callB (call_min2 rfl) (by rfl) T.z_min (by decide +kernel) (dbc (dvP 3 (pv 3)) (dbc (dp dc_int) dbn)))) dan)))))))
    (dsc (difS (dtcmp oEq opEq (dvP 4 (pv 4)) (dp dc_int) (nomark _)) (dss1 (dasg 12 (fun _ h => ps_set (i := 12) sc_weights.nd rfl (Or.inl rfl) h) (dcall (pe_dc (h_number T) hr (dac (dv 0 (pv 0)) (dac dc_int (dac (dv 3 (pv 3)) dan))))))) dss0)
    (dsc (difS (PW.pt (dand (dtru (dvP 10 (pv 10))) (dand1 (dtcmp kGt opGt (dp (dcall (pe_dc (h_take T) hr (dac (dv 0 (pv 0)) (dac dc_int dan))))) (dp dc_int) (nomark _))))) (dss1 (dasg 12 (fun _ h => ps_set (i := 12) sc_weights.nd rfl (Or.inl rfl) h) (dcall (pe_dc (h_pick T) hr (dac (dv 0 (pv 0)) (dac (dv 10 (pv 10)) dan)))))) dss0)
    (dss (dputD 8 (ps_dput (hu_of hr) (pv 8) (dv 6 (pv 6)) (dv 12 (pv 12)) rfl))
    (dss (dapp 7 (fun _ h => ps_expr (pe_bm PySem.F.plainAttrs_list PySem.F.slot_list_append PySem.F.type_list_append mt_append (pv 7) (pa_cons h pa_nil))) (dop oAdd opAdd (dp (dixO 5 (pe_dget (hu_of hr) (pv 5) (dv 6 (pv 6)) (fun _ _ => rfl)))) (dvP 12 (pv 12))))
    (dss1 (difS (dtinOD (pt_cmp (pc_din (hu_of hr) (dixD (pe_dget (hu_of hr) (dv 2 (pv 2)) (dv 6 (pv 6)) (fun _ _ => rfl))) (pv 5)))) (dss1 (daugD 5 opIAdd (fun _ _ hk hv => ps_daug (hu_of hr) (pv 5) hk hv ioAdd (by intro _ _ _; rfl)) (dixD (pe_dget (hu_of hr) (dv 2 (pv 2)) (dv 6 (pv 6)) (fun _ _ => rfl))) (dp (dop oAdd opAdd (dp (dixO 5 (pe_dget (hu_of hr) (pv 5) (dv 6 (pv 6)) (fun _ _ => rfl)))) (dvP 12 (pv 12)))))) dss0))))))))))
    (dss1 (dret (dv 8 (pv 8))))))))))
theorem sc_plan_of : FnScope ["store", "shelves", "inner", "heaviest", "sealable", "table", "boxes", "nails", "seals", "name"] ["store", "shelves", "inner", "heaviest", "sealable"] (defScope q_plan_of) := ⟨rfl, rfl, rfl, by decide +kernel, rfl, by decide +kernel, by decide +kernel⟩
theorem h_plan_of (T : Txt K mg) : Has P w K mg base "_law_plan_of" 5 ["store", "shelves", "inner", "heaviest", "sealable"] (dsp (s_plan_of)) := by
  refine has_of (N := ["store", "shelves", "inner", "heaviest", "sealable", "table", "boxes", "nails", "seals", "name"]) (k := 4) (t := liftS (fun _ _ _ _ => False) (w_plan_of)) T.g_plan_of T.F_plan_of sc_plan_of (len_dsp (l_plan_of)) (fun _ _ _ _ _ _ us hl => match us, hl with | [_, _, _, _, _], _ => rfl) (fun cdv A outer s H E hr => ?_) (dl_start (o_plan_of))
  exact (dss (dasg 5 (fun _ h => ps_set (i := 5) sc_plan_of.nd rfl (Or.inl rfl) h) (dcall (pe_dc (h_tree T) hr (dac (dv 0 (pv 0)) (dac (dv 1 (pv 1)) (dac (dv 2 (pv 2)) dan))))))
    (dss (dasg 6 (fun _ h => ps_set (i := 6) sc_plan_of.nd rfl (Or.inl rfl) h) (dcall (pe_dc (h_weights T) hr (dac (dv 0 (pv 0)) (dac (dv 2 (pv 2)) (dac (dv 5 (pv 5)) (dac (dv 3 (pv 3)) dan)))))))
    (dss (dasg 7 (fun _ h => ps_set (i := 7) sc_plan_of.nd rfl (Or.inl rfl) h) (dcall (pe_dc (h_marked T) hr (dac (dv 0 (pv 0)) (dac (dv 2 (pv 2)) dan)))))
    (dss (dasg 8 (fun _ h => ps_set (i := 8) sc_plan_of.nd rfl (Or.inl rfl) h) (dcall (pe_dc (h_marked T) hr (dac (dv 0 (pv 0)) (dac (dcall (pe_dc (h_shuffled T) hr (dac (dv 0 (pv 0)) (dac (dop oAdd opAdd (dp (dcb clList (pe_callTy cList (by rfl) T.z_list (by decide +kernel) (dbc (dvP 1 (pv 1)) dbn)))) (dvP 2 (pv 2))) dan)))) dan)))))
    (dsc (difS (dnot (dtru (dvP 4 (pv 4)))) (dss1 (dsetLc 8 (tcN 9) one_tr (ps_setLc (i := 8) (own := [("name", 9)]) (g := gName 9) (by rfl) sc_plan_of.nd rfl rfl (sw_true rfl rfl rfl (by decide +kernel)) (diL (dv 8 (pv 8))) (blkOk_by (own := [("name", 9)]) (N := ["store", "shelves", "inner", "heaviest", "sealable", "table", "boxes", "nails", "seals", "name"]) (sc := defScope q_plan_of) (by decide +kernel)) (fun _ _ _ _ _ => pg_name (i := 9) sc_plan_of.nd rfl (Or.inl rfl)) (fun _ _ _ _ _ => (pts_one (dtcmp kNi opNi (dvP 9 (pv 9)) (dvP 1 (pv 1)) (by rfl)))) (fun _ _ _ _ _ => (dv 9 (pv 9)))))) dss0)
    (dss1 (dret (dlst (dac (dcb clList (pe_callTy cList (by rfl) T.z_list (by decide +kernel) (dbc (dvP 1 (pv 1)) dbn))) (dac (dv 6 (pv 6)) (dac (dv 7 (pv 7)) (dac (dv 8 (pv 8)) (dac (dv 5 (pv 5)) dan)))))))))))))
theorem sc_plan : FnScope ["store", "most", "manner", "many", "several", "names"] ["store", "most"] (defScope q_plan) := ⟨rfl, rfl, rfl, by decide +kernel, rfl, by decide +kernel, by decide +kernel⟩
theorem h_plan (T : Txt K mg) : Has P w K mg base "_law_plan" 6 ["store", "most"] (dsp (s_plan)) := by
  refine has_of (N := ["store", "most", "manner", "many", "several", "names"]) (k := 5) (t := liftS (fun _ _ _ _ => False) (w_plan)) T.g_plan T.F_plan sc_plan (len_dsp (l_plan)) (fun _ _ _ _ _ _ us hl => match us, hl with | [_, _], _ => rfl) (fun cdv A outer s H E hr => ?_) (dl_start (o_plan))
  exact (dss (dasg 2 (fun _ h => ps_set (i := 2) sc_plan.nd rfl (Or.inl rfl) h) (dcall (pe_dc (h_take T) hr (dac (dv 0 (pv 0)) (dac dc_int dan)))))
    (dss (dasg 3 (fun _ h => ps_set (i := 3) sc_plan.nd rfl (Or.inl rfl) h) (dcb clMin (pe_callB (call_min2 rfl) (by rfl) T.z_min (by decide +kernel) (dbc (dvP 1 (pv 1)) (dbc (dp (dop oAdd opAdd (dp dc_int) (dp (dcall (pe_dc (h_take T) hr (dac (dv 0 (pv 0)) (dac dc_int dan))))))) dbn)))))
    (dss (dasg 4 (fun _ h => ps_set (i := 4) sc_plan.nd rfl (Or.inl rfl) h) (dop oAdd opAdd (dp dc_int) (dp (dcall (pe_dc (h_take T) hr (dac (dv 0 (pv 0)) (dac dc_int dan)))))))
    (dsc (difS (dtcmp oEq opEq (dvP 2 (pv 2)) (dp dc_int) (nomark _)) (dss1 (dasg 3 (fun _ h => ps_set (i := 3) sc_plan.nd rfl (Or.inl rfl) h) (dv 1 (pv 1)))) dss0)
    (dsc (difS (dtcmp oEq opEq (dvP 2 (pv 2)) (dp dc_int) (nomark _)) (dss1 (dasg 3 (fun _ h => ps_set (i := 3) sc_plan.nd rfl (Or.inl rfl) h) (dop oAdd opAdd (dp dc_int) (dp (dcall (pe_dc (h_take T) hr (dac (dv 0 (pv 0)) (dac (dv 1 (pv 1)) dan)))))))) dss0)
    (dsc (difS (dtcmp kLt opLt (dvP 2 (pv 2)) (dp dc_int) (nomark _)) (dss1 (dasg 4 (fun _ h => ps_set (i := 4) sc_plan.nd rfl (Or.inl rfl) h) (dop oAdd opAdd (dp dc_int) (dp (dcall (pe_dc (h_take T) hr (dac (dv 0 (pv 0)) (dac dc_int dan)))))))) dss0)
    (dss (dasg 5 (fun _ h => ps_set (i := 5) sc_plan.nd rfl (Or.inl rfl) h) (dcall (pe_dc (h_names T) hr (dac (dv 0 (pv 0)) (dac (dop oAdd opAdd (dvP 4 (pv 4)) (dvP 3 (pv 3))) (dac (dlst dan) dan))))))
    (dss1 (dret (dcall (pe_dc (h_plan_of T) hr (dac (dv 0 (pv 0)) (dac (dsl (dvP 5 (pv 5)) dpo0 (dpo (dvP 4 (pv 4)))) (dac (dsl (dvP 5 (pv 5)) (dpo (dvP 4 (pv 4))) dpo0) (dac (dc (pe_powc pe_int pe_int 1000000000 (by decide +kernel)) (fun _ _ => .int _)) (dac dc_bl dan))))))))))))))))
theorem sc_Pis_name : FnScope ["text", "mark"] ["text"] (defScope q_Pis_name) := ⟨rfl, rfl, rfl, by decide +kernel, rfl, by decide +kernel, by decide +kernel⟩
theorem h_Pis_name (T : Txt K mg) : Has P w K mg base "is_name" 2 ["text"] (dsp (s_Pis_name)) := by
  refine has_of (N := ["text", "mark"]) (k := 1) (t := liftS (fun _ _ _ _ => False) (w_Pis_name)) T.g_Pis_name T.F_Pis_name sc_Pis_name (len_dsp (l_Pis_name)) (fun _ _ _ _ _ _ us hl => match us, hl with | [_], _ => rfl) (fun cdv A outer s H E hr => ?_) (dl_start (o_Pis_name))
  exact (dss (difS (PW.pt (dor (dnot (dtchain opLe opLe (pt_chain kLe kLe (dp dc_int) (dp (dcb clLen (pe_callB cLen (by rfl) T.z_len (by decide +kernel) (dbc (dvP 0 (pv 0)) dbn)))) (dp (dc (pe_gi T.k_LONGEST_NAME) (fun _ _ => .int _)))))) (dor1 (dtcmp kNi opNi (dp (dix oIx opIx (dvP 0 (pv 0)) (dp dc_int) (fun _ _ => rfl))) (dp (dc (pe_gs T.k_LETTERS) (fun _ _ => .str _))) (by rfl))))) (dss1 (dret dc_bl)) dss0)
    (dss1 (dret (dcb clAll (pe_callB (cr_all rfl) (by rfl) T.z_all (by decide +kernel) (dbc (dp (df (dlc (tcN 1) yes_tr (pe_lc (own := [("mark", 1)]) (g := gName 1) (by rfl) sc_Pis_name.nd (diS (dv 0 (pv 0))) (blkOk_by (own := [("mark", 1)]) (N := ["text", "mark"]) (sc := defScope q_Pis_name) (by decide +kernel)) (fun _ _ _ _ _ => pg_name (i := 1) sc_Pis_name.nd rfl (Or.inl rfl)) (fun _ _ _ _ _ => pts_nil) (fun _ _ _ _ _ => (dorV (dcmp kIn opIn (dvP 1 (pv 1)) (dp (dc (pe_gs T.k_LETTERS) (fun _ _ => .str _))) (by rfl)) (done (dcmp kIn opIn (dvP 1 (pv 1)) (dp (dc (pe_gs T.k_DIGITS) (fun _ _ => .str _))) (by rfl))))))))) dbn))))))
theorem sc_Pvalid_name : FnScope ["name"] ["name"] (defScope q_Pvalid_name) := ⟨rfl, rfl, rfl, by decide +kernel, rfl, by decide +kernel, by decide +kernel⟩
theorem h_Pvalid_name (T : Txt K mg) : Has P w K mg base "valid_name" 3 ["name"] (dspX (s_Pvalid_name K)) := by
  refine has_ofX (N := ["name"]) (k := 2) (t := (fun E => liftS (fun cls d _ H => E cls d H) (w_Pvalid_name K))) T.g_Pvalid_name T.F_Pvalid_name sc_Pvalid_name (len_dspX (l_Pvalid_name K)) (fun _ _ _ _ _ _ us hl => match us, hl with | [_], _ => rfl) (fun cdv A outer s H E hr tk => ?_) (dl_startX (o_Pvalid_name K))
  exact (dss (difS (dnot (dtru (dp (dcall (pe_dc (h_Pis_name T) hr (dac (dv 0 (pv 0)) dan)))))) (dss1 (draise1 (ps_rs (by rfl) tk (pmk_in (i1_BadName T) T.c_BadName hr (pa_cons (dv 0 (pv 0)) pa_nil))))) dss0)
    (dss1 (dret (dv 0 (pv 0)))))
theorem sc_Pis_number : FnScope ["value", "low", "high"] ["value", "low", "high"] (defScope q_Pis_number) := ⟨rfl, rfl, rfl, by decide +kernel, rfl, by decide +kernel, by decide +kernel⟩
theorem h_Pis_number (T : Txt K mg) : Has P w K mg base "is_number" 1 ["value", "low", "high"] (dsp (s_Pis_number)) := by
  refine has_of (N := ["value", "low", "high"]) (k := 0) (t := liftS (fun _ _ _ _ => False) w_Pis_number) T.g_Pis_number T.F_Pis_number sc_Pis_number (len_dsp (l_Pis_number)) (fun _ _ _ _ _ _ us hl => match us, hl with | [_, _, _], _ => rfl) (fun cdv A outer s H E hr => ?_) (dl_start (o_Pis_number))
  exact (dss1 (dret (dandV (disi (pe_callB cIsi (by rfl) T.z_isinstance (by decide +kernel) (pa_cons (dvP 0 (pv 0)) (pa_cons (pe_bltn (v := .ty "int") (u := .type "int") (by rfl) T.z_int (by rfl) (by rfl)) pa_nil)))) (dandV (dnotV (dp (disi (pe_callB cIsi (by rfl) T.z_isinstance (by decide +kernel) (pa_cons (dvP 0 (pv 0)) (pa_cons (pe_bltn (v := .ty "bool") (u := .type "bool") (by rfl) T.z_bool (by rfl) (by rfl)) pa_nil)))))) (done (dchain kLe kLe opLe opLe (dvP 1 (pv 1)) (dvP 0 (pv 0)) (dvP 2 (pv 2)) (fun _ _ _ x y z => pe_chain kLe kLe x y z)))))))
theorem sc_Pvalid_weight : FnScope ["weight"] ["weight"] (defScope q_Pvalid_weight) := ⟨rfl, rfl, rfl, by decide +kernel, rfl, by decide +kernel, by decide +kernel⟩
theorem h_Pvalid_weight (T : Txt K mg) : Has P w K mg base "valid_weight" 3 ["weight"] (dspX (s_Pvalid_weight K)) := by
  refine has_ofX (N := ["weight"]) (k := 2) (t := (fun E => liftS (fun cls d _ H => E cls d H) (w_Pvalid_weight K))) T.g_Pvalid_weight T.F_Pvalid_weight sc_Pvalid_weight (len_dspX (l_Pvalid_weight K)) (fun _ _ _ _ _ _ us hl => match us, hl with | [_], _ => rfl) (fun cdv A outer s H E hr tk => ?_) (dl_startX (o_Pvalid_weight K))
  exact (dss (difS (dnot (dtru (dp (dcall (pe_dc (h_Pis_number T) hr (dac (dv 0 (pv 0)) (dac dc_int (dac (dc (pe_gi T.k_MOST_WEIGHT) (fun _ _ => .int _)) dan)))))))) (dss1 (draise1 (ps_rs (by rfl) tk (pmk_in (i1_BadWeight T) T.c_BadWeight hr (pa_cons (dv 0 (pv 0)) pa_nil))))) dss0)
    (dss1 (dret (dv 0 (pv 0)))))
theorem sc_P_require_count : FnScope ["what", "many", "most"] ["what", "many", "most"] (defScope q_P_require_count) := ⟨rfl, rfl, rfl, by decide +kernel, rfl, by decide +kernel, by decide +kernel⟩
theorem h_P_require_count (T : Txt K mg) : Has P w K mg base "_require_count" 3 ["what", "many", "most"] (dspX (s_P_require_count K)) := by
  refine has_ofX (N := ["what", "many", "most"]) (k := 2) (t := (fun E => liftS (fun cls d _ H => E cls d H) (w_P_require_count K))) T.g_P_require_count T.F_P_require_count sc_P_require_count (len_dspX (l_P_require_count K)) (fun _ _ _ _ _ _ us hl => match us, hl with | [_, _, _], _ => rfl) (fun cdv A outer s H E hr tk => ?_) (dl_startX (o_P_require_count K))
  exact (dss1 (difS (dnot (dtchain opLe opLe (pt_chain kLe kLe (dp dc_int) (dvP 1 (pv 1)) (dvP 2 (pv 2))))) (dss1 (draiseN (ps_rs (by rfl) tk (pmk_in (i_BadCount T) T.c_BadCount hr (dac (dv 0 (pv 0)) (dac (dv 1 (pv 1)) dan)))))) dss0))
theorem sc_P_require_shelves : FnScope ["shelves", "at", "shelf"] ["shelves"] (defScope q_P_require_shelves) := ⟨rfl, rfl, rfl, by decide +kernel, rfl, by decide +kernel, by decide +kernel⟩
theorem h_P_require_shelves (T : Txt K mg) : Has P w K mg base "_require_shelves" 4 ["shelves"] (dspX (s_P_require_shelves K)) := by
  refine has_ofX (N := ["shelves", "at", "shelf"]) (k := 3) (t := (fun E => liftS (fun cls d _ H => E cls d H) (w_P_require_shelves K))) T.g_P_require_shelves T.F_P_require_shelves sc_P_require_shelves (len_dspX (l_P_require_shelves K)) (fun _ _ _ _ _ _ us hl => match us, hl with | [_], _ => rfl) (fun cdv A outer s H E hr tk => ?_) (dl_startX (o_P_require_shelves K))
  exact (dss1 (dfor PassesOwn.leaving rfl (diEn 0 (pi_enum (by rfl) T.z_enumerate (pa_cons (pv 0) pa_nil)) (EnT.pi_enumT (by rfl) T.z_enumerate (pa_cons (pv 0) pa_nil))) (pg_tup rfl (pgs_cons (pg_name (i := 1) sc_P_require_shelves.nd rfl (Or.inl rfl)) (pgs_cons (pg_name (i := 2) sc_P_require_shelves.nd rfl (Or.inl rfl)) pgs_nil))) (tgP 1 2) (dss (ddropX (fun _ h => ps_expr h) (pe_dcS (h_Pvalid_name T) hr (fun σ => L2N.passAt tk σ) (dac (dv 2 (pv 2)) dan)))
    (dss1 (difS (dtcmp kIn opIn (dvP 2 (pv 2)) (dp (dslA (dvP 0 (pv 0)) dpo0 (dpo (dvP 1 (pv 1))))) (by rfl)) (dss1 (draise1 (ps_rs (by rfl) tk (pmk_in (i1_Twice T) T.c_Twice hr (pa_cons (dv 2 (pv 2)) pa_nil))))) dss0)))))
theorem sc_P_require_listed : FnScope ["names", "known", "at", "name"] ["names", "known"] (defScope q_P_require_listed) := ⟨rfl, rfl, rfl, by decide +kernel, rfl, by decide +kernel, by decide +kernel⟩
theorem h_P_require_listed (T : Txt K mg) : Has P w K mg base "_require_listed" 3 ["names", "known"] (dspX (s_P_require_listed K)) := by
  refine has_ofX (N := ["names", "known", "at", "name"]) (k := 2) (t := (fun E => liftS (fun cls d _ H => E cls d H) (w_P_require_listed K))) T.g_P_require_listed T.F_P_require_listed sc_P_require_listed (len_dspX (l_P_require_listed K)) (fun _ _ _ _ _ _ us hl => match us, hl with | [_, _], _ => rfl) (fun cdv A outer s H E hr tk => ?_) (dl_startX (o_P_require_listed K))
  exact (dss1 (dfor PassesOwn.leaving rfl (diEn 0 (pi_enum (by rfl) T.z_enumerate (pa_cons (pv 0) pa_nil)) (EnT.pi_enumT (by rfl) T.z_enumerate (pa_cons (pv 0) pa_nil))) (pg_tup rfl (pgs_cons (pg_name (i := 2) sc_P_require_listed.nd rfl (Or.inl rfl)) (pgs_cons (pg_name (i := 3) sc_P_require_listed.nd rfl (Or.inl rfl)) pgs_nil))) (tgP 2 3) (dss (difS (dtcmp kNi opNi (dvP 3 (pv 3)) (dvP 1 (pv 1)) (by rfl)) (dss1 (draise1 (ps_rs (by rfl) tk (pmk_in (i1_Unknown T) T.c_Unknown hr (pa_cons (dv 3 (pv 3)) pa_nil))))) dss0)
    (dss1 (difS (dtcmp kIn opIn (dvP 3 (pv 3)) (dp (dslA (dvP 0 (pv 0)) dpo0 (dpo (dvP 2 (pv 2))))) (by rfl)) (dss1 (draise1 (ps_rs (by rfl) tk (pmk_in (i1_Twice T) T.c_Twice hr (pa_cons (dv 3 (pv 3)) pa_nil))))) dss0)))))
theorem sc_P_require_boxes : FnScope ["boxes", "shelves", "box", "weight"] ["boxes", "shelves"] (defScope q_P_require_boxes) := ⟨rfl, rfl, rfl, by decide +kernel, rfl, by decide +kernel, by decide +kernel⟩
theorem h_P_require_boxes (T : Txt K mg) : Has P w K mg base "_require_boxes" 4 ["boxes", "shelves"] (dspX (s_P_require_boxes K)) := by
  refine has_ofX (N := ["boxes", "shelves", "box", "weight"]) (k := 3) (t := (fun E => liftS (fun cls d _ H => E cls d H) (w_P_require_boxes K))) T.g_P_require_boxes T.F_P_require_boxes sc_P_require_boxes (len_dspX (l_P_require_boxes K)) (fun _ _ _ _ _ _ us hl => match us, hl with | [_, _], _ => rfl) (fun cdv A outer s H E hr tk => ?_) (dl_startX (o_P_require_boxes K))
  exact (dss1 (dforKX itI (src_v 0) (tgP 2 3) (fun E tk => ps_for PassesOwn.leaving rfl (pi_items (pv 0)) (pg_tup rfl (pgs_cons (pg_name (i := 2) sc_P_require_boxes.nd rfl (Or.inl rfl)) (pgs_cons (pg_name (i := 3) sc_P_require_boxes.nd rfl (Or.inl rfl)) pgs_nil))) (dss (ddropX (fun _ h => ps_expr h) (pe_dcS (h_Pvalid_name T) hr (fun σ => L2N.passAt tk σ) (dac (dv 2 (pv 2)) dan)))
    (dss (difS (dtcmp kIn opIn (dvP 2 (pv 2)) (dvP 1 (pv 1)) (by rfl)) (dss1 (draise1 (ps_rs (by rfl) tk (pmk_in (i1_Twice T) T.c_Twice hr (pa_cons (dv 2 (pv 2)) pa_nil))))) dss0)
    (dss1 (ddropX (fun _ h => ps_expr h) (pe_dcS (h_Pvalid_weight T) hr (fun σ => L2N.passAt tk σ) (dac (dv 3 (pv 3)) dan)))))))))
theorem sc_PYard___init__ : FnScope ["self", "shelves", "boxes", "nailed", "sealed", "holders", "box"] ["self", "shelves", "boxes", "nailed", "sealed"] (defScope q_PYard___init__) := ⟨rfl, rfl, rfl, by decide +kernel, rfl, by decide +kernel, by decide +kernel⟩
theorem hIK_Yard_nailed_sealed (T : Txt K mg) : HasIK P w K mg base (He.ga K "Yard") 5 2 ["self", "shelves", "boxes", "nailed", "sealed"] ["nailed", "sealed"] gCat (spI (He.ga K "Yard") (s_PYard___init__ K)) := by
  obtain ⟨f, fd, M, F⟩ := T.FI_Yard
  obtain ⟨mv, b⟩ := F.kbinds0 (ps := ["self", "shelves", "boxes", "nailed", "sealed"]) 3 ["nailed", "sealed"] [] (fun us _ ws => us ++ ws) (fun z => nomatch z) (fun _ z => nomatch z) (fun r1 _ r3 => r1.append r3) (fun D doc pm an cdv ct us mv ws h1 h2 h3 => match us, mv, ws, h1, h2, h3 with | [_, _, _], [], [_, _], _, _, _ => rfl)
  refine ⟨f, fd, M, ⟨_, b⟩, F.ok sc_PYard___init__ (len_spI (l_PYard___init__ K)) fun cdv A outer s H vs Q E hr h => ⟨liftS (fun cls d _ H => E cls d H) (w_PYard___init__ K), ?_, dl_startI (n := "self") (N := ["shelves", "boxes", "nailed", "sealed", "holders", "box"]) (o_PYard___init__ K) vs H Q E h⟩⟩
  have tk := L2N.takes_of (X := cxOf (L2N.CX P w) P w K mg base ["self", "shelves", "boxes", "nailed", "sealed", "holders", "box"] "Yard.__init__" (defScope q_PYard___init__) f cdv A outer s H E) (E := E) rfl rfl rfl rfl
  exact (dss (ddropX (fun _ h => ps_expr h) (pe_dcS (h_P_require_count T) hr (fun σ => L2N.passAt tk σ) (dac dc_str (dac (dcb clLen (pe_callB cLen (by rfl) T.z_len (by decide +kernel) (dbc (dvP 1 (pv 1)) dbn))) (dac (dcval T.cv_Yard_MOST_SHELVES (ClX.pe_cval (pe_glob (by rfl) T.c_Yard (by rfl)))) dan)))))
    (dss (ddropX (fun _ h => ps_expr h) (pe_dcS (h_P_require_count T) hr (fun σ => L2N.passAt tk σ) (dac dc_str (dac (dlenDD (pe_callB call_lenR (by rfl) T.z_len (by decide +kernel) (pa_cons (dv 2 (pv 2)) pa_nil))) (dac (dcval T.cv_Yard_MOST_BOXES (ClX.pe_cval (pe_glob (by rfl) T.c_Yard (by rfl)))) dan)))))
    (dss (ddropX (fun _ h => ps_expr h) (pe_dcS (h_P_require_shelves T) hr (fun σ => L2N.passAt tk σ) (dac (dv 1 (pv 1)) dan)))
    (dss (ddropX (fun _ h => ps_expr h) (pe_dcS (h_P_require_boxes T) hr (fun σ => L2N.passAt tk σ) (dac (dv 2 (pv 2)) (dac (dv 1 (pv 1)) dan))))
    (dss (dasg 5 (fun _ h => ps_set (i := 5) sc_PYard___init__.nd rfl (Or.inl rfl) h) (dop oAdd opAdd (dp (dcb clList (pe_callTy cList (by rfl) T.z_list (by decide +kernel) (dbc (dvP 1 (pv 1)) dbn)))) (dp (df (dkeysF (pe_callTy (EnT.call_list_dKR rfl) (by rfl) T.z_list (by decide +kernel) (pa_cons (dv 2 (pv 2)) pa_nil)))))))
    (dss (ddropX (fun _ h => ps_expr h) (pe_dcS (h_P_require_listed T) hr (fun σ => L2N.passAt tk σ) (dac (dv 3 (pv 3)) (dac (df (dkeysF (pe_callTy (EnT.call_list_dKR rfl) (by rfl) T.z_list (by decide +kernel) (pa_cons (dv 2 (pv 2)) pa_nil)))) dan))))
    (dss (ddropX (fun _ h => ps_expr h) (pe_dcS (h_P_require_listed T) hr (fun σ => L2N.passAt tk σ) (dac (dv 4 (pv 4)) (dac (dv 5 (pv 5)) dan))))
    (dss (dself T.cl_Yard T.na_Yard__shelves (ps_fld (pv 0) (dcb clTup (pe_callTy cTup (by rfl) T.z_tuple (by decide +kernel) (dbc (dp (df (dsrtSF (pe_callB (EnT.cr_sortedSA rfl) (by rfl) T.z_sorted (by decide +kernel) (pa_cons (dv 1 (pv 1)) pa_nil))))) dbn))) rfl))
    (dss (dself T.cl_Yard T.na_Yard__boxes (ps_fld (pv 0) (dcb clTup (pe_callTy cTup (by rfl) T.z_tuple (by decide +kernel) (dbc (dp (df (dsrtSF (pe_callB (EnT.cr_sortedSA rfl) (by rfl) T.z_sorted (by decide +kernel) (pa_cons (dv 2 (pv 2)) pa_nil))))) dbn))) rfl))
    (dss (dself T.cl_Yard T.na_Yard__holders (ps_fld (pv 0) (dcb clTup (pe_callTy cTup (by rfl) T.z_tuple (by decide +kernel) (dbc (dp (df (dsrtSF (pe_callB (EnT.cr_sortedSA rfl) (by rfl) T.z_sorted (by decide +kernel) (pa_cons (dv 5 (pv 5)) pa_nil))))) dbn))) rfl))
    (dss (dself T.cl_Yard T.na_Yard__weights (ps_fld (pv 0) (dfd (ddc (tcN 6) yes_tr (pe_dc (own := [("box", 6)]) (g := gName 6) rfl sc_PYard___init__.nd (diL (df (dsrtSF (pe_callB (EnT.cr_sortedSA rfl) (by rfl) T.z_sorted (by decide +kernel) (pa_cons (dv 2 (pv 2)) pa_nil))))) (blkOk_by (own := [("box", 6)]) (N := ["self", "shelves", "boxes", "nailed", "sealed", "holders", "box"]) (sc := defScope q_PYard___init__) (by decide +kernel)) (fun _ _ _ _ _ => pg_name (i := 6) sc_PYard___init__.nd rfl (Or.inl rfl)) (fun _ _ _ _ _ => pts_nil) (fun _ _ _ _ _ => (dv 6 (pv 6))) (fun _ _ _ _ _ => (dixD (pe_dget (hu_of hr) (dv 2 (pv 2)) (dv 6 (pv 6)) (fun _ _ => rfl))))))) rfl))
    (dss (dself T.cl_Yard T.na_Yard__nailed (ps_fld (pv 0) (dcb clTup (pe_callTy cTup (by rfl) T.z_tuple (by decide +kernel) (dbc (dp (df (dsrtSF (pe_callB (EnT.cr_sortedSA rfl) (by rfl) T.z_sorted (by decide +kernel) (pa_cons (dv 3 (pv 3)) pa_nil))))) dbn))) rfl))
    (dss1 (dself T.cl_Yard T.na_Yard__sealed (ps_fld (pv 0) (dcb clTup (pe_callTy cTup (by rfl) T.z_tuple (by decide +kernel) (dbc (dp (df (dsrtSF (pe_callB (EnT.cr_sortedSA rfl) (by rfl) T.z_sorted (by decide +kernel) (pa_cons (dv 4 (pv 4)) pa_nil))))) dbn))) rfl)))))))))))))))
theorem sc_PYard_is_box : FnScope ["self", "name"] ["self", "name"] (defScope q_PYard_is_box) := ⟨rfl, rfl, rfl, by decide +kernel, rfl, by decide +kernel, by decide +kernel⟩
theorem hm_Yard_is_box (T : Txt K mg) : HasM P w K mg base (He.ga K "Yard") "is_box" 1 ["self", "name"] (dsp (s_PYard_is_box K)) := by
  refine hasM_of (N := ["self", "name"]) (k := 0) (t := liftS (fun _ _ _ _ => False) (w_PYard_is_box K)) T.FM_Yard_is_box sc_PYard_is_box (len_dsp (l_PYard_is_box K)) (fun _ _ _ _ _ _ us hl => match us, hl with | [_, _], _ => rfl) (fun f cdv A outer s H E hr => ?_) (dl_start (o_PYard_is_box K))
  exact (dss1 (dret (dinDN (pe_cmp (pc_din (hu_of hr) (dv 1 (pv 1)) (dfld T.cl_Yard T.na_Yard__weights (pe_fld (dv 0 (pv 0)) rfl)))))))
theorem sc_PYard_is_shelf : FnScope ["self", "name"] ["self", "name"] (defScope q_PYard_is_shelf) := ⟨rfl, rfl, rfl, by decide +kernel, rfl, by decide +kernel, by decide +kernel⟩
theorem hm_Yard_is_shelf (T : Txt K mg) : HasM P w K mg base (He.ga K "Yard") "is_shelf" 1 ["self", "name"] (dsp (s_PYard_is_shelf K)) := by
  refine hasM_of (N := ["self", "name"]) (k := 0) (t := liftS (fun _ _ _ _ => False) (w_PYard_is_shelf K)) T.FM_Yard_is_shelf sc_PYard_is_shelf (len_dsp (l_PYard_is_shelf K)) (fun _ _ _ _ _ _ us hl => match us, hl with | [_, _], _ => rfl) (fun f cdv A outer s H E hr => ?_) (dl_start (o_PYard_is_shelf K))
  exact (dss1 (dret (dcmp kIn opIn (dvP 1 (pv 1)) (dp (dfld T.cl_Yard T.na_Yard__shelves (pe_fld (dv 0 (pv 0)) rfl))) (by rfl))))
theorem sc_PYard___iter__ : FnScope ["self"] ["self"] (defScope q_PYard___iter__) := ⟨rfl, rfl, rfl, by decide +kernel, rfl, by decide +kernel, by decide +kernel⟩
theorem hit_Yard (T : Txt K mg) : HasIt P w K mg base (He.ga K "Yard") 1 "_boxes" := hasIt_of T.cl_Yard T.na_Yard__boxes T.FM_Yard___iter__ sc_PYard___iter__ (fun _ _ _ _ _ _ us hl => match us, hl with | [_], _ => rfl) (fun f cdv A outer s H E => pss_one (ps_ret (pe_callB call_iterT (by rfl) T.z_iter (by decide +kernel) (pa_cons (pe_fld (pv 0) rfl) pa_nil))))
theorem sc_Prequire_box : FnScope ["yard", "name"] ["yard", "name"] (defScope q_Prequire_box) := ⟨rfl, rfl, rfl, by decide +kernel, rfl, by decide +kernel, by decide +kernel⟩
theorem h_Prequire_box (T : Txt K mg) : Has P w K mg base "require_box" 3 ["yard", "name"] (dspX (s_Prequire_box K)) := by
  refine has_ofX (N := ["yard", "name"]) (k := 2) (t := (fun E => liftS (fun cls d _ H => E cls d H) (w_Prequire_box K))) T.g_Prequire_box T.F_Prequire_box sc_Prequire_box (len_dspX (l_Prequire_box K)) (fun _ _ _ _ _ _ us hl => match us, hl with | [_, _], _ => rfl) (fun cdv A outer s H E hr tk => ?_) (dl_startX (o_Prequire_box K))
  exact (dss1 (difS (dnot (dtru (dp (dmeth (pe_dm T.cl_Yard (hm_Yard_is_box T) hr (dv 0 (pv 0)) (dac (dv 1 (pv 1)) dan)))))) (dss1 (draise1 (ps_rs (by rfl) tk (pmk_in (i1_Unknown T) T.c_Unknown hr (pa_cons (dv 1 (pv 1)) pa_nil))))) dss0))
theorem sc_Pis_holder : FnScope ["yard", "name"] ["yard", "name"] (defScope q_Pis_holder) := ⟨rfl, rfl, rfl, by decide +kernel, rfl, by decide +kernel, by decide +kernel⟩
theorem h_Pis_holder (T : Txt K mg) : Has P w K mg base "is_holder" 2 ["yard", "name"] (dsp (s_Pis_holder K)) := by
  refine has_of (N := ["yard", "name"]) (k := 1) (t := liftS (fun _ _ _ _ => False) (w_Pis_holder K)) T.g_Pis_holder T.F_Pis_holder sc_Pis_holder (len_dsp (l_Pis_holder K)) (fun _ _ _ _ _ _ us hl => match us, hl with | [_, _], _ => rfl) (fun cdv A outer s H E hr => ?_) (dl_start (o_Pis_holder K))
  exact (dss1 (dret (dorV (dmeth (pe_dm T.cl_Yard (hm_Yard_is_box T) hr (dv 0 (pv 0)) (dac (dv 1 (pv 1)) dan))) (done (dmeth (pe_dm T.cl_Yard (hm_Yard_is_shelf T) hr (dv 0 (pv 0)) (dac (dv 1 (pv 1)) dan)))))))
theorem sc_Prequire_holder : FnScope ["yard", "name"] ["yard", "name"] (defScope q_Prequire_holder) := ⟨rfl, rfl, rfl, by decide +kernel, rfl, by decide +kernel, by decide +kernel⟩
theorem h_Prequire_holder (T : Txt K mg) : Has P w K mg base "require_holder" 3 ["yard", "name"] (dspX (s_Prequire_holder K)) := by
  refine has_ofX (N := ["yard", "name"]) (k := 2) (t := (fun E => liftS (fun cls d _ H => E cls d H) (w_Prequire_holder K))) T.g_Prequire_holder T.F_Prequire_holder sc_Prequire_holder (len_dspX (l_Prequire_holder K)) (fun _ _ _ _ _ _ us hl => match us, hl with | [_, _], _ => rfl) (fun cdv A outer s H E hr tk => ?_) (dl_startX (o_Prequire_holder K))
  exact (dss1 (difS (dnot (dtru (dp (dcall (pe_dc (h_Pis_holder T) hr (dac (dv 0 (pv 0)) (dac (dv 1 (pv 1)) dan))))))) (dss1 (draise1 (ps_rs (by rfl) tk (pmk_in (i1_Unknown T) T.c_Unknown hr (pa_cons (dv 1 (pv 1)) pa_nil))))) dss0))
theorem sc_P_meets_itself : FnScope ["table", "box", "place", "_"] ["table", "box"] (defScope q_P_meets_itself) := ⟨rfl, rfl, rfl, by decide +kernel, rfl, by decide +kernel, by decide +kernel⟩
theorem h_P_meets_itself (T : Txt K mg) : Has P w K mg base "_meets_itself" 2 ["table", "box"] (dsp (s_P_meets_itself)) := by
  refine has_of (N := ["table", "box", "place", "_"]) (k := 1) (t := liftS (fun _ _ _ _ => False) (w_P_meets_itself)) T.g_P_meets_itself T.F_P_meets_itself sc_P_meets_itself (len_dsp (l_P_meets_itself)) (fun _ _ _ _ _ _ us hl => match us, hl with | [_, _], _ => rfl) (fun cdv A outer s H E hr => ?_) (dl_start (o_P_meets_itself))
  exact (dss (dasg 2 (fun _ h => ps_set (i := 2) sc_P_meets_itself.nd rfl (Or.inl rfl) h) (dixD (pe_dget (hu_of hr) (dv 0 (pv 0)) (dv 1 (pv 1)) (fun _ _ => rfl))))
    (dss (dforK itK (src_v 0) (tgN 3) (ps_for PassesOwn.never rfl (pi_keys (pv 0)) (pg_name (i := 3) sc_P_meets_itself.nd rfl (Or.inl rfl)) (dss (difS (dtcmp oEq opEq (dvP 2 (pv 2)) (dvP 1 (pv 1)) (nomark _)) (dss1 (dret dc_bl)) dss0)
    (dss (difS (dtninDN (pt_cmp (pc_dnotin (hu_of hr) (dv 2 (pv 2)) (dv 0 (pv 0))))) (dss1 (dret dc_bl)) dss0)
    (dss1 (dasg 2 (fun _ h => ps_set (i := 2) sc_P_meets_itself.nd rfl (Or.inl rfl) h) (dixD (pe_dget (hu_of hr) (dv 0 (pv 0)) (dv 2 (pv 2)) (fun _ _ => rfl)))))))))
    (dss1 (dret dc_bl))))
theorem sc_Pleast_looped : FnScope ["table", "box"] ["table"] (defScope q_Pleast_looped) := ⟨rfl, rfl, rfl, by decide +kernel, rfl, by decide +kernel, by decide +kernel⟩
theorem h_Pleast_looped (T : Txt K mg) : Has P w K mg base "least_looped" 3 ["table"] (dsp (s_Pleast_looped)) := by
  refine has_of (N := ["table", "box"]) (k := 2) (t := liftS (fun _ _ _ _ => False) (w_Pleast_looped)) T.g_Pleast_looped T.F_Pleast_looped sc_Pleast_looped (len_dsp (l_Pleast_looped)) (fun _ _ _ _ _ _ us hl => match us, hl with | [_], _ => rfl) (fun cdv A outer s H E hr => ?_) (dl_start (o_Pleast_looped))
  exact (dss (dfor PassesOwn.never rfl (diL (df (dsrtSF (pe_callB (EnT.cr_sortedSA rfl) (by rfl) T.z_sorted (by decide +kernel) (pa_cons (dv 0 (pv 0)) pa_nil))))) (pg_name (i := 1) sc_Pleast_looped.nd rfl (Or.inl rfl)) (tgN 1) (dss1 (difS (dtru (dp (dcall (pe_dc (h_P_meets_itself T) hr (dac (dv 0 (pv 0)) (dac (dv 1 (pv 1)) dan)))))) (dss1 (dret (dv 1 (pv 1)))) dss0)))
    (dss1 (dret dc_non)))
theorem sc_PWorld___init__ : FnScope ["self", "yard", "table", "box", "holder", "looped"] ["self", "yard", "table"] (defScope q_PWorld___init__) := ⟨rfl, rfl, rfl, by decide +kernel, rfl, by decide +kernel, by decide +kernel⟩
theorem hI_World (T : Txt K mg) : HasI P w K mg base (He.ga K "World") 4 ["self", "yard", "table"] [] (spI (He.ga K "World") (s_PWorld___init__ K)) := by
  refine hasI0_of (N := ["self", "yard", "table", "box", "holder", "looped"]) (k := 3) (t := fun E => liftS (fun cls d _ H => E cls d H) (w_PWorld___init__ K)) T.FI_World sc_PWorld___init__ (len_spI (l_PWorld___init__ K)) (fun _ _ _ _ _ _ us hl => match us, hl with | [_, _, _], _ => rfl) (fun f cdv A outer s H E hr tk => ?_) (dl_startI (n := "self") (N := ["yard", "table", "box", "holder", "looped"]) (o_PWorld___init__ K))
  exact (dss (dforKX itI (src_v 2) (tgP 3 4) (fun E tk => ps_for PassesOwn.leaving rfl (pi_items (pv 2)) (pg_tup rfl (pgs_cons (pg_name (i := 3) sc_PWorld___init__.nd rfl (Or.inl rfl)) (pgs_cons (pg_name (i := 4) sc_PWorld___init__.nd rfl (Or.inl rfl)) pgs_nil))) (dss (ddropX (fun _ h => ps_expr h) (pe_dcS (h_Prequire_box T) hr (fun σ => L2N.passAt tk σ) (dac (dv 1 (pv 1)) (dac (dv 3 (pv 3)) dan))))
    (dss1 (ddropX (fun _ h => ps_expr h) (pe_dcS (h_Prequire_holder T) hr (fun σ => L2N.passAt tk σ) (dac (dv 1 (pv 1)) (dac (dv 4 (pv 4)) dan))))))))
    (dss (dfor PassesOwn.leaving rfl (diOwn (pi_own (hit_Yard T) hr (dv 1 (pv 1)))) (pg_name (i := 3) sc_PWorld___init__.nd rfl (Or.inl rfl)) (tgN 3) (dss1 (difS (dtninDN (pt_cmp (pc_dnotin (hu_of hr) (dv 3 (pv 3)) (dv 2 (pv 2))))) (dss1 (draise1 (ps_rs (by rfl) tk (pmk_in (i1_NoHolder T) T.c_NoHolder hr (pa_cons (dv 3 (pv 3)) pa_nil))))) dss0)))
    (dss (dasg 5 (fun _ h => ps_set (i := 5) sc_PWorld___init__.nd rfl (Or.inl rfl) h) (dcall (pe_dc (h_Pleast_looped T) hr (dac (dv 2 (pv 2)) dan))))
    (dss (difS (dtisnn (dvP 5 (pv 5)) (fun t h => pt_cmp (pc_notN h))) (dss1 (draise1 (ps_rs (by rfl) tk (pmk_in (i1_Loop T) T.c_Loop hr (pa_cons (dv 5 (pv 5)) pa_nil))))) dss0)
    (dss (dself T.cl_World T.na_World__yard (ps_fld (pv 0) (dv 1 (pv 1)) rfl))
    (dss (dself T.cl_World T.na_World__table (ps_fld (pv 0) (dfd (ddc (tcN 3) yes_tr (pe_dc (own := [("box", 3)]) (g := gName 3) rfl sc_PWorld___init__.nd (diOwn (pi_own (hit_Yard T) hr (dv 1 (pv 1)))) (blkOk_by (own := [("box", 3)]) (N := ["self", "yard", "table", "box", "holder", "looped"]) (sc := defScope q_PWorld___init__) (by decide +kernel)) (fun _ _ _ _ _ => pg_name (i := 3) sc_PWorld___init__.nd rfl (Or.inl rfl)) (fun _ _ _ _ _ => pts_nil) (fun _ _ _ _ _ => (dv 3 (pv 3))) (fun _ _ _ _ _ => (dixD (pe_dget (hu_of hr) (dv 2 (pv 2)) (dv 3 (pv 3)) (fun _ _ => rfl))))))) rfl))
    (dss1 (dself T.cl_World T.na_World__row (ps_fld (pv 0) (dcb clTup (pe_callTy cTup (by rfl) T.z_tuple (by decide +kernel) (dbc (dp (df (dlc (tcN 3) yes_tr (pe_lc (own := [("box", 3)]) (g := gName 3) (by rfl) sc_PWorld___init__.nd (diOwn (pi_own (hit_Yard T) hr (dv 1 (pv 1)))) (blkOk_by (own := [("box", 3)]) (N := ["self", "yard", "table", "box", "holder", "looped"]) (sc := defScope q_PWorld___init__) (by decide +kernel)) (fun _ _ _ _ _ => pg_name (i := 3) sc_PWorld___init__.nd rfl (Or.inl rfl)) (fun _ _ _ _ _ => pts_nil) (fun _ _ _ _ _ => (dixD (pe_dget (hu_of hr) (dv 2 (pv 2)) (dv 3 (pv 3)) (fun _ _ => rfl)))))))) dbn))) rfl)))))))))
theorem sc_PWorld_yard : FnScope ["self"] ["self"] (defScope q_PWorld_yard) := ⟨rfl, rfl, rfl, by decide +kernel, rfl, by decide +kernel, by decide +kernel⟩
theorem hp_World_yard (T : Txt K mg) : HasP P w K mg base (He.ga K "World") "yard" 1 ["self"] (dsp (s_PWorld_yard K)) := by
  refine hasP_of (N := ["self"]) (k := 0) (t := liftS (fun _ _ _ _ => False) (w_PWorld_yard K)) T.FP_World_yard sc_PWorld_yard (len_dsp (l_PWorld_yard K)) (fun _ _ _ _ _ _ us hl => match us, hl with | [_], _ => rfl) (fun f cdv A outer s H E hr => ?_) (dl_start (o_PWorld_yard K))
  exact (dss1 (dret (dfld T.cl_World T.na_World__yard (pe_fld (dv 0 (pv 0)) rfl))))
theorem sc_PWorld_row : FnScope ["self"] ["self"] (defScope q_PWorld_row) := ⟨rfl, rfl, rfl, by decide +kernel, rfl, by decide +kernel, by decide +kernel⟩
theorem hp_World_row (T : Txt K mg) : HasP P w K mg base (He.ga K "World") "row" 1 ["self"] (dsp (s_PWorld_row K)) := by
  refine hasP_of (N := ["self"]) (k := 0) (t := liftS (fun _ _ _ _ => False) (w_PWorld_row K)) T.FP_World_row sc_PWorld_row (len_dsp (l_PWorld_row K)) (fun _ _ _ _ _ _ us hl => match us, hl with | [_], _ => rfl) (fun f cdv A outer s H E hr => ?_) (dl_start (o_PWorld_row K))
  exact (dss1 (dret (dfld T.cl_World T.na_World__row (pe_fld (dv 0 (pv 0)) rfl))))
theorem sc_PWorld_holder : FnScope ["self", "name"] ["self", "name"] (defScope q_PWorld_holder) := ⟨rfl, rfl, rfl, by decide +kernel, rfl, by decide +kernel, by decide +kernel⟩
theorem hm_World_holder (T : Txt K mg) : HasM P w K mg base (He.ga K "World") "holder" 4 ["self", "name"] (dspX (s_PWorld_holder K)) := by
  refine hasMX_of (N := ["self", "name"]) (k := 3) (t := fun E => liftS (fun cls d _ H => E cls d H) (w_PWorld_holder K)) T.FM_World_holder sc_PWorld_holder (len_dspX (l_PWorld_holder K)) (fun _ _ _ _ _ _ us hl => match us, hl with | [_, _], _ => rfl) (fun f cdv A outer s H E hr tk => ?_) (dl_startX (o_PWorld_holder K))
  exact (dss (ddropX (fun _ h => ps_expr h) (pe_dcS (h_Prequire_box T) hr (fun σ => L2N.passAt tk σ) (dac (dfld T.cl_World T.na_World__yard (pe_fld (dv 0 (pv 0)) rfl)) (dac (dv 1 (pv 1)) dan))))
    (dss1 (dret (dixD (pe_dget (hu_of hr) (dfld T.cl_World T.na_World__table (pe_fld (dv 0 (pv 0)) rfl)) (dv 1 (pv 1)) (fun _ _ => rfl))))))
theorem sc_PWorld___iter__ : FnScope ["self"] ["self"] (defScope q_PWorld___iter__) := ⟨rfl, rfl, rfl, by decide +kernel, rfl, by decide +kernel, by decide +kernel⟩
theorem hit_World (T : Txt K mg) : HasItK P w K mg base (He.ga K "World") 1 "_table" := hasItK_of T.cl_World T.na_World__table T.FM_World___iter__ sc_PWorld___iter__ (fun _ _ _ _ _ _ us hl => match us, hl with | [_], _ => rfl) (fun f cdv A outer s H E => pss_one (ps_ret (pe_callB call_iterK (by rfl) T.z_iter (by decide +kernel) (pa_cons (pe_fld (pv 0) rfl) pa_nil))))
theorem sc_Pchain : FnScope ["world", "box", "found"] ["world", "box"] (defScope q_Pchain) := ⟨rfl, rfl, rfl, by decide +kernel, rfl, by decide +kernel, by decide +kernel⟩
theorem h_Pchain (T : Txt K mg) : Has P w K mg base "chain" 5 ["world", "box"] (dspX (s_Pchain K)) := by
  refine has_ofX (N := ["world", "box", "found"]) (k := 4) (t := (fun E => liftS (fun cls d _ H => E cls d H) (w_Pchain K))) T.g_Pchain T.F_Pchain sc_Pchain (len_dspX (l_Pchain K)) (fun _ _ _ _ _ _ us hl => match us, hl with | [_, _], _ => rfl) (fun cdv A outer s H E hr tk => ?_) (dl_startX (o_Pchain K))
  exact (dss (dasgOE 2 (fun _ h => ps_set (i := 2) sc_Pchain.nd rfl (Or.inl rfl) h) (deaC (deMeth (pe_dmS T.cl_World (hm_World_holder T) hr (fun σ => L2N.passAt tk σ) (dv 0 (pv 0)) (dac (dv 1 (pv 1)) dan))) deaN))
    (dss (dwhile PassesOwn.leaving (dtru (dp (dmeth (pe_dm T.cl_Yard (hm_Yard_is_box T) hr (dprop (pe_dp T.cl_World (hp_World_yard T) hr (dv 0 (pv 0)))) (dac (dix oIx opIx (dvP 2 (pv 2)) (dp (dneg dc_int)) (fun _ _ => rfl)) dan))))) (dss1 (dapp 2 (fun _ h => ps_expr (pe_bm PySem.F.plainAttrs_list PySem.F.slot_list_append PySem.F.type_list_append mt_append (pv 2) (pa_cons h pa_nil))) (dmeth (pe_dm T.cl_World (HasM.weak (hm_World_holder T) dspX_no) hr (dv 0 (pv 0)) (dac (dix oIx opIx (dvP 2 (pv 2)) (dp (dneg dc_int)) (fun _ _ => rfl)) dan))))))
    (dss1 (dret (dv 2 (pv 2))))))
theorem sc_Pheld : FnScope ["world", "holder", "box"] ["world", "holder"] (defScope q_Pheld) := ⟨rfl, rfl, rfl, by decide +kernel, rfl, by decide +kernel, by decide +kernel⟩
theorem hF_Pheld (T : Txt K mg) : Has P w K mg base "held" 5 ["world", "holder"] (dspXF (s_Pheld K)) := by
  refine has_ofX (N := ["world", "holder", "box"]) (k := 4) (t := fun E => tSeq (liftS (fun cls d _ H => E cls d H) (w_Pheld K)) (tRet (liftF (f_Pheld K)))) T.g_Pheld T.F_Pheld sc_Pheld (len_dspXF (l_Pheld K)) (fun _ _ _ _ _ _ us hl => match us, hl with | [_, _], _ => rfl) (fun cdv A outer s H E hr tk => ?_) (dl_startXF (o_Pheld K))
  exact (pss_cons (ddropX (fun _ h => ps_expr h) (pe_dcS (h_Prequire_holder T) hr (fun σ => L2N.passAt tk σ) (dac (dprop (pe_dp T.cl_World (hp_World_yard T) hr (dv 0 (pv 0)))) (dac (dv 1 (pv 1)) dan))))
    (pss_one (ps_ret (dlcK itKM (src_fC 0) (tcN 2) one_tr (pe_lc (own := [("box", 2)]) (g := gName 2) (by rfl) sc_Pheld.nd (pi_ownK (hit_World T) hr (pv 0)) (blkOk_by (own := [("box", 2)]) (N := ["world", "holder", "box"]) (sc := defScope q_Pheld) (by decide +kernel)) (fun _ _ _ _ _ => pg_name (i := 2) sc_Pheld.nd rfl (Or.inl rfl)) (fun _ _ _ _ _ => (pts_one (dtcmp oEq opEq (dp (dmeth (pe_dm T.cl_World (HasM.weak (hm_World_holder T) dspX_no) hr (dv 0 (pv 0)) (dac (dv 2 (pv 2)) dan)))) (dvP 1 (pv 1)) (nomark _)))) (fun _ _ _ _ _ => (dv 2 (pv 2))))))))
theorem sc_Pall_held : FnScope ["world", "holder", "box"] ["world", "holder"] (defScope q_Pall_held) := ⟨rfl, rfl, rfl, by decide +kernel, rfl, by decide +kernel, by decide +kernel⟩
theorem hF_Pall_held (T : Txt K mg) : Has P w K mg base "all_held" 6 ["world", "holder"] (dspXF (s_Pall_held K)) := by
  refine has_ofX (N := ["world", "holder", "box"]) (k := 5) (t := fun E => tSeq (liftS (fun cls d _ H => E cls d H) (w_Pall_held K)) (tRet (liftF (f_Pall_held K)))) T.g_Pall_held T.F_Pall_held sc_Pall_held (len_dspXF (l_Pall_held K)) (fun _ _ _ _ _ _ us hl => match us, hl with | [_, _], _ => rfl) (fun cdv A outer s H E hr tk => ?_) (dl_startXF (o_Pall_held K))
  exact (pss_cons (ddropX (fun _ h => ps_expr h) (pe_dcS (h_Prequire_holder T) hr (fun σ => L2N.passAt tk σ) (dac (dprop (pe_dp T.cl_World (hp_World_yard T) hr (dv 0 (pv 0)))) (dac (dv 1 (pv 1)) dan))))
    (pss_one (ps_ret (dlcK itKM (src_fC 0) (tcN 2) one_tr (pe_lc (own := [("box", 2)]) (g := gName 2) (by rfl) sc_Pall_held.nd (pi_ownK (hit_World T) hr (pv 0)) (blkOk_by (own := [("box", 2)]) (N := ["world", "holder", "box"]) (sc := defScope q_Pall_held) (by decide +kernel)) (fun _ _ _ _ _ => pg_name (i := 2) sc_Pall_held.nd rfl (Or.inl rfl)) (fun _ _ _ _ _ => (pts_one (dtcmp kIn opIn (dvP 1 (pv 1)) (dp (dcallN (pe_dc (h_Pchain T) hr (dac (dv 0 (pv 0)) (dac (dv 2 (pv 2)) dan))))) (by rfl)))) (fun _ _ _ _ _ => (dv 2 (pv 2))))))))
theorem sc_Pis_within : FnScope ["world", "box", "holder", "above"] ["world", "box", "holder"] (defScope q_Pis_within) := ⟨rfl, rfl, rfl, by decide +kernel, rfl, by decide +kernel, by decide +kernel⟩
theorem h_Pis_within (T : Txt K mg) : Has P w K mg base "is_within" 6 ["world", "box", "holder"] (dspX (s_Pis_within K)) := by
  refine has_ofX (N := ["world", "box", "holder", "above"]) (k := 5) (t := (fun E => liftS (fun cls d _ H => E cls d H) (w_Pis_within K))) T.g_Pis_within T.F_Pis_within sc_Pis_within (len_dspX (l_Pis_within K)) (fun _ _ _ _ _ _ us hl => match us, hl with | [_, _, _], _ => rfl) (fun cdv A outer s H E hr tk => ?_) (dl_startX (o_Pis_within K))
  exact (dss (dasgX 3 (fun _ h => ps_set (i := 3) sc_Pis_within.nd rfl (Or.inl rfl) h) (pe_dcS (h_Pchain T) hr (fun σ => L2N.passAt tk σ) (dac (dv 0 (pv 0)) (dac (dv 1 (pv 1)) dan))))
    (dss (ddropX (fun _ h => ps_expr h) (pe_dcS (h_Prequire_holder T) hr (fun σ => L2N.passAt tk σ) (dac (dprop (pe_dp T.cl_World (hp_World_yard T) hr (dv 0 (pv 0)))) (dac (dv 2 (pv 2)) dan))))
    (dss1 (dret (dcmp kIn opIn (dvP 2 (pv 2)) (dvP 3 (pv 3)) (by rfl))))))
theorem sc_yard : FnScope ["plan"] ["plan"] (defScope q_yard) := ⟨rfl, rfl, rfl, by decide +kernel, rfl, by decide +kernel, by decide +kernel⟩
theorem h_yard (T : Txt K mg) : Has P w K mg base "_law_yard" 7 ["plan"] (dsp ((s_yard9 K))) := by
  refine has_of (N := ["plan"]) (k := 6) (t := liftS (fun _ _ _ _ => False) (w_yard9 K)) T.g_yard T.F_yard sc_yard (len_dsp ((l_yard9 K))) (fun _ _ _ _ _ _ us hl => match us, hl with | [_], _ => rfl) (fun cdv A outer s H E hr => ?_) (dl_start ((o_yard9 K)))
  exact (dss1 (dret (dmkK (pe_miKS (hIK_Yard_nailed_sealed T) T.c_Yard hr passNS (dac (dcb clList (pe_callTy cList (by rfl) T.z_list (by decide +kernel) (dbc (dp (dix oIx opIx (dvP 0 (pv 0)) (dp dc_int) (fun _ _ => rfl))) dbn))) (dac (ddict (pe_callTy call_dictD (by rfl) T.z_dict (by decide +kernel) (pa_cons (dix oIx opIx (dvP 0 (pv 0)) (dp dc_int) (fun _ _ => rfl)) pa_nil))) dan)) (dkc (dcb clList (pe_callTy cList (by rfl) T.z_list (by decide +kernel) (dbc (dp (dix oIx opIx (dvP 0 (pv 0)) (dp dc_int) (fun _ _ => rfl))) dbn))) (dkc (dcb clList (pe_callTy cList (by rfl) T.z_list (by decide +kernel) (dbc (dp (dix oIx opIx (dvP 0 (pv 0)) (dp dc_int) (fun _ _ => rfl))) dbn))) dkn))))))
theorem sc_chain : FnScope ["table", "name", "found", "at", "k"] ["table", "name"] (defScope q_chain) := ⟨rfl, rfl, rfl, by decide +kernel, rfl, by decide +kernel, by decide +kernel⟩
theorem h_chain (T : Txt K mg) : Has P w K mg base "_law_chain" 2 ["table", "name"] (dsp (s_chain9)) := by
  refine has_of (N := ["table", "name", "found", "at", "k"]) (k := 1) (t := liftS (fun _ _ _ _ => False) w_chain9) T.g_chain T.F_chain sc_chain (len_dsp (l_chain9)) (fun _ _ _ _ _ _ us hl => match us, hl with | [_, _], _ => rfl) (fun cdv A outer s H E hr => ?_) (dl_start (o_chain9))
  exact (dss (dasgO 2 (fun _ h => ps_set (i := 2) sc_chain.nd rfl (Or.inl rfl) h) (dlstF dan))
    (dss (dasg 3 (fun _ h => ps_set (i := 3) sc_chain.nd rfl (Or.inl rfl) h) (dv 1 (pv 1)))
    (dss (dfor PassesOwn.never rfl (diR1 (fun _ h => pi_range1 (by rfl) T.z_range h) (dac (dlenDD (pe_callB call_lenR (by rfl) T.z_len (by decide +kernel) (pa_cons (dv 0 (pv 0)) pa_nil))) dan)) (pg_name (i := 4) sc_chain.nd rfl (Or.inl rfl)) (tgN 4) (dss1 (difS (dtinDN (pt_cmp (pc_din (hu_of hr) (dv 3 (pv 3)) (dv 0 (pv 0))))) (dss (dasg 3 (fun _ h => ps_set (i := 3) sc_chain.nd rfl (Or.inl rfl) h) (dixD (pe_dget (hu_of hr) (dv 0 (pv 0)) (dv 3 (pv 3)) (fun _ _ => rfl))))
    (dss1 (dapp 2 (fun _ h => ps_expr (pe_bm PySem.F.plainAttrs_list PySem.F.slot_list_append PySem.F.type_list_append mt_append (pv 2) (pa_cons h pa_nil))) (dv 3 (pv 3))))) dss0)))
    (dss1 (dret (dv 2 (pv 2)))))))
theorem sc_inside : FnScope ["table", "holder", "name"] ["table", "holder"] (defScope q_inside) := ⟨rfl, rfl, rfl, by decide +kernel, rfl, by decide +kernel, by decide +kernel⟩
theorem h_inside (T : Txt K mg) : Has P w K mg base "_law_inside" 2 ["table", "holder"] (dsp (s_inside19)) := by
  refine has_of (N := ["table", "holder", "name"]) (k := 1) (t := liftS (fun _ _ _ _ => False) w_inside19) T.g_inside T.F_inside sc_inside (len_dsp (l_inside19)) (fun _ _ _ _ _ _ us hl => match us, hl with | [_, _], _ => rfl) (fun cdv A outer s H E hr => ?_) (dl_start (o_inside19))
  exact (dss1 (dret (df (dlc (tcN 2) one_tr (pe_lc (own := [("name", 2)]) (g := gName 2) (by rfl) sc_inside.nd (diL (df (dsrtSF (pe_callB (EnT.cr_sortedSA rfl) (by rfl) T.z_sorted (by decide +kernel) (pa_cons (dv 0 (pv 0)) pa_nil))))) (blkOk_by (own := [("name", 2)]) (N := ["table", "holder", "name"]) (sc := defScope q_inside) (by decide +kernel)) (fun _ _ _ _ _ => pg_name (i := 2) sc_inside.nd rfl (Or.inl rfl)) (fun _ _ _ _ _ => (pts_one (dtcmp oEq opEq (dp (dixD (pe_dget (hu_of hr) (dv 0 (pv 0)) (dv 2 (pv 2)) (fun _ _ => rfl)))) (dvP 1 (pv 1)) (nomark _)))) (fun _ _ _ _ _ => (dv 2 (pv 2))))))))
theorem sc_row : FnScope ["table", "name"] ["table"] (defScope q_row) := ⟨rfl, rfl, rfl, by decide +kernel, rfl, by decide +kernel, by decide +kernel⟩
theorem h_row (T : Txt K mg) : Has P w K mg base "_law_row" 2 ["table"] (dsp (s_row9)) := by
  refine has_of (N := ["table", "name"]) (k := 1) (t := liftS (fun _ _ _ _ => False) w_row9) T.g_row T.F_row sc_row (len_dsp (l_row9)) (fun _ _ _ _ _ _ us hl => match us, hl with | [_], _ => rfl) (fun cdv A outer s H E hr => ?_) (dl_start (o_row9))
  exact (dss1 (dret (dcb clTup (pe_callTy cTup (by rfl) T.z_tuple (by decide +kernel) (dbc (dp (df (dlc (tcN 1) yes_tr (pe_lc (own := [("name", 1)]) (g := gName 1) (by rfl) sc_row.nd (diL (df (dsrtSF (pe_callB (EnT.cr_sortedSA rfl) (by rfl) T.z_sorted (by decide +kernel) (pa_cons (dv 0 (pv 0)) pa_nil))))) (blkOk_by (own := [("name", 1)]) (N := ["table", "name"]) (sc := defScope q_row) (by decide +kernel)) (fun _ _ _ _ _ => pg_name (i := 1) sc_row.nd rfl (Or.inl rfl)) (fun _ _ _ _ _ => pts_nil) (fun _ _ _ _ _ => (dixD (pe_dget (hu_of hr) (dv 0 (pv 0)) (dv 1 (pv 1)) (fun _ _ => rfl)))))))) dbn)))))
theorem sc_any_table : FnScope ["store", "plan"] ["store", "plan"] (defScope q_any_table) := ⟨rfl, rfl, rfl, by decide +kernel, rfl, by decide +kernel, by decide +kernel⟩
theorem h_any_table (T : Txt K mg) : Has P w K mg base "_law_any_table" 5 ["store", "plan"] (dsp (s_any_table)) := by
  refine has_of (N := ["store", "plan"]) (k := 4) (t := liftS (fun _ _ _ _ => False) (w_any_table)) T.g_any_table T.F_any_table sc_any_table (len_dsp (l_any_table)) (fun _ _ _ _ _ _ us hl => match us, hl with | [_, _], _ => rfl) (fun cdv A outer s H E hr => ?_) (dl_start (o_any_table))
  exact (dss1 (dret (dcall (pe_dc (h_tree T) hr (dac (dv 0 (pv 0)) (dac (dix oIx opIx (dvP 1 (pv 1)) (dp dc_int) (fun _ _ => rfl)) (dac (dcall (pe_dc (h_shuffled T) hr (dac (dv 0 (pv 0)) (dac (df (dkeysF (pe_callTy (EnT.call_list_dKR rfl) (by rfl) T.z_list (by decide +kernel) (pa_cons (dix oIx opIx (dvP 1 (pv 1)) (dp dc_int) (fun _ _ => rfl)) pa_nil)))) dan)))) dan)))))))
theorem sc_word : FnScope ["store", "plan", "manner"] ["store", "plan"] (defScope q_word) := ⟨rfl, rfl, rfl, by decide +kernel, rfl, by decide +kernel, by decide +kernel⟩
theorem h_word (T : Txt K mg) : Has P w K mg base "_law_word" 5 ["store", "plan"] (dsp (s_word9)) := by
  refine has_of (N := ["store", "plan", "manner"]) (k := 4) (t := liftS (fun _ _ _ _ => False) w_word9) T.g_word T.F_word sc_word (len_dsp (l_word9)) (fun _ _ _ _ _ _ us hl => match us, hl with | [_, _], _ => rfl) (fun cdv A outer s H E hr => ?_) (dl_start (o_word9))
  exact (dss (dasg 2 (fun _ h => ps_set (i := 2) sc_word.nd rfl (Or.inl rfl) h) (dcall (pe_dc (h_take T) hr (dac (dv 0 (pv 0)) (dac dc_int dan)))))
    (dss (difS (dtcmp oEq opEq (dvP 2 (pv 2)) (dp dc_int) (nomark _)) (dss1 (dret (dcall (pe_dc (h_pick T) hr (dac (dv 0 (pv 0)) (dac (dix oIx opIx (dvP 1 (pv 1)) (dp dc_int) (fun _ _ => rfl)) dan)))))) dss0)
    (dss (difS (dtcmp oEq opEq (dvP 2 (pv 2)) (dp dc_int) (nomark _)) (dss1 (dret (dcall (pe_dc (h_unlike T) hr (dac (dcall (pe_dc (h_name T) hr (dac (dv 0 (pv 0)) dan))) (dac (dop oAdd opAdd (dp (dix oIx opIx (dvP 1 (pv 1)) (dp dc_int) (fun _ _ => rfl))) (dp (df (dkeysF (pe_callTy (EnT.call_list_dKR rfl) (by rfl) T.z_list (by decide +kernel) (pa_cons (dix oIx opIx (dvP 1 (pv 1)) (dp dc_int) (fun _ _ => rfl)) pa_nil)))))) dan)))))) dss0)
    (dss (difS (dtcmp oEq opEq (dvP 2 (pv 2)) (dp dc_int) (nomark _)) (dss1 (dret (dcall (pe_dc (h_not_name T) hr (dac (dv 0 (pv 0)) dan))))) dss0)
    (dss1 (dret (dcall (pe_dc (h_pick T) hr (dac (dv 0 (pv 0)) (dac (df (dkeysF (pe_callTy (EnT.call_list_dKR rfl) (by rfl) T.z_list (by decide +kernel) (pa_cons (dix oIx opIx (dvP 1 (pv 1)) (dp dc_int) (fun _ _ => rfl)) pa_nil)))) dan))))))))))
theorem sc_asked : FnScope ["what", "world", "first", "second", "found", "e"] ["what", "world", "first", "second"] (defScope q_asked) := ⟨rfl, rfl, rfl, by decide +kernel, rfl, by decide +kernel, by decide +kernel⟩
theorem hT_asked (T : Txt K mg) : Has P w K mg base "_law_asked" 7 ["what", "world", "first", "second"] (dspFT (s_asked18 K)) := by
  refine has_ofX (N := ["what", "world", "first", "second", "found", "e"]) (k := 6) (t := fun E => tSeq (liftS (fun cls d _ H => E cls d H) (w_asked18 K)) (tRet (tTup (tCons (tC (.str "good")) (tCons (tVar 4) tNil))))) T.g_asked T.F_asked sc_asked (len_dspFT (l_asked18 K)) (fun _ _ _ _ _ _ us hl => match us, hl with | [_, _, _, _], _ => rfl) (fun cdv A outer s H E hr tk => ?_) (dl_startFT (o_asked18 K))
  exact (pss_cons (dtryM (XM T (L := (["Unknown"] : List Str)) (cs := ["Unknown", "NestError"])) (ps_tryM rfl rfl tkNone (fun W pn xe tk _ => (dss1 (difS (dtcmp oEq opEq (dvP 0 (pv 0)) (dp dc_str) (nomark _)) (dss1 (dasgX 4 (fun _ h => ps_set (i := 4) sc_asked.nd rfl (Or.inl rfl) h) (pe_dcS (h_Pis_within T) hr (fun σ => L2N.passAt tk σ) (dac (dv 1 (pv 1)) (dac (dv 2 (pv 2)) (dac (dv 3 (pv 3)) dan)))))) (dss1 (difS (dtcmp oEq opEq (dvP 0 (pv 0)) (dp dc_str) (nomark _)) (dss1 (dasgXO 4 (fun _ h => ps_set (i := 4) sc_asked.nd rfl (Or.inl rfl) h) (pe_dcS (hF_Pheld T) hr (fun σ => L2N.passAt tk σ) (dac (dv 1 (pv 1)) (dac (dv 2 (pv 2)) dan))))) (dss1 (dasgXO 4 (fun _ h => ps_set (i := 4) sc_asked.nd rfl (Or.inl rfl) h) (pe_dcS (hF_Pall_held T) hr (fun σ => L2N.passAt tk σ) (dac (dv 1 (pv 1)) (dac (dv 2 (pv 2)) dan)))))))))) (ClOk.cons (o := some 5) (ts := liftH (fun a cls d => (wSeq (wIfS (wOr (wNot (wTru (wIsE K (["Unknown"] : List Str) a cls d ["ValueError"] 5))) (wTru (wIsE K (["Unknown"] : List Str) a cls d ["Refusal", "BadName", "Inside", "Same"] 5))) (wRet (wTu (aC (wC (.str "other")) aN))) wNx)
    (wRet (wTu (aC (wC (.str "Unknown")) (aC (wXf K [("Unknown", "name")] a cls d "name" 5) aN))))))) ⟨by rfl, by decide, .inl T.c_Unknown⟩ ⟨sc_asked.nd, rfl, rfl⟩ (fun a oe cls d pn hz hf => (dss (difS (PW.pt (dor (dnot (dtru (dp (disEV (EG T) (pe_isE hz (fun C G Z => cs_isP hf G Z) rfl (by rfl) T.z_isinstance (by decide +kernel) (pa_cons (pv 5) (pa_cons (pe_bltn (v := .ty "ValueError") (u := .type "ValueError") (by rfl) T.z_ValueError (by rfl) (by rfl)) pa_nil))))))) (dor1 (dtru (dp (disET ["Refusal", "BadName", "Inside", "Same"] (EG T) (by decide +kernel) (pe_isE hz (fun C G Z => cs_isPT hf G Z) rfl (by rfl) T.z_isinstance (by decide +kernel) (pa_cons (pv 5) (pa_cons (pe_tup (pa_cons (pe_glob (by rfl) T.c_Refusal (by rfl)) (pa_cons (pe_glob (by rfl) T.c_BadName (by rfl)) (pa_cons (pe_glob (by rfl) T.c_Inside (by rfl)) (pa_cons (pe_glob (by rfl) T.c_Same (by rfl)) pa_nil))))) pa_nil))))))))) (dss1 (dret (dtup (dac dc_str dan)))) dss0)
    (dss1 (dret (dtup (dac dc_str (dac (dxf (LX T) (pe_xfE hz hf (pv 5))) dan))))))) (ClOk.cons (o := none) (ts := liftH (fun a cls d => (wRet (wTu (aC (wC (.str "other")) aN))))) ⟨by rfl, by decide, .inl T.c_NestError⟩ trivial (fun a oe cls d pn hz hf => (dss1 (dret (dtup (dac dc_str dan))))) ClOk.nil))))
    (pss_one (ps_ret (pe_tup (pa_cons pe_str (pa_cons (pv 4) pa_nil))))))
theorem h_asked (T : Txt K mg) : Has P w K mg base "_law_asked" 7 ["what", "world", "first", "second"] (dspX (sT (s_asked18 K))) := Has.weak (hT_asked T) dspFT_weak
theorem sc_is_row : FnScope ["world", "holder", "what", "due", "answer", "told"] ["world", "holder", "what", "due"] (defScope q_is_row) := ⟨rfl, rfl, rfl, by decide +kernel, rfl, by decide +kernel, by decide +kernel⟩
theorem h_is_row (T : Txt K mg) : Has P w K mg base "_law_is_row" 8 ["world", "holder", "what", "due"] (dsp ((s_is_row18 K))) := by
  refine has_of (N := ["world", "holder", "what", "due", "answer", "told"]) (k := 7) (t := liftS (fun _ _ _ _ => False) (w_is_row18 K)) T.g_is_row T.F_is_row sc_is_row (len_dsp ((l_is_row18 K))) (fun _ _ _ _ _ _ us hl => match us, hl with | [_, _, _, _], _ => rfl) (fun cdv A outer s H E hr => ?_) (dl_start ((o_is_row18 K)))
  exact (dtake 4 5 (ps_set (i := 4) sc_is_row.nd rfl (Or.inl rfl) (pe_dc (hT_asked T) hr (dac (dv 2 (pv 2)) (dac (dv 0 (pv 0)) (dac (dv 1 (pv 1)) (dac dc_str dan)))))) (dnot (dtru (dp (dcall (pe_dc (h_same T 4) hr (dac (dv 4 (pv 4)) (dac (dtup (dac dc_str (dac (dv 3 (pv 3)) dan))) dan))))))) (dss1 (dret dc_bl)) (ps_set (i := 5) sc_is_row.nd rfl (Or.inl rfl) (pe_ix oIx (pv 4) pe_int (fun _ _ => rfl)))
    (dss (dapp 5 (fun _ h => ps_expr (pe_bm PySem.F.plainAttrs_list PySem.F.slot_list_append PySem.F.type_list_append mt_append (pv 5) (pa_cons h pa_nil))) (dv 1 (pv 1)))
    (dss (drev 5 (ps_expr (pe_bm0 PySem.F.plainAttrs_list PySem.F.slot_list_reverse PySem.F.type_list_reverse mt_reverse (pv 5))))
    (dss1 (dret (dcall (pe_dc (h_same T 4) hr (dac (dcallN (pe_dc (h_asked T) hr (dac (dv 2 (pv 2)) (dac (dv 0 (pv 0)) (dac (dv 1 (pv 1)) (dac dc_str dan)))))) (dac (dtup (dac dc_str (dac (dv 3 (pv 3)) dan))) dan)))))))))
theorem sc_is_right : FnScope ["plan", "table", "world", "holder", "deep", "name", "lies"] ["plan", "table", "world"] (defScope q_is_right) := ⟨rfl, rfl, rfl, by decide +kernel, rfl, by decide +kernel, by decide +kernel⟩
theorem h_is_right (T : Txt K mg) : Has P w K mg base "_law_is_right" 9 ["plan", "table", "world"] (dsp ((s_is_right18 K))) := by
  refine has_of (N := ["plan", "table", "world", "holder", "deep", "name", "lies"]) (k := 8) (t := liftS (fun _ _ _ _ => False) (w_is_right18 K)) T.g_is_right T.F_is_right sc_is_right (len_dsp ((l_is_right18 K))) (fun _ _ _ _ _ _ us hl => match us, hl with | [_, _, _], _ => rfl) (fun cdv A outer s H E hr => ?_) (dl_start ((o_is_right18 K)))
  exact (dss (dfor PassesOwn.never rfl (diL (dop oAdd opAdd (dp (dix oIx opIx (dvP 0 (pv 0)) (dp dc_int) (fun _ _ => rfl))) (dp (df (dkeysF (pe_callTy (EnT.call_list_dKR rfl) (by rfl) T.z_list (by decide +kernel) (pa_cons (dix oIx opIx (dvP 0 (pv 0)) (dp dc_int) (fun _ _ => rfl)) pa_nil))))))) (pg_name (i := 3) sc_is_right.nd rfl (Or.inl rfl)) (tgN 3) (dss (dasgO 4 (fun _ h => ps_set (i := 4) sc_is_right.nd rfl (Or.inl rfl) h) (dlstF dan))
    (dss (dfor PassesOwn.never rfl (diL (df (dsrtSF (pe_callB (EnT.cr_sortedSA rfl) (by rfl) T.z_sorted (by decide +kernel) (pa_cons (dv 1 (pv 1)) pa_nil))))) (pg_name (i := 5) sc_is_right.nd rfl (Or.inl rfl)) (tgN 5) (dss (dasg 6 (fun _ h => ps_set (i := 6) sc_is_right.nd rfl (Or.inl rfl) h) (dcmp kIn opIn (dvP 3 (pv 3)) (dp (dcall (pe_dc (h_chain T) hr (dac (dv 1 (pv 1)) (dac (dv 5 (pv 5)) dan))))) (by rfl)))
    (dsc (difS (dtru (dvP 6 (pv 6))) (dss1 (dapp 4 (fun _ h => ps_expr (pe_bm PySem.F.plainAttrs_list PySem.F.slot_list_append PySem.F.type_list_append mt_append (pv 4) (pa_cons h pa_nil))) (dv 5 (pv 5)))) dss0)
    (dss1 (difS (dnot (dtru (dp (dcall (pe_dc (h_same T 4) hr (dac (dcallN (pe_dc (h_asked T) hr (dac dc_str (dac (dv 2 (pv 2)) (dac (dv 5 (pv 5)) (dac (dv 3 (pv 3)) dan)))))) (dac (dtup (dac dc_str (dac (dv 6 (pv 6)) dan))) dan))))))) (dss1 (dret dc_bl)) dss0)))))
    (dss (difS (dnot (dtru (dp (dcallB (pe_dc (h_is_row T) hr (dac (dv 2 (pv 2)) (dac (dv 3 (pv 3)) (dac dc_str (dac (dv 4 (pv 4)) dan))))))))) (dss1 (dret dc_bl)) dss0)
    (dss1 (difS (dnot (dtru (dp (dcall (pe_dc (h_is_row T) hr (dac (dv 2 (pv 2)) (dac (dv 3 (pv 3)) (dac dc_str (dac (dcall (pe_dc (h_inside T) hr (dac (dv 1 (pv 1)) (dac (dv 3 (pv 3)) dan)))) dan))))))))) (dss1 (dret dc_bl)) dss0))))))
    (dss1 (dret dc_bl)))
theorem sc_is_refused : FnScope ["plan", "world", "first", "second", "due", "what"] ["plan", "world", "first", "second"] (defScope q_is_refused) := ⟨rfl, rfl, rfl, by decide +kernel, rfl, by decide +kernel, by decide +kernel⟩
theorem h_is_refused (T : Txt K mg) : Has P w K mg base "_law_is_refused" 8 ["plan", "world", "first", "second"] (dsp ((s_is_refused18 K))) := by
  refine has_of (N := ["plan", "world", "first", "second", "due", "what"]) (k := 7) (t := liftS (fun _ _ _ _ => False) (w_is_refused18 K)) T.g_is_refused T.F_is_refused sc_is_refused (len_dsp ((l_is_refused18 K))) (fun _ _ _ _ _ _ us hl => match us, hl with | [_, _, _, _], _ => rfl) (fun cdv A outer s H E hr => ?_) (dl_start ((o_is_refused18 K)))
  exact (dss (dasg 4 (fun _ h => ps_set (i := 4) sc_is_refused.nd rfl (Or.inl rfl) h) dc_non)
    (dsc (difS (PW.pt (dand (dtcmp kNi opNi (dvP 3 (pv 3)) (dp (dix oIx opIx (dvP 0 (pv 0)) (dp dc_int) (fun _ _ => rfl))) (by rfl)) (dand1 (dtninDN (pt_cmp (pc_dnotin (hu_of hr) (dv 3 (pv 3)) (dix oIx opIx (dvP 0 (pv 0)) (dp dc_int) (fun _ _ => rfl)))))))) (dss1 (dasg 4 (fun _ h => ps_set (i := 4) sc_is_refused.nd rfl (Or.inl rfl) h) (dtup (dac dc_str (dac (dv 3 (pv 3)) dan))))) dss0)
    (dsc (difS (dtninDN (pt_cmp (pc_dnotin (hu_of hr) (dv 2 (pv 2)) (dix oIx opIx (dvP 0 (pv 0)) (dp dc_int) (fun _ _ => rfl))))) (dss1 (dasg 4 (fun _ h => ps_set (i := 4) sc_is_refused.nd rfl (Or.inl rfl) h) (dtup (dac dc_str (dac (dv 2 (pv 2)) dan))))) dss0)
    (dss (difS (PW.pt (dand (dtisnn (dvP 4 (pv 4)) (fun t h => pt_cmp (pc_notN h))) (dand1 (dnot (dtru (dp (dcall (pe_dc (h_same T 4) hr (dac (dcallN (pe_dc (h_asked T) hr (dac dc_str (dac (dv 1 (pv 1)) (dac (dv 2 (pv 2)) (dac (dv 3 (pv 3)) dan)))))) (dac (dv 4 (pv 4)) dan)))))))))) (dss1 (dret dc_bl)) dss0)
    (dss (difS (PW.pt (dor (dtcmp kIn opIn (dvP 2 (pv 2)) (dp (dix oIx opIx (dvP 0 (pv 0)) (dp dc_int) (fun _ _ => rfl))) (by rfl)) (dor1 (dtinDN (pt_cmp (pc_din (hu_of hr) (dv 2 (pv 2)) (dix oIx opIx (dvP 0 (pv 0)) (dp dc_int) (fun _ _ => rfl)))))))) (dss1 (dret dc_bl)) dss0)
    (dss (dfor PassesOwn.never rfl (diL (dlst (dac dc_str (dac dc_str dan)))) (pg_name (i := 5) sc_is_refused.nd rfl (Or.inl rfl)) (tgN 5) (dss1 (difS (dnot (dtru (dp (dcall (pe_dc (h_same T 4) hr (dac (dcallN (pe_dc (h_asked T) hr (dac (dv 5 (pv 5)) (dac (dv 1 (pv 1)) (dac (dv 2 (pv 2)) (dac (dv 3 (pv 3)) dan)))))) (dac (dtup (dac dc_str (dac (dv 2 (pv 2)) dan))) dan))))))) (dss1 (dret dc_bl)) dss0)))
    (dss1 (dret dc_bl))))))))
theorem sc_law : FnScope ["script", "store", "plan", "other", "yard", "world", "second", "k", "ahead"] ["script"] (defScope q_law) := ⟨rfl, rfl, rfl, by decide +kernel, rfl, by decide +kernel, by decide +kernel⟩
theorem h_law (T : Txt K mg) : ∃ fd, (∀ (s : Shared) (u : Value), BindsTo s fd ⟨[u], []⟩ [("script", u)]) ∧ ∀ base : Heap, FnOk P w K mg base CX0 10 (He.ga K "law") fd ["script"] (sp_lawS K) := by
  obtain ⟨fd, F⟩ := T.F_law
  have b := FunD.bindsA (ps := ["script"]) F fun _ _ _ _ _ _ us hl => match us, hl with | [_], _ => rfl
  refine ⟨fd, fun s v => b s [v] rfl, fun base => law_of (N := ["script", "store", "plan", "other", "yard", "world", "second", "k", "ahead"]) (k := 9) (t := t_lawS K (fun _ _ _ _ => False) (w_law18 K)) F sc_law (l_lawS K) (fun cdv A outer s H E hr => ?_) (p_lawS K (n := 7) rfl (o_law18 K))⟩
  exact (pss_cons (ps_set (i := 1) sc_law.nd rfl (Or.inl rfl) (pe_dc (h_store T) hr (pa_cons (pv 0) pa_nil)))
    (dss (dasg 2 (fun _ h => ps_set (i := 2) sc_law.nd rfl (Or.inl rfl) h) (dcall (pe_dc (h_plan T) hr (dac (dv 1 (pv 1)) (dac dc_int dan)))))
    (dss (dasg 3 (fun _ h => ps_set (i := 3) sc_law.nd rfl (Or.inl rfl) h) (dcall (pe_dc (h_any_table T) hr (dac (dv 1 (pv 1)) (dac (dv 2 (pv 2)) dan)))))
    (dss (dasg 4 (fun _ h => ps_set (i := 4) sc_law.nd rfl (Or.inl rfl) h) (dcall (pe_dc (h_yard T) hr (dac (dv 2 (pv 2)) dan))))
    (dss (dasg 5 (fun _ h => ps_set (i := 5) sc_law.nd rfl (Or.inl rfl) h) (dmkI (pe_mi (hI_World T) T.c_World hr (dac (dv 4 (pv 4)) (dac (ddict (pe_callTy call_dictD (by rfl) T.z_dict (by decide +kernel) (pa_cons (dix oIx opIx (dvP 2 (pv 2)) (dp dc_int) (fun _ _ => rfl)) pa_nil))) dan)))))
    (dss (dasg 6 (fun _ h => ps_set (i := 6) sc_law.nd rfl (Or.inl rfl) h) (dmkI (pe_mi (hI_World T) T.c_World hr (dac (dv 4 (pv 4)) (dac (ddict (pe_callTy call_dictD (by rfl) T.z_dict (by decide +kernel) (pa_cons (dv 3 (pv 3)) pa_nil))) dan)))))
    (dss (difS (PW.pt (dor (dnot (dtru (dp (dcall (pe_dc (h_is_right T) hr (dac (dv 2 (pv 2)) (dac (dix oIx opIx (dvP 2 (pv 2)) (dp dc_int) (fun _ _ => rfl)) (dac (dv 5 (pv 5)) dan)))))))) (dor1 (dnot (dtru (dp (dcall (pe_dc (h_is_right T) hr (dac (dv 2 (pv 2)) (dac (dv 3 (pv 3)) (dac (dv 6 (pv 6)) dan))))))))))) (dss1 (dret dc_bl)) dss0)
    (dss (dfor PassesOwn.never rfl (diR1 (fun _ h => pi_range1 (by rfl) T.z_range h) (dac dc_int dan)) (pg_name (i := 7) sc_law.nd rfl (Or.inl rfl)) (tgN 7) (dss (dasg 8 (fun _ h => ps_set (i := 8) sc_law.nd rfl (Or.inl rfl) h) (dcall (pe_dc (h_word T) hr (dac (dv 1 (pv 1)) (dac (dv 2 (pv 2)) dan)))))
    (dsc (difS (dtcmp oEq opEq (dvP 7 (pv 7)) (dp dc_int) (nomark _)) (dss1 (dasg 8 (fun _ h => ps_set (i := 8) sc_law.nd rfl (Or.inl rfl) h) (dcall (pe_dc (h_pick T) hr (dac (dv 1 (pv 1)) (dac (dix oIx opIx (dvP 2 (pv 2)) (dp dc_int) (fun _ _ => rfl)) dan)))))) dss0)
    (dss (difS (dnot (dtru (dp (dcall (pe_dc (h_is_refused T) hr (dac (dv 2 (pv 2)) (dac (dv 5 (pv 5)) (dac (dv 8 (pv 8)) (dac (dcall (pe_dc (h_word T) hr (dac (dv 1 (pv 1)) (dac (dv 2 (pv 2)) dan)))) dan))))))))) (dss1 (dret dc_bl)) dss0)
    (dss1 (difS (dnot (dtru (dp (dcall (pe_dc (h_is_refused T) hr (dac (dv 2 (pv 2)) (dac (dv 6 (pv 6)) (dac (dcall (pe_dc (h_word T) hr (dac (dv 1 (pv 1)) (dac (dv 2 (pv 2)) dan)))) (dac (dcall (pe_dc (h_not_name T) hr (dac (dv 1 (pv 1)) dan))) dan))))))))) (dss1 (dret dc_bl)) dss0))))))
    (dss (difS (PW.pt (dor (dnot (dtru (dp (dcall (pe_dc (h_same T 4) hr (dac (dprop (pe_dp T.cl_World (hp_World_row T) hr (dv 5 (pv 5)))) (dac (dcall (pe_dc (h_row T) hr (dac (dix oIx opIx (dvP 2 (pv 2)) (dp dc_int) (fun _ _ => rfl)) dan))) dan))))))) (dor1 (dnot (dtru (dp (dcall (pe_dc (h_same T 4) hr (dac (dprop (pe_dp T.cl_World (hp_World_row T) hr (dv 6 (pv 6)))) (dac (dcall (pe_dc (h_row T) hr (dac (dv 3 (pv 3)) dan))) dan)))))))))) (dss1 (dret dc_bl)) dss0)
    (dss1 (dret (dcall (pe_dc (h_is_right T) hr (dac (dv 2 (pv 2)) (dac (dix oIx opIx (dvP 2 (pv 2)) (dp dc_int) (fun _ _ => rfl)) (dac (dv 5 (pv 5)) dan))))))))))))))))
end
end DL
namespace DL
open PySem PySem.Spec PyProof.Rows L2 NW
theorem pnAt {K : PySem.W.Frag} (h : (pn.map fun d => He5.fnA K (d.at_ K)) = pn.map He5.DefA.val) (i : Nat) {d : He5.DefA} (e : pn[i]? = some d) : He5.fnA K (d.at_ K) = d.val := by
  have e2 : (pn.map fun d => He5.fnA K (d.at_ K))[i]? = (pn.map He5.DefA.val)[i]? := by rw [h]
  rw [List.getElem?_map, List.getElem?_map, e] at e2
  exact Option.some.inj e2
theorem txt {K : PySem.W.Frag} {h : Heap} {mg : Str → Option Value} (X : K.In h) (G : h.Ns mainGlobals mg) (c : He.SaysD fa fn K) (ok : (okL K).all id = true) (pv : (pn.map fun d => He5.fnA K (d.at_ K)) = pn.map He5.DefA.val) : Txt K mg := by
  constructor
  · exact He.glo_ok X G (c.fact 0 (f := .glo "_law_mix") rfl)
  · exact c.def_ 0 (d := d_mix) rfl
  · exact He.glo_ok X G (c.fact 1 (f := .glo "_law_take") rfl)
  · exact c.def_ 1 (d := d_take) rfl
  · exact He.glo_ok X G (c.fact 2 (f := .glo "_law_store") rfl)
  · exact c.def_ 2 (d := d_store) rfl
  · exact He.glo_ok X G (c.fact 3 (f := .glo "_law_same") rfl)
  · exact c.def_ 3 (d := d_same) rfl
  · exact He.glo_ok X G (c.fact 4 (f := .glo "_law_number") rfl)
  · exact c.def_ 4 (d := d_number) rfl
  · exact He.glo_ok X G (c.fact 5 (f := .glo "_law_pick") rfl)
  · exact c.def_ 5 (d := d_pick) rfl
  · exact He.glo_ok X G (c.fact 6 (f := .glo "_law_shuffled") rfl)
  · exact c.def_ 6 (d := d_shuffled) rfl
  · exact He.glo_ok X G (c.fact 7 (f := .glo "_law_sign") rfl)
  · exact c.def_ 7 (d := d_sign) rfl
  · exact He.glo_ok X G (c.fact 8 (f := .glo "_law_name_of") rfl)
  · exact c.def_ 8 (d := d_name_of) rfl
  · exact He.glo_ok X G (c.fact 9 (f := .glo "_law_name") rfl)
  · exact c.def_ 9 (d := d_name) rfl
  · exact He.glo_ok X G (c.fact 10 (f := .glo "_law_unlike") rfl)
  · exact c.def_ 10 (d := d_unlike) rfl
  · exact He.glo_ok X G (c.fact 11 (f := .glo "_law_name_like") rfl)
  · exact c.def_ 11 (d := d_name_like) rfl
  · exact He.glo_ok X G (c.fact 12 (f := .glo "_law_names") rfl)
  · exact c.def_ 12 (d := d_names) rfl
  · exact He.glo_ok X G (c.fact 13 (f := .glo "_law_not_name") rfl)
  · exact c.def_ 13 (d := d_not_name) rfl
  · exact He.glo_ok X G (c.fact 14 (f := .glo "_law_marked") rfl)
  · exact c.def_ 14 (d := d_marked) rfl
  · exact He.glo_ok X G (c.fact 15 (f := .glo "_law_tree") rfl)
  · exact c.def_ 15 (d := d_tree) rfl
  · exact He.glo_ok X G (c.fact 16 (f := .glo "_law_weights") rfl)
  · exact c.def_ 16 (d := d_weights) rfl
  · exact He.glo_ok X G (c.fact 17 (f := .glo "_law_plan_of") rfl)
  · exact c.def_ 17 (d := d_plan_of) rfl
  · exact He.glo_ok X G (c.fact 18 (f := .glo "_law_plan") rfl)
  · exact c.def_ 18 (d := d_plan) rfl
  · exact He.glo_ok X G (c.fact 19 (f := .glo "is_name") rfl)
  · exact c.def_ 19 (d := d_Pis_name) rfl
  · exact He.glo_ok X G (c.fact 20 (f := .glo "valid_name") rfl)
  · exact c.def_ 20 (d := d_Pvalid_name) rfl
  · exact He.glo_ok X G (c.fact 21 (f := .glo "is_number") rfl)
  · exact c.def_ 21 (d := d_Pis_number) rfl
  · exact He.glo_ok X G (c.fact 22 (f := .glo "valid_weight") rfl)
  · exact c.def_ 22 (d := d_Pvalid_weight) rfl
  · exact He.glo_ok X G (c.fact 23 (f := .glo "_require_count") rfl)
  · exact c.def_ 23 (d := d_P_require_count) rfl
  · exact He.glo_ok X G (c.fact 24 (f := .glo "_require_shelves") rfl)
  · exact c.def_ 24 (d := d_P_require_shelves) rfl
  · exact He.glo_ok X G (c.fact 25 (f := .glo "_require_listed") rfl)
  · exact c.def_ 25 (d := d_P_require_listed) rfl
  · exact He.glo_ok X G (c.fact 26 (f := .glo "_require_boxes") rfl)
  · exact c.def_ 26 (d := d_P_require_boxes) rfl
  · exact He.glo_ok X G (c.fact 27 (f := .glo "require_box") rfl)
  · exact c.def_ 27 (d := d_Prequire_box) rfl
  · exact He.glo_ok X G (c.fact 28 (f := .glo "is_holder") rfl)
  · exact c.def_ 28 (d := d_Pis_holder) rfl
  · exact He.glo_ok X G (c.fact 29 (f := .glo "require_holder") rfl)
  · exact c.def_ 29 (d := d_Prequire_holder) rfl
  · exact He.glo_ok X G (c.fact 30 (f := .glo "_meets_itself") rfl)
  · exact c.def_ 30 (d := d_P_meets_itself) rfl
  · exact He.glo_ok X G (c.fact 31 (f := .glo "least_looped") rfl)
  · exact c.def_ 31 (d := d_Pleast_looped) rfl
  · exact He.glo_ok X G (c.fact 32 (f := .glo "chain") rfl)
  · exact c.def_ 32 (d := d_Pchain) rfl
  · exact He.glo_ok X G (c.fact 33 (f := .glo "held") rfl)
  · exact c.def_ 33 (d := d_Pheld) rfl
  · exact He.glo_ok X G (c.fact 34 (f := .glo "all_held") rfl)
  · exact c.def_ 34 (d := d_Pall_held) rfl
  · exact He.glo_ok X G (c.fact 35 (f := .glo "is_within") rfl)
  · exact c.def_ 35 (d := d_Pis_within) rfl
  · exact He.glo_ok X G (c.fact 36 (f := .glo "_law_yard") rfl)
  · exact c.def_ 36 (d := d_yard) rfl
  · exact He.glo_ok X G (c.fact 37 (f := .glo "_law_chain") rfl)
  · exact c.def_ 37 (d := d_chain) rfl
  · exact He.glo_ok X G (c.fact 38 (f := .glo "_law_inside") rfl)
  · exact c.def_ 38 (d := d_inside) rfl
  · exact He.glo_ok X G (c.fact 39 (f := .glo "_law_row") rfl)
  · exact c.def_ 39 (d := d_row) rfl
  · exact He.glo_ok X G (c.fact 40 (f := .glo "_law_any_table") rfl)
  · exact c.def_ 40 (d := d_any_table) rfl
  · exact He.glo_ok X G (c.fact 41 (f := .glo "_law_word") rfl)
  · exact c.def_ 41 (d := d_word) rfl
  · exact He.glo_ok X G (c.fact 42 (f := .glo "_law_asked") rfl)
  · exact c.def_ 42 (d := d_asked) rfl
  · exact He.glo_ok X G (c.fact 43 (f := .glo "_law_is_row") rfl)
  · exact c.def_ 43 (d := d_is_row) rfl
  · exact He.glo_ok X G (c.fact 44 (f := .glo "_law_is_right") rfl)
  · exact c.def_ 44 (d := d_is_right) rfl
  · exact He.glo_ok X G (c.fact 45 (f := .glo "_law_is_refused") rfl)
  · exact c.def_ 45 (d := d_is_refused) rfl
  · exact He.glo_ok X G (c.fact 46 (f := .glo "law") rfl)
  · exact c.def_ 46 (d := d_law) rfl
  · exact He.free_ok X G (c.fact 60 (f := .free "ValueError") rfl)
  · exact He.free_ok X G (c.fact 61 (f := .free "abs") rfl)
  · exact He.free_ok X G (c.fact 62 (f := .free "all") rfl)
  · exact He.free_ok X G (c.fact 63 (f := .free "bool") rfl)
  · exact He.free_ok X G (c.fact 64 (f := .free "dict") rfl)
  · exact He.free_ok X G (c.fact 65 (f := .free "enumerate") rfl)
  · exact He.free_ok X G (c.fact 66 (f := .free "int") rfl)
  · exact He.free_ok X G (c.fact 67 (f := .free "isinstance") rfl)
  · exact He.free_ok X G (c.fact 68 (f := .free "iter") rfl)
  · exact He.free_ok X G (c.fact 69 (f := .free "len") rfl)
  · exact He.free_ok X G (c.fact 70 (f := .free "list") rfl)
  · exact He.free_ok X G (c.fact 71 (f := .free "max") rfl)
  · exact He.free_ok X G (c.fact 72 (f := .free "min") rfl)
  · exact He.free_ok X G (c.fact 73 (f := .free "range") rfl)
  · exact He.free_ok X G (c.fact 74 (f := .free "sorted") rfl)
  · exact He.free_ok X G (c.fact 75 (f := .free "str") rfl)
  · exact He.free_ok X G (c.fact 76 (f := .free "tuple") rfl)
  · exact He.str_ok X G (c.fact 77 (f := .str "DIGITS" "0123456789") rfl)
  · exact He.str_ok X G (c.fact 78 (f := .str "LETTERS" "abcdefghijklmnopqrstuvwxyz") rfl)
  · exact He.int_ok X G (c.fact 79 (f := .int "LONGEST_NAME" 8) rfl)
  · exact He.int_ok X G (c.fact 80 (f := .int "MOST_WEIGHT" 1000000000) rfl)
  · exact He.glo_ok X G (c.fact 47 (f := .glo "BadCount") rfl)
  · exact He.glo_ok X G (c.fact 48 (f := .glo "BadName") rfl)
  · exact He.glo_ok X G (c.fact 49 (f := .glo "BadWeight") rfl)
  · exact He.glo_ok X G (c.fact 50 (f := .glo "Inside") rfl)
  · exact He.glo_ok X G (c.fact 51 (f := .glo "Loop") rfl)
  · exact He.glo_ok X G (c.fact 52 (f := .glo "NestError") rfl)
  · exact He.glo_ok X G (c.fact 53 (f := .glo "NoHolder") rfl)
  · exact He.glo_ok X G (c.fact 54 (f := .glo "Refusal") rfl)
  · exact He.glo_ok X G (c.fact 55 (f := .glo "Same") rfl)
  · exact He.glo_ok X G (c.fact 56 (f := .glo "Twice") rfl)
  · exact He.glo_ok X G (c.fact 57 (f := .glo "Unknown") rfl)
  · exact He.glo_ok X G (c.fact 58 (f := .glo "World") rfl)
  · exact He.glo_ok X G (c.fact 59 (f := .glo "Yard") rfl)
  · have E1 := err1_ok (okAt ok 0) (okAt ok 1) (okAt ok 2) (c.def_ 47 (d := d_BadCount) rfl)
    refine ⟨E1.o, fun f hf => ?_, E1.ex⟩
    simp only [List.mem_cons, List.not_mem_nil, or_false] at hf
    rcases hf with rfl | rfl
    · exact He.eqO_ok (okAt ok 2)
    · exact He.eqO_ok (okAt ok 3)
  · have E1 := err1_ok (okAt ok 4) (okAt ok 5) (okAt ok 6) (c.def_ 48 (d := d_BadName) rfl)
    refine ⟨E1.o, fun f hf => ?_, E1.ex⟩
    simp only [List.mem_cons, List.not_mem_nil, or_false] at hf
    subst hf
    exact E1.n
  · have E1 := err1_ok (okAt ok 7) (okAt ok 8) (okAt ok 9) (c.def_ 49 (d := d_BadWeight) rfl)
    refine ⟨E1.o, fun f hf => ?_, E1.ex⟩
    simp only [List.mem_cons, List.not_mem_nil, or_false] at hf
    subst hf
    exact E1.n
  · have E1 := err1_ok (okAt ok 10) (okAt ok 11) (okAt ok 12) (c.def_ 50 (d := d_Loop) rfl)
    refine ⟨E1.o, fun f hf => ?_, E1.ex⟩
    simp only [List.mem_cons, List.not_mem_nil, or_false] at hf
    subst hf
    exact E1.n
  · have E1 := err1_ok (okAt ok 13) (okAt ok 14) (okAt ok 15) (c.def_ 51 (d := d_NoHolder) rfl)
    refine ⟨E1.o, fun f hf => ?_, E1.ex⟩
    simp only [List.mem_cons, List.not_mem_nil, or_false] at hf
    subst hf
    exact E1.n
  · have E1 := err1_ok (okAt ok 16) (okAt ok 17) (okAt ok 18) (c.def_ 52 (d := d_Twice) rfl)
    refine ⟨E1.o, fun f hf => ?_, E1.ex⟩
    simp only [List.mem_cons, List.not_mem_nil, or_false] at hf
    subst hf
    exact E1.n
  · have E1 := err1_ok (okAt ok 19) (okAt ok 20) (okAt ok 21) (c.def_ 53 (d := d_Unknown) rfl)
    refine ⟨E1.o, fun f hf => ?_, E1.ex⟩
    simp only [List.mem_cons, List.not_mem_nil, or_false] at hf
    subst hf
    exact E1.n
  · exact clsB_ok (okAt ok 22)
  · exact He.eqO_ok (okAt ok 23)
  · exact He.eqO_ok (okAt ok 24)
  · exact He.eqO_ok (okAt ok 25)
  · exact He.eqO_ok (okAt ok 26)
  · exact He.eqO_ok (okAt ok 27)
  · exact He.eqO_ok (okAt ok 28)
  · exact cinB_ok (clsB_ok (okAt ok 22)) (okAt ok 29)
  · exact nfB_ok (okAt ok 30)
  · exact cvB_ok (okAt ok 31)
  · exact cvB_ok (okAt ok 32)
  · exact clsB_ok (okAt ok 33)
  · exact He.eqO_ok (okAt ok 34)
  · exact He.eqO_ok (okAt ok 35)
  · exact He.eqO_ok (okAt ok 36)
  · exact cinB_ok (clsB_ok (okAt ok 33)) (okAt ok 37)
  · exact nfB_ok (okAt ok 38)
  · obtain ⟨fd, F⟩ := c.def_ 54 (d := d_PYard___init__) rfl
    exact ⟨_, fd, mkB_ok (okAt ok 39), F⟩
  · obtain ⟨fd, F⟩ := c.def_ 55 (d := d_PYard_is_box) rfl
    exact ⟨_, fd, methB_ok (okAt ok 40), F⟩
  · obtain ⟨fd, F⟩ := c.def_ 56 (d := d_PYard_is_shelf) rfl
    exact ⟨_, fd, methB_ok (okAt ok 41), F⟩
  · obtain ⟨fd, F⟩ := c.def_ 57 (d := d_PYard___iter__) rfl
    exact ⟨_, fd, methB_ok (okAt ok 42), F⟩
  · obtain ⟨fd, F⟩ := c.def_ 58 (d := d_PWorld___init__) rfl
    exact ⟨_, fd, mkB_ok (okAt ok 43), F⟩
  · obtain ⟨fd, F⟩ := He5.DefA.funD (pnAt pv 0 (d := p_PWorld_yard) rfl) (okAt ok 45)
    exact ⟨_, _, fd, propB_ok (okAt ok 44), F⟩
  · obtain ⟨fd, F⟩ := He5.DefA.funD (pnAt pv 1 (d := p_PWorld_row) rfl) (okAt ok 47)
    exact ⟨_, _, fd, propB_ok (okAt ok 46), F⟩
  · obtain ⟨fd, F⟩ := c.def_ 59 (d := d_PWorld_holder) rfl
    exact ⟨_, fd, methB_ok (okAt ok 48), F⟩
  · obtain ⟨fd, F⟩ := c.def_ 60 (d := d_PWorld___iter__) rfl
    exact ⟨_, fd, methB_ok (okAt ok 49), F⟩
  · exact ⟨fun c hc => errGB_ok (List.all_eq_true.mp (okAt ok 50) c hc)⟩
  · exact fun p hp => of_decide_eq_true (List.all_eq_true.mp (okAt ok 51) p hp)
  · exact fun p hp => He.eqO_ok (List.all_eq_true.mp (okAt ok 52) p hp)
end DL
open PySem PySem.W PySem.Calls PyProof.Rows
theorem PySem.Challenge.cw_nestweigh_k18_within_and_held_holds : PySem.Challenge.rw_nestweigh_k18_within_and_held.Holds := by
  refine NW.early fun hws => ?_
  refine HandSHeadRun.head_any (r := OpenLaw.row PySem.Challenge.rw_nestweigh_k18_within_and_held) (q := view (OpenLaw.row PySem.Challenge.rw_nestweigh_k18_within_and_held).prog [70]) (H := NW.hk) (ob := NW.ob) (M := 20000) (loose := NW.names) (d := HandSHeadRun.topDef (OpenLaw.row PySem.Challenge.rw_nestweigh_k18_within_and_held).prog 70) (kwd := []) NW.ob_eq
    (by kernel_rfl) (fun s => by kernel_rfl)
    NW.run (by kernel_rfl) (by kernel_rfl) (by kernel_rfl) (by rfl) (by exact hws) (by decide +kernel) NW.bareR ?hw ?hc
  case hw => w_witness2
  case hc =>
    refine L2.walk_ofE (l := PySem.Challenge.rw_nestweigh_k18_within_and_held) (n := 63) (k := 10) (x := "script") (CX := L2.CX0) rfl (by decide) (by kernel_rfl) ⟨rfl, by decide, by decide⟩ ?F (fun _ _ _ _ z => z)
    intro w mg fa h Y G hmg0
    obtain ⟨K, KX, c, ok, pv⟩ := Y
    have T : DL.Txt K mg := DL.txt KX G c ok pv
    have hmg : mg ("law" : PySem.Str) = some (.ref fa) := by
      have e : (HandSHeadRun.topDef (OpenLaw.row PySem.Challenge.rw_nestweigh_k18_within_and_held).prog 70).name = ("law" : PySem.Str) := by kernel_rfl
      rw [← e]
      exact hmg0
    have e2 : fa = He.ga K "law" := NW.ref_inj (hmg.symm.trans T.g_law)
    rw [e2]
    obtain ⟨fd, hb, hF⟩ := DL.h_law (P := (PySem.Challenge.rw_nestweigh_k18_within_and_held).prog) (w := w) T
    exact ⟨K, fd, DL.sp_lawS K, KX, hb, fun H a ns hl _ hS => ⟨a, ns, rfl, hS, fun _ => rfl⟩, fun base _ _ => hF base⟩
