import PyProof.Rows.All
import Wide.All
import OpenK.AllK
import Wide.FinOn
import HandS.ForMost
import HandS.ForExc
import HandS.ExcInit
import HandS.ExcField
import HandS.TryMany
import HandS.SetKeys
import HandS.CallLocal
import HandS.Codes
import HandS.More
import HandS.Style
import HandS.TupAny
import HandS.DictComp
import HandS.IsInst
import HandS.NoneIn
import HandS.Finally
import HandS.OwnEq
import HandS.Walk
import KE.Datum
import HandS.SortKw
import HandS.MakeKwOnly
import KE.DataMinMax
import PyProof.Rows.StrMul
import KE.KExcIs
import HandS.ExcIs
import HandS.SetTxt0
import HandS.Set
import HandS.TupSets
import PyProof.FactsAll.set_2
import PyProof.SeqIndex
import HandS.Rev
import PyProof.ReprRoads
import PyProof.ReprLen
import PyProof.StrLawsRepr
import HandS.Ends
import HandS.EndBits
import PySem.Challenge.RW_bothfree_k25_hires_made_and_refused
set_option Elab.async false
set_option linter.all false
set_option maxRecDepth 100000
set_option maxHeartbeats 4000000
/-! What the laws of this program share: bundles of defs that may raise, several except clauses with names, calls. -/
namespace BF
open PySem PySem.Spec PyProof.Rows L2

section
variable {X : Cx}
theorem pe_gint {x : Str} {i : Int} {pos : Pos} (hg : Gl X x) (hm : ∃ t, X.mg x = some (.int i t)) (hd : (x == ("__debug__" : Str)) = false := by decide) : PE X (.Name x pos) (tC (.int i)) := by
  obtain ⟨t, hm⟩ := hm
  exact pe_glob hg hm ⟨t, rfl⟩ hd
end
theorem exm_ofB {K : PySem.W.Frag} {a S : Addr} {r : Bool} (h1 : PySem.W.subIn K (.ref a) (.type "BaseException") = some true) (h2 : PySem.W.isClsIn K S = true) (h3 : PySem.W.typeIn K (.ref S) = some (.type "type")) (h4 : PySem.W.subIn K (.ref a) (.ref S) = some r) (h5 : PySem.W.subIn K (.ref S) (.type "BaseException") = some true) :
    PySem.W.exmOne K (.ref a) (.ref S) = some r := by
  have e1 : (PySem.W.subIn K (.ref S) (.type "BaseException") == some true) = true := by rw [h5] <;> rfl
  have e2 : ((PySem.W.clsIn K S).isSome && PySem.W.typeIn K (.ref S) == some (.type "type")) = true :=
    Bool.and_eq_true_iff.mpr ⟨h2, beq_iff_eq.mpr h3⟩
  show (if (PySem.W.subIn K (.ref S) (.type "BaseException") == some true) = true then (if ((PySem.W.clsIn K S).isSome && PySem.W.typeIn K (.ref S) == some (.type "type")) = true then PySem.W.subIn K (.ref a) (.ref S) else none) else none) = some r
  rw [if_pos e1, if_pos e2]
  exact h4

/-! ### defs that may raise -/
section
variable {P : Program} {w : World} {K : PySem.W.Frag} {mg : Str → Option Value} {base : Heap}
structure CalX (P : Program) (w : World) (K : PySem.W.Frag) (mg : Str → Option Value) (base : Heap) (k : Nat) (x : Str) (sp : Sp) : Prop where
  ex : ∃ (f : Addr) (fd : FuncData) (ps : List Str), FnOk P w K mg base (L2.CX P w) k f fd ps sp ∧ mg x = some (.ref f) ∧ PySem.W.keepIn K (.ref f) = true ∧ Binds K fd ps []
structure MakX (P : Program) (w : World) (K : PySem.W.Frag) (mg : Str → Option Value) (base : Heap) (k : Nat) (x : Str) (C : Addr) (sp : Sp) : Prop where
  ex : ∃ (f : Addr) (fd : FuncData) (ps : List Str), Mk K C f ∧ FnOk P w K mg base (L2.CX P w) k f fd ps sp ∧ mg x = some (.ref C) ∧ Binds K fd ps []
structure MetX (P : Program) (w : World) (K : PySem.W.Frag) (mg : Str → Option Value) (base : Heap) (k : Nat) (C : Addr) (m : Str) (sp : Sp) : Prop where
  ex : ∃ (f : Addr) (fd : FuncData) (ps : List Str), Cls K C ∧ Meth K C m f ∧ FnOk P w K mg base (L2.CX P w) k f fd ps sp ∧ Binds K fd ps []
/-- the body's proof of a def that may raise -/
theorem fnX {x qual : Str} {st : Stmt} {f : Addr} {fd : FuncData} {N ps : List Str} {k : Nat} {sp : Sp} (F : C8.Fun K x qual st f fd) (S : FnScope N ps (C8.fnScope st)) (len : ∀ vs H Q E, sp vs H Q E → vs.length = ps.length)
    (hbody : ∀ (cdv : Value) (A : Around) (outer : List Env) (s : Shared) (H : Hp) (vs : List V) (Q : VK) (E : XK), Room k (A.deeper (envOfC qual (C8.fnScope st) s.heap.objs.size f cdv)) → sp vs H Q E →
      ∃ t, PSs (cxOf (L2.CX P w) P w K mg base N qual (C8.fnScope st) f cdv A outer s H E) (C8.fnBody st) t ∧ t { nx := fun _ H' => Q .non H', rt := Q } (start N vs) H) : FnOk P w K mg base (L2.CX P w) (k + 1) f fd ps sp := by
  obtain ⟨_, _, _, _, _, _, _, _, _, _, rfl, stands, code⟩ := F.ex
  exact fn_of stands code S len fun B above t G us R Z room pr => hbody _ B above t G us R Z room pr
end
section
variable {X : Cx} {k j : Nat} {C f : Addr} {x m : Str} {sp : Sp} {p pos apos : Pos} {e o : Expr} {es : List Expr} {ta : TE} {t : TA} {W : WX}
/-- a call of a def that may raise, in a def that lets it out -/
theorem pe_cX {E : XK} (c : CalX X.prog X.w X.K X.mg X.base k x sp) (hr : Room j X.A) (hk : k ≤ j) (hg : Gl X x) (ha : PA X (e :: es) t) (tk : Takes X (fun cls d _ H => E cls d H))
    (hdb : (x == ("__debug__" : Str)) = false := by decide) (he : starEach (e :: es) X.env = (false, eval e X.env) :: starEach es X.env := by rfl) (hpl : (backTo pos (starEach es X.env)).any (·.1) = false := by rfl) :
    PE X (.Call (.Name x p) (e :: es) [] pos) (tCall sp [] E t) := by
  obtain ⟨f, fd, ps, F, hm, kp, b⟩ := c.ex
  exact pe_call F (hr.mono hk) hg hm kp b .nil (passes_call tk fun _ _ _ _ h => h) ha hdb he hpl
/-- .. in a try's body -/
theorem pe_cS (c : CalX X.prog X.w X.K X.mg X.base k x sp) (hr : Room j X.A) (hk : k ≤ j) (hg : Gl X x) {E : L2.St → XK} (hx : ∀ σ, PassesAt (L2.CX X.prog X.w) X σ (E σ)) (ha : PA X (e :: es) t)
    (hdb : (x == ("__debug__" : Str)) = false := by decide) (he : starEach (e :: es) X.env = (false, eval e X.env) :: starEach es X.env := by rfl) (hpl : (backTo pos (starEach es X.env)).any (·.1) = false := by rfl) :
    PE X (.Call (.Name x p) (e :: es) [] pos) (tCallS sp E t) := by
  obtain ⟨f, fd, ps, F, hm, kp, b⟩ := c.ex
  exact pe_callS F (hr.mono hk) hg hm kp b hx ha hdb he hpl
theorem passN {X : Cx} {CX : CXT} {P : Program} {w : World} (h : CX = L2.CX P w) : Passes CX X (fun _ _ _ => False) := by
  subst h
  intro _ _ _ _ _ _ _ h
  obtain ⟨_, _, _, _, _, _, _, _, _, _, _, _, z⟩ := h
  exact z.elim
/-- a call of a def that may raise where it is known that it raises nothing -/
theorem pe_cN (c : CalX X.prog X.w X.K X.mg X.base k x sp) (hr : Room j X.A) (hk : k ≤ j) (hg : Gl X x) (ha : PA X (e :: es) t)
    (hdb : (x == ("__debug__" : Str)) = false := by decide) (he : starEach (e :: es) X.env = (false, eval e X.env) :: starEach es X.env := by rfl) (hpl : (backTo pos (starEach es X.env)).any (·.1) = false := by rfl) :
    PE X (.Call (.Name x p) (e :: es) [] pos) (tCall sp [] (fun _ _ _ => False) t) := by
  obtain ⟨f, fd, ps, F, hm, kp, b⟩ := c.ex
  exact pe_call F (hr.mono hk) hg hm kp b .nil (passN rfl) ha hdb he hpl
theorem pe_mkN (c : MakX X.prog X.w X.K X.mg X.base k x C sp) (hr : Room j X.A) (hk : k + 1 ≤ j) (hg : Gl X x) (ha : PA X (e :: es) t)
    (hdb : (x == ("__debug__" : Str)) = false := by decide) (he : starEach (e :: es) X.env = (false, eval e X.env) :: starEach es X.env := by rfl) (hpl : (backTo pos (starEach es X.env)).any (·.1) = false := by rfl) :
    PE X (.Call (.Name x p) (e :: es) [] pos) (tMake C sp [] (fun _ _ _ => False) t) := by
  obtain ⟨f, fd, ps, M, F, hm, b⟩ := c.ex
  exact pe_make M F (hr.mono hk) hg hm b .nil (passN rfl) ha hdb he hpl
/-- C(..) in a try's body: the new instance and its dict are dropped where __init__ raises -/
def tMakeS (C : Addr) (sp : Sp) (E : L2.St → XK) (t : TA) : TE := fun σ H Q => t σ H fun vs H1 => ∀ x dx, H1 x = none → H1 dx = none → dx ≠ x →
  sp (.ref x :: vs) (upd (upd H1 dx (.own x)) x (.ins C dx [])) (fun v H2 => v = .non ∧ Q (.ref x) H2) (E σ)
theorem pe_mkS (c : MakX X.prog X.w X.K X.mg X.base k x C sp) (hr : Room j X.A) (hk : k + 1 ≤ j) (hg : Gl X x) {E : L2.St → XK} (hx : ∀ σ, PassesAt (L2.CX X.prog X.w) X σ (E σ)) (ha : PA X (e :: es) t)
    (hdb : (x == ("__debug__" : Str)) = false := by decide) (he : starEach (e :: es) X.env = (false, eval e X.env) :: starEach es X.env := by rfl) (hpl : (backTo pos (starEach es X.env)).any (·.1) = false := by rfl) :
    PE X (.Call (.Name x p) (e :: es) [] pos) (tMakeS C sp E t) := by
  obtain ⟨fI, data, names, M, F, glob, binds⟩ := c.ex
  have room := hr.mono hk
  constructor
  intro pins s σ H Q I w
  refine wpAny_Call_Name_kw (ld_glob I hg glob (PySem.W.callWith_K (h₀ := X.base) I.ok.mod.kin M.kp (thn (ha.run pos pins s σ H _ I w) ?_) he hpl) hdb)
  rintro us t ⟨vs, G, J, rel, w⟩
  refine ⟨J.kIn, ?_⟩
  let n := t.heap.objs.size
  have sat := w (n + 1) n (J.hok.fresh (Nat.le_succ _)) (J.hok.fresh (Nat.le_refl _)) (Nat.ne_of_lt (Nat.lt_succ_self _))
  have made := Inv.made (C := C) J
  have args : Vals (V.ref (n + 1) :: vs) (Value.ref (n + 1) :: us) := .cons rfl rel
  have many : (Value.ref (n + 1) :: us).length = names.length := args.length.symm.trans (F.len _ _ _ _ sat)
  have bound := binds _ (Value.ref (n + 1) :: us) made.kIn ((congrArg List.length (List.append_nil _)).trans many)
  rw [List.append_nil] at bound
  have runs := F.run _ X.stack _ _ ⟨Value.ref (n + 1) :: us, []⟩ (Value.ref (n + 1) :: us) _ _ (E σ) (room.make C us []) (made.env0.make C us []) bound args sat
  refine wpAny_call (make_map (f := fI) J.kIn M.makes M.init (beq_iff_eq.mp M.fn) (codeAny_mono runs fun out t2 q => ?_))
  match out, q with
  | .error e, q => exact hx σ pins _ _ e t2 made q
  | .ok (.ret u), q =>
    obtain ⟨v, G2, J2, rv, ev, q2⟩ := made.after q
    cases ev
    exact ⟨rv, V.ref (n + 1), G2, J2, rfl, q2⟩
/-- o.m(..) of a method that may raise, in a try's body -/
def tMethS (C : Addr) (m : Str) (sp : Sp) (E : L2.St → XK) (ta : TE) (t : TA) : TE := fun σ H Q => ta σ H fun x H1 => ∃ a dx fs, x = .ref a ∧ H1 a = some (.ins C dx fs) ∧ fs.lookup m = none ∧
  t σ H1 fun vs H2 => sp (x :: vs) H2 Q (E σ)
/-- a local name that holds a def -/
theorem pe_cl {i : Nat} {f : Addr} (c : C8.CalAt X.prog X.w X.K X.mg X.base k f sp) (hr : Room j X.A) (hk : k ≤ j) (hN : X.N[i]? = some x) (hv : Vis X.env.scope x) (ha : PA X (e :: es) t)
    (hdb : (x == ("__debug__" : Str)) = false := by decide) (hcd : (x == ("__classdict__" : Str)) = false := by decide)
    (he : starEach (e :: es) X.env = (false, eval e X.env) :: starEach es X.env := by rfl) (hpl : (backTo pos (starEach es X.env)).any (·.1) = false := by rfl) : PE X (.Call (.Name x p) (e :: es) [] pos) (tCallL i f sp [] C8.E0 t) := by
  obtain ⟨fd, ps, F, kp, b⟩ := c.ex
  exact pe_callL F (hr.mono hk) hN hv kp b .nil C8.pass0 ha hdb hcd he hpl
end
end BF
namespace BF
open PySem PySem.Spec PyProof.Rows L2
/-! ### errors with one field -/
section
variable {P : Program} {w : World} {K : PySem.W.Frag} {mg : Str → Option Value} {base : Heap}
def spErrInit (C : Addr) (field : Str) : Sp := fun vs H Q _ => ∃ (a : Addr) (v : V), vs = [.ref a, v] ∧ H a = some (exo a C none) ∧ ∀ dx, H dx = none → dx ≠ a → Q .non (upd (upd H dx (exd dx [(field, v)])) a (exo a C (some dx)))
theorem ok_errinit {C f : Addr} {fd : FuncData} {st : Stmt} {qual field pn : Str} {q1 q2 q3 q4 : Pos} (F : C8.Fun K "__init__" qual st f fd) (S : FnScope ["self", pn] ["self", pn] (C8.fnScope st))
    (hb : C8.fnBody st = [.Assign [.Attribute (.Name "self" q1) field q2] (.Name pn q3) q4]) (ox : OexC K C) (nx : PySem.W.findIn K (.ref C) field = some none) (vs1 : (C8.fnScope st).names.lookup pn = some .local) (vs0 : (C8.fnScope st).names.lookup ("self" : Str) = some .local)
    (d1 : (pn == ("__debug__" : Str)) = false) (c1 : (pn == ("__classdict__" : Str)) = false) (sw : ∀ env, swapsWith (.Name pn q3) (some (.Attribute (.Name "self" q1) field q2)) q4.line env = pure false) : FnOk P w K mg base C8.CX0 1 f fd ["self", pn] (spErrInit C field) := by
  refine C8.fn0 F S (fun vs H Q E h => ?_) (fun cdv A outer s H vs Q E hr h => ?_)
  · obtain ⟨a, v, rfl, _⟩ := h
    rfl
  · obtain ⟨a, v, rfl, ha, k⟩ := h
    rw [hb]
    refine ⟨_, pss_one (ps_ost (pe_var (i := 0) rfl (.inl vs0)) (pe_var (i := 1) rfl (.inl vs1) d1 c1) (sw _)), ?_⟩
    exact ⟨v, rfl, _, rfl, a, C, rfl, ox, nx, .inl ⟨ha, fun dx hdx ne => k dx hdx ne⟩⟩
end
section
variable {X : Cx}
/-- X(e), X's __init__ keeping its argument in a field: the exception's own dict d is new -/
def tErr (C : Addr) (field : Str) (ta : TA) : L2.St → Hp → XK → Prop := fun σ H Q => ta σ H fun vs H1 => ∃ v, vs = [v] ∧ ∀ d H', H1 d = none → Same H1 H' → H' d = some (.xd [(field, v)]) → Q (.ref C) (some d) H'
theorem pmk_err {x field pn : Str} {C fI : Addr} {fd : FuncData} {e : Expr} {ta : TA} {p pos : Pos} (T : OexC X.K C) (iC : PySem.W.findIn X.K (.ref C) "__init__" = some (some (.ref fI))) (tI : PySem.W.isFn X.K (.ref fI) = true)
    (F1 : FnOk X.prog X.w X.K X.mg X.base C8.CX0 1 fI fd ["self", pn] (spErrInit C field)) (hr : Room 2 X.A) (hb : Binds X.K fd ["self", pn] []) (hg : Gl X x) (hm : X.mg x = some (.ref C)) (ha : PA X [e] ta)
    (hdb : (x == ("__debug__" : Str)) = false := by decide) (he : starEach (e :: []) X.env = (false, eval e X.env) :: starEach [] X.env := by rfl) (hpl : (backTo pos (starEach [] X.env)).any (·.1) = false := by rfl) :
    PMk X (.Call (.Name x p) [e] [] pos) (tErr C field ta) := by
  intro pins s σ H Q I h
  refine pmk_oex T iC (beq_iff_eq.mp tI) F1 hr hb .nil C8.pass0 hg hm (ta := fun σ H R => ta σ H (fun vs H1 => ∃ v, vs = [v] ∧ ∀ d H', H1 d = none → Same H1 H' → H' d = some (.xd [(field, v)]) → Q (.ref C) (some d) H') ∧
      ∀ vs H1, (∃ v, vs = [v] ∧ ∀ d H', H1 d = none → Same H1 H' → H' d = some (.xd [(field, v)]) → Q (.ref C) (some d) H') → R vs H1) ?_ hdb he hpl pins s σ H Q I ⟨h, ?_⟩
  · exact ⟨fun pos pins s σ H R I h => thn (ha.run pos pins s σ H _ I h.1) fun us s1 ⟨vs, H1, I1, r1, q⟩ => ⟨vs, H1, I1, r1, h.2 _ _ q⟩⟩
  · rintro vs H1 ⟨v, rfl, k⟩
    refine ⟨by show 1 ≤ 1000; decide, fun a na => ⟨a, v, rfl, upd_same, fun dx hdx ne => ⟨rfl, dx, [(field, v)], upd_same, Eq.trans (upd_ne ne) upd_same, ?_, ?_⟩⟩⟩
    · rw [upd_ne ne] at hdx
      exact hdx
    · have hd1 : H1 dx = none := by
        rw [upd_ne ne] at hdx
        exact hdx
      refine k dx _ hd1 (fun b o e => ?_) upd_same
      rw [upd_ne (ne_of_none e hd1), del_ne (ne_of_none e na), upd_ne (ne_of_none e na), upd_ne (ne_of_none e hd1), upd_ne (ne_of_none e na)]
      exact e
end
end BF
set_option Elab.async false
set_option linter.all false
set_option maxRecDepth 100000
set_option maxHeartbeats 4000000
/-! A try whose clauses all bear names: the library has one clause with a name, or several without; here both at once. -/
namespace BF
open PySem PySem.Spec PyProof.Rows L2
abbrev Cls3 := Value × Nat × (Addr → Value → Option Addr → TS)
/-- a suite's ends, the clause's name taken away behind it -/
def Ends.bare (i : Nat) (D : Ends) : Ends := { nx := fun σ H => D.nx (σ.set i none) H, rt := D.rt, bk := fun σ H => D.bk (σ.set i none) H, ct := fun σ H => D.ct (σ.set i none) H }
/-- what named clauses (class, slot, suite) ask of an exception of class cls: the first that fits runs, Wout where none fits -/
def wManyA (K : PySem.W.Frag) (Wout : WX) (D : Ends) : List Cls3 → WX
  | [] => Wout
  | q :: r => fun cls d σ H => ∃ b, PySem.W.exmOne K cls q.1 = some b ∧ (b = true → ∀ a, H a = none → q.2.2 a cls d (Ends.bare q.2.1 D) (σ.set q.2.1 (some (.ref a))) H) ∧ (b = false → wManyA K Wout D r cls d σ H)
/-- clauses and their readings -/
inductive HdsA (X : Cx) : List ExceptHandler → List Cls3 → Prop
  | nil : HdsA X [] []
  | cons {cn nm : Str} {c : Value} {i : Nat} {ts : Addr → Value → Option Addr → TS} {st : Stmt} {sts : List Stmt} {p1 p2 : Pos} {rest : List ExceptHandler} {l : List Cls3} (slot : X.N[i]? = some nm) (loc : X.env.kindOf nm = some .local) (cls : Names X cn c)
      (run : ∀ (a : Addr) (ob : Obj) (k : Value) (d : Option Addr) (pn : List (Addr × Obj)), Zc k d ob → (∃ vs, ob.data = .fields vs) → PSs (X.suite a ((a, ob) :: pn)) (st :: sts) (ts a k d)) (more : HdsA X rest l) :
      HdsA X (.ExceptHandler (some (.Name cn p1)) (some nm) (st :: sts) p2 :: rest) ((c, i, ts) :: l)
/-- an exception at a, of class cls and with the dict d, lies in the heap of s, caught -/
structure Lies (X : Cx) (pins : List (Addr × Obj)) (σ : L2.St) (H : Hp) (B : Heap) (a : Addr) (cls : Value) (d : Option Addr) (s : Shared) : Prop where
  fly : HandSPX.FlyingZ B (X.env :: X.outer) a (Zc cls d) s.heap
  inv : Inv X pins σ H s
  new : H a = none
  back : ∀ g, HandSPX.FlyingZ B (X.env :: X.outer) a (Zc cls d) g → s.heap.UpToSlots g → Inv X pins σ H { s with heap := g }
  out : ∀ W : WX, W cls d σ H → ∀ g, HandSPX.HeldZ B (X.env :: X.outer) a (Zc cls d) X.env.locals g → s.heap.UpToSlots g → XE X W (.ref a) { s with heap := g }
section
variable {X : Cx} {pins : List (Addr × Obj)} {σ : L2.St} {H : Hp} {B : Heap} {a : Addr} {cls : Value} {d : Option Addr} {s : Shared}
/-- the room of a suite that handles it -/
theorem Lies.room (L : Lies X pins σ H B a cls d s) (fr : X.env.frame = some X.env.locals) :
    ∃ ob, s.heap.get? a = some ob ∧ Zc cls d ob ∧ (∃ vs, ob.data = .fields vs) ∧ Inv (X.suite a ((a, ob) :: (X.pn ++ pins))) [] σ H s := by
  obtain ⟨ob, vs, g1, g2, g3⟩ := L.fly.there
  have far : a ∉ frs (X.env :: X.outer) := fun q => by
    obtain ⟨_, o2, g4, bad⟩ := L.fly.2.2.1.mem q
    have : ob = o2 := Option.some.inj (g1.symm.trans g4)
    exact bad _ (this ▸ g3)
  have f1 : a ≠ X.env.locals := fun q => far (List.mem_filterMap.mpr ⟨X.env, .head _, fr.trans (congrArg some q.symm)⟩)
  have f2 : a ∉ X.fs := fun q => far (by
    obtain ⟨e, m, z⟩ := List.mem_filterMap.mp q
    exact List.mem_filterMap.mpr ⟨e, .tail _ m, z⟩)
  exact ⟨ob, g1, g2, ⟨vs, g3⟩, L.inv.suite g1 g3 L.new f1 f2⟩
theorem Lies.on (L : Lies X pins σ H B a cls d s) {g : Heap} (f : HandSPX.FlyingZ B (X.env :: X.outer) a (Zc cls d) g) (u : s.heap.UpToSlots g) : Lies X pins σ H B a cls d { s with heap := g } where
  fly := f
  inv := L.back g f u
  new := L.new
  back := fun g2 f2 u2 => L.back g2 f2 (u.trans u2)
  out := fun W w g2 f2 u2 => L.out W w g2 f2 (u.trans u2)
/-- no clause is left: it goes on, out of the def -/
theorem Lies.pass (L : Lies X pins σ H B a cls d s) (fr : X.env.frame = some X.env.locals) {W : WX} (tk : Takes X W) (w : W cls d σ H) {R : Flow → Shared → Prop} : wpAny (model X.prog X.w) X.A (handleBy (.ref a) X.env []) R X.xe s := by
  have last : wpAny (model X.prog X.w) X.A (setFlight (.ref a) X.env.frame) (fun _ t => wpAny (model X.prog X.w) X.A (throw (.ref a) : Sem Flow) R X.xe t) X.xe s := by
    rw [fr]
    exact HandSPX.setFlight_upZ L.fly fun g held up => wpAny_throw (tk _ _ (L.out W w g held up))
  obtain ⟨_, _, _, ob, fields, tr, trOb, _, atA, _, dat, one, _⟩ := id L.fly
  refine wpAny_handleBy_nil ?_
  unfold PySem.passOn
  refine wpAny_bind (wpAny_field atA dat one ?_)
  have ne : ¬ (Value.ref tr == Value.none) = true := fun q => by simp at q
  simp only [ne, if_false]
  first | exact wpAny_bind last | exact wpAny_bind (wpAny_pure (wpAny_bind last))
/-- the class that a clause names is read in its room -/
theorem Lies.reads (ob : Obj) (room : Inv (X.suite a ((a, ob) :: (X.pn ++ pins))) [] σ H s) {cn : Str} {c : Value} {p : Pos} (names : Names X cn c) {R E : Value → Shared → Prop} (r : R c s) :
    wpAny (model X.prog X.w) (X.A.mark (some (.ref a))) (eval (.Name cn p) X.env) R E s := by
  obtain ⟨glob, plain, known | ⟨unknown, builtin, there⟩⟩ := names
  · exact ld_glob (X := X.suite a ((a, ob) :: (X.pn ++ pins))) room glob known r plain
  · exact ld_blt (X := X.suite a ((a, ob) :: (X.pn ++ pins))) room glob unknown builtin r there plain
/-- behind a suite its name goes -/
theorem unname {D : Ends} {i : Nat} {nm : Str} {p : Pos} {q : Addr × Obj} {f : Flow} {t : Shared} (ok : X.Ok) (nod : X.N.Nodup) (slot : X.N[i]? = some nm) (loc : X.env.kindOf nm = some .local)
    (e : SP (X.suite a (q :: (X.pn ++ pins))) [] (Ends.bare i D) f t) : wpAny (model X.prog X.w) X.A (do bindName X.env nm .none; unbindBehindTheSuite X.env nm p) (fun _ u => SP X pins D f u) X.xe t := by
  have step : ∀ {σ2 : L2.St} {H2 : Hp} {R : Shared → Prop}, Inv (X.suite a (q :: (X.pn ++ pins))) [] σ2 H2 t → (∀ u, Inv X pins (σ2.set i none) H2 u → R u) →
      wpAny (model X.prog X.w) X.A (do bindName X.env nm .none; unbindBehindTheSuite X.env nm p) (fun _ u => R u) X.xe t := fun J r => gone_ok (J.unsuite ok) nod slot loc r
  match f, e with
  | .next, ⟨_, _, J, r⟩ => exact step J fun u K => ⟨_, _, K, r⟩
  | .brk, ⟨_, _, J, r⟩ => exact step J fun u K => ⟨_, _, K, r⟩
  | .cont, ⟨_, _, J, r⟩ => exact step J fun u K => ⟨_, _, K, r⟩
  | .ret v, ⟨_, _, _, J, rv, r⟩ => exact step J fun u K => ⟨_, _, _, K, rv, r⟩
theorem Lies.handled {D : Ends} {Wout : WX} (ok : X.Ok) (nod : X.N.Nodup) (fr : X.env.frame = some X.env.locals) (tk : Takes X Wout) (L : Lies X pins σ H B a cls d s) {hds : List ExceptHandler} {l : List Cls3} (hk : HdsA X hds l) :
    wManyA X.K Wout D l cls d σ H → wpAny (model X.prog X.w) X.A (handleBy (.ref a) X.env hds) (SP X pins D) X.xe s := by
  induction hk with
  | nil => exact fun w => L.pass fr tk w
  | cons slot loc names run _ later =>
    rintro ⟨fits, known, yes, no⟩
    obtain ⟨ob, at1, kind, _, here⟩ := L.room fr
    have isCls : PySem.W.Looks (model X.prog X.w) s.heap (typeOf (.ref a)) cls := fun _ _ _ _ keep r => wpAny_typeOf_ref (keep _ _ at1) (kind.1.symm ▸ r)
    refine wpAny_handleBy_cons (codeAny_handlers_test (Lies.reads ob here names ((PySem.W.exm_one L.inv.kIn isCls known).here ?_))) (fun q => nomatch q)
    cases fits with
    | false => exact later (no rfl)
    | true =>
      refine codeAny_handlers_suite_as (HandSPX.lands_againZ L.fly fun g fly up => ?_)
      have L2 := L.on fly up
      obtain ⟨ob2, _, kind2, rec2, here2⟩ := L2.room fr
      refine store_ok (v := .ref a) (X := X.suite a ((a, ob2) :: (X.pn ++ pins))) here2 nod slot (.inl loc) rfl (fun t here3 => ?_) (.inr loc)
      exact wpAny_mono ((run a ob2 cls d (X.pn ++ pins) kind2 rec2).run [] t _ H _ here3 (yes rfl a L.new)) (fun _ _ e => unname ok nod slot loc e) fun _ _ z => z.elim
end
section
variable {X : Cx} {body : List Stmt} {h₀ : ExceptHandler} {hds : List ExceptHandler} {l : List Cls3} {pos : Pos} {tb : WX → TS} {Wout : WX}
theorem ps_try_manyA (nod : X.N.Nodup) (st : X.stack = X.env :: X.outer) (fr : X.env.frame = some X.env.locals) (tk : Takes X Wout)
    (hb : ∀ (W : WX) (pn : List (Addr × Obj)) (xe : Value → Shared → Prop), Takes (X.tr pn xe) W → PassesOwn (model X.prog X.w) X.A X.env xe → PSs (X.tr pn xe) body (tb W)) (hh : HdsA X (h₀ :: hds) l) :
    PS X (.Try body (h₀ :: hds) [] [] pos) (fun D σ H => tb (wManyA X.K Wout D l) D σ H) := by
  constructor
  intro pins s σ H D I w
  have ok := I.ok
  have frames : X.A.frames = some (X.env :: X.outer) := ok.frames.trans (congrArg some st)
  let E : Value → Shared → Prop := fun e t => wpAny (model X.prog X.w) X.A (noteFrame e X.env) (fun _ t2 => wpAny (model X.prog X.w) X.A (setFlight e none)
    (fun _ t3 => wpAny (model X.prog X.w) X.A (handleBy e X.env (h₀ :: hds)) (SP X pins D) X.xe t3) X.xe t2) X.xe t
  have caught : Takes (X.tr (X.pn ++ pins) E) (wManyA X.K Wout D l) := by
    rintro u t ⟨a, B, t0, pins2, σ2, H2, cls, d, rfl, J, nb, up, sky, new, os, bare, w2⟩
    have J : Inv X pins σ2 H2 t0 := J.ofTry ok
    have sky : Sky B (X.env :: X.outer) a (Zc cls d) X.env.locals t.heap := st ▸ sky
    refine Sky.land Zc.steady frames fr sky fun g fly up2 => ?_
    have inv : ∀ g2, HandSPX.FlyingZ B (X.env :: X.outer) a (Zc cls d) g2 → t.heap.UpToSlots g2 → Inv X pins σ2 H2 { t with heap := g2 } := fun g2 f2 u2 => J.landed nb f2.1 (up.trans u2) os bare
    refine Lies.handled ok nod fr tk (d := d) ⟨fly, inv g fly up2, new, fun g2 f2 u2 => inv g2 f2 (up2.trans u2), fun W w3 g2 held u2 => ?_⟩ hh w2
    exact ⟨a, B, t0, pins, σ2, H2, cls, d, rfl, J, nb, up.trans (up2.trans u2), .inr (.inr (st.symm ▸ held)), new, os, bare, w3⟩
  refine wpAny_Try_except (wpAny_mono ((hb _ (X.pn ++ pins) E caught PassesOwn.looking).run [] s σ H D (I.toTry _) w) (fun f t e => ?_) fun _ _ z => z)
  match f, e with
  | .next, ⟨_, _, J, r⟩ => exact wpAny_execs_nil ⟨_, _, J.ofTry ok, r⟩
  | .brk, ⟨_, _, J, r⟩ => exact ⟨_, _, J.ofTry ok, r⟩
  | .cont, ⟨_, _, J, r⟩ => exact ⟨_, _, J.ofTry ok, r⟩
  | .ret _, ⟨_, _, _, J, rv, r⟩ => exact ⟨_, _, _, J.ofTry ok, rv, r⟩
end
end BF
set_option Elab.async false
set_option linter.all false
set_option maxRecDepth 100000
set_option maxHeartbeats 4000000
namespace BF
open PySem PySem.Spec PyProof.Rows L2
/-! ### methods that may raise -/
section
variable {X : Cx} {k j : Nat} {C f : Addr} {x m : Str} {sp : Sp} {p pos apos : Pos} {e o : Expr} {es : List Expr} {ta : TE} {t : TA} {W : WX}
theorem pe_mtN {pl : Sem Bool} (c : MetX X.prog X.w X.K X.mg X.base k C m sp) (hr : Room j X.A) (hk : k ≤ j) (he : PE X o ta) (ha : PA X (e :: es) t)
    (hst : starEach (e :: es) X.env = (false, eval e X.env) :: starEach es X.env := by rfl) (hpl : (backTo pos (starEach es X.env)).any (·.1) = false := by rfl)
    (ht : eval (.Call (.Attribute o m apos) (e :: es) [] pos) X.env = (do let ov ← eval o X.env; standAt apos.atName; let (f, first) ← holding [ov] (getMethod ov m pl); callWith pos f first (backTo pos (starEach (e :: es) X.env)) (backToKw pos (keywordEach [] X.env))) := by rfl) :
    PE X (.Call (.Attribute o m apos) (e :: es) [] pos) (tMeth C m sp [] (fun _ _ _ => False) ta t) := by
  obtain ⟨f, fd, ps, hc, hm, F, b⟩ := c.ex
  exact pe_meth (pl := pl) he hc hm F (hr.mono hk) b .nil (passN rfl) ha hst hpl ht
theorem pe_mtS {pl : Sem Bool} (c : MetX X.prog X.w X.K X.mg X.base k C m sp) (hr : Room j X.A) (hk : k ≤ j) {E : L2.St → XK} (hx : ∀ σ, PassesAt (L2.CX X.prog X.w) X σ (E σ)) (he : PE X o ta) (ha : PA X (e :: es) t)
    (hst : starEach (e :: es) X.env = (false, eval e X.env) :: starEach es X.env := by rfl) (hpl : (backTo pos (starEach es X.env)).any (·.1) = false := by rfl)
    (ht : eval (.Call (.Attribute o m apos) (e :: es) [] pos) X.env = (do let ov ← eval o X.env; standAt apos.atName; let (f, first) ← holding [ov] (getMethod ov m pl); callWith pos f first (backTo pos (starEach (e :: es) X.env)) (backToKw pos (keywordEach [] X.env))) := by rfl) :
    PE X (.Call (.Attribute o m apos) (e :: es) [] pos) (tMethS C m sp E ta t) := by
  obtain ⟨f, fd, ps, hc, hm, F, b⟩ := c.ex
  refine ⟨fun pins s σ H Q I h => PySem.W.methodCall_KW (pl := pl) (thn (he.run pins s σ H _ I h) fun u s1 ⟨x, H1, I1, rx, a, dx, fs, ex, ea, l, q⟩ => ?_) ht⟩
  subst ex
  cases (show u = Value.ref a from rx)
  refine getmeth_ok I1 ea hc hm l (PySem.W.callWith_K (first := [.ref a]) (h₀ := X.base) I.ok.mod.kin hm.kp (thn (ha.run pos pins s1 σ H1 _ I1 q) fun us s2 ⟨vs, H2, I2, r, q2⟩ => ⟨I2.kIn, ?_⟩) hst hpl)
  exact run_fnS (us := .ref a :: us) (vs := .ref a :: vs) F (hr.mono hk) b (hx σ) I2 (.cons rfl r) q2
end

/-! ### == and != of instances by the class's own __eq__ -/
section
variable {prog : Program} {w : World} {A : Around} {E : Value → Shared → Prop} {s : Shared} {K : PySem.W.Frag} {x C f : Addr} {ox : Obj} {od : Option Obj}
/-- a builtin of the type object, found by the class -/
theorem ifBound_B {M : Model} {name : Str} {id : String} {args : List Value} {Q : Option Value → Shared → Prop} (X : K.In s.heap) (I : PySem.W.InstAt s.heap x ox C od)
    (hs : PySem.W.findIn K (.ref C) name = some (some (.builtin id))) (hb : bindSpecial (.builtin id) (.ref x) = pure (.builtin id, [.ref x]))
    (h : wpAny M A (call (.builtin id) (.ref x :: args)) (fun v => Q (some v)) E s) : wpAny M A (callSpecialIfBound? (.ref x) name args) Q E s := by
  simp only [callSpecialIfBound?, bindSpecialIfBound?]
  refine wpAny_holding (wpAny_bind (wpAny_bind (wpAny_bind (I.type.here ((PySem.W.looks_findIn X hs).here ?_)))))
  refine wpAny_bind (wpAny_askSetting (wpAny_ite ?_))
  have fin : wpAny M A (call (.builtin id) ([.ref x] ++ args) >>= fun v => pure (some v)) Q E s := wpAny_bind (wpAny_mono h (fun v s' h' => wpAny_pure h') fun _ _ h' => h')
  split
  · rw [hb]
    exact wpAny_bind (wpAny_pure (wpAny_pure (by exact fin)))
  · rw [hb]
    exact wpAny_tryCatch (wpAny_bind (wpAny_pure (wpAny_pure (by exact fin))))
end
section
variable {prog : Program} {w : World} {A : Around} {E : Value → Shared → Prop} {s : Shared} {K : PySem.W.Frag} {x C f L : Addr} {ox : Obj} {od : Option Obj} {h₀ : Heap} {m : Str → Option Value} {b : Value}
/-- what the written part says of a class without bases of its own, whose __ne__ is object's -/
structure NeC (K : PySem.W.Frag) (C f : Addr) : Prop where
  ob : ∃ nm q N bs hdct sn sub ab col dd k0 k1 k2 k3 k5 nid, K.lookup C = some (excClassObj nm q C N bs [.type "object"] hdct sn sub ab col dd k0 k1 k2 k3 k5 nid)
  ne : PySem.W.findIn K (.ref C) "__ne__" = some (some (.builtin "object.__ne__"))
  eq : PySem.W.findIn K (.ref C) "__eq__" = some (some (.ref f))
  fn : PySem.W.isFn K (.ref f) = true
def BackNe (Q : Value → Shared → Prop) (v : Value) (s' : Shared) : Prop := ∃ r, v = .bool r ∧ Q (.bool (!r)) s'
theorem ne_body (T : NeC K C f) (X : K.In s.heap) (I : PySem.W.InstAt s.heap x ox C od) (hu : A.units < cLine) {Q : Fin → Shared → Prop}
    (hc : wpAny (model prog w) A (call (.ref f) [.ref x, b]) (BackNe fun v s' => Q (.done (.ret v)) s') E s) :
    wpAny (model prog w) A (Builtin.«object.__ne__» ⟨[.ref x, b], []⟩) Q E s := by
  unfold Builtin.«object.__ne__»
  have step : wpAny (model prog w) A (callSpecialIfBound? (.ref x) (Str.ofString "__eq__") [b]) (fun o s' => ∃ r, o = some (.bool r) ∧ Q (.done (.ret (.bool (!r)))) s') E s :=
    PySem.W.ifBound_K X I T.eq T.fn (wpAny_mono hc (fun v s' hv => by obtain ⟨r, rfl, q⟩ := hv; exact ⟨r, rfl, q⟩) fun _ _ e => e)
  repeat (first
    | with_reducible refine wpAny_cRoomFor hu ?_
    | (refine wpAny_bind (m := callSpecialIfBound? (.ref x) (Str.ofString "__eq__") [b]) (wpAny_mono step (fun o s' ho => by
        obtain ⟨r, rfl, hq⟩ := ho
        repeat (first | exact hq | exact wpAny_pure hq | exact wpAny_truthy_bool hq | (refine wpAny_bind (m := truthy (.bool _)) (wpAny_truthy_bool ?_)) | wp_step)) fun _ _ e => e))
    | wp_step)
theorem ne_try (T : NeC K C f) (X : K.In s.heap) (I : PySem.W.InstAt s.heap x ox C od) (hu : A.units + 1 < cLine) {Q : Option Value → Shared → Prop}
    (hc : wpAny (model prog w) A.in1 (call (.ref f) [.ref x, b]) (BackNe fun v s' => Q (some v) s') E s) : wpAny (model prog w) A (tryCompare (.ref x) "__ne__" b) Q E s := by
  obtain ⟨nm, q, N, bs, hdct, sn, sub, ab, col, dd, k0, k1, k2, k3, k5, nid, hC⟩ := T.ob
  obtain ⟨hp, g, dr, tk, os⟩ := s
  simp only [tryCompare]
  refine wpAny_bind (ifBound_B X I T.ne (by first | rfl | kernel_rfl) (wpAny_call (codeAny_call_builtin PySem.F.cmp_object.ne.plain PySem.F.cmpEntry_ne
    (wpAny_check_slot_inst PySem.F.cmpKind_ne PySem.F.cmpSplit_ne (PySem.F.cmpArgs_ne _ _) PySem.F.cmp_object.hasObject I.at_ I.cls (X _ _ hC)
      (ne_body (A := A.in1) T X I hu (wpAny_mono hc (fun v s' hv => ?_) fun _ _ e => e))))))
  obtain ⟨r, rfl, hq⟩ := hv
  first | exact ⟨r, rfl, wpAny_pure hq⟩ | exact ⟨r, rfl, wpAny_pure (wpAny_pure hq)⟩ | exact ⟨r, rfl, hq⟩
end
end BF
set_option Elab.async false
set_option linter.all false
set_option maxRecDepth 100000
set_option maxHeartbeats 4000000
namespace BF
open PySem PySem.Spec PyProof.Rows L2
section
variable {prog : Program} {w : World} {A : Around} {E : Value → Shared → Prop} {s : Shared} {K : PySem.W.Frag} {x C f L y : Addr} {ox oy : Obj} {od oe : Option Obj}
theorem ne_rich (T : NeC K C f) (X : K.In s.heap) (I : PySem.W.InstAt s.heap x ox C od) (J : PySem.W.InstAt s.heap y oy C oe) (hu : A.units + 1 < cLine) {Q : Value → Shared → Prop}
    (hc : wpAny (model prog w) A.in1 (call (.ref f) [.ref x, .ref y]) (BackNe Q) E s) : wpAny (model prog w) A (richCompare .NotEq (.ref x) (.ref y)) Q E s := by
  unfold richCompare
  simp only [oneThing_ref]
  refine wpAny_holding (wpAny_bind (wpAny_cRoomFor (Nat.lt_of_succ_lt hu) ?_))
  rw [cmpInfo_NotEq]
  dsimp only
  refine wpAny_bind (I.type.here (wpAny_bind (J.type.here ?_)))
  rw [show (Value.ref C != Value.ref C) = false from by simp]
  simp only [Bool.false_eq_true, if_false]
  refine wpAny_bind (wpAny_pure ?_)
  simp only [Bool.false_eq_true, if_false]
  have z : wpAny (model prog w) A (tryCompare (.ref x) "__ne__" (.ref y)) (fun r s' => ∃ v, r = some v ∧ Q v s') E s :=
    ne_try T X I hu (wpAny_mono hc (fun v s' hv => by obtain ⟨r, rfl, hq⟩ := hv; exact ⟨r, rfl, _, rfl, hq⟩) fun _ _ e => e)
  refine wpAny_bind (wpAny_mono z (fun r s' hr => ?_) fun _ _ e => e)
  obtain ⟨v, rfl, hq⟩ := hr
  first | exact wpAny_pure hq | exact wpAny_pure (wpAny_pure hq)
end
section
variable {X : Cx} {n : Nat} {C f : Addr} {fd : FuncData} {ps : List Str} {CX : CXT} {sp : Sp}
/-- x == y, x != y: instances of the class at C; sp: what its __eq__ promises -/
def rEqO (C : Addr) (sp : Sp) (g : Bool → Bool) : R2 := fun x y H Q => ∃ a b dx dy fs gs, x = .ref a ∧ y = .ref b ∧ H a = some (.ins C dx fs) ∧ H b = some (.ins C dy gs) ∧ sp [.ref a, .ref b] H (fun v H' => ∃ r, v = .bl r ∧ Q (.bl (g r)) H') (fun _ _ _ => False)
theorem run_eqO {A : Around} {pins : List (Addr × Obj)} {s : Shared} {σ : L2.St} {H : Hp} {a b : Addr} {Q : VK} {R : Value → Shared → Prop} (F : FnOk X.prog X.w X.K X.mg X.base CX n f fd ps sp) (hb : Binds X.K fd ps []) (hx : Passes CX X (fun _ _ _ => False))
    (hr : Room n A) (hf : A.frames = X.A.frames) (I : Inv X pins σ H s) (h : sp [.ref a, .ref b] H Q (fun _ _ _ => False)) (hR : ∀ v u s' H', Inv X pins σ H' s' → RelV v u → Q v H' → R u s') :
    wpAny (model X.prog X.w) A (call (.ref f) [.ref a, .ref b]) R X.xe s := by
  have e0 : Env0 X.prog X.w X.K X.mg X.base A X.stack s H := by
    have e := I.env0
    exact ⟨by rw [hf]; exact e.frames, e.mod, e.bs, e.bsz, e.funs, e.frf, e.hok, e.bare⟩
  have hl := F.len _ _ _ _ h
  have r2 : Vals [V.ref a, V.ref b] [Value.ref a, Value.ref b] := .cons rfl (.cons rfl .nil)
  have bb := hb s [.ref a, .ref b] I.kIn (by rw [List.append_nil]; exact hl)
  rw [List.append_nil] at bb
  refine wpAny_call (codeAny_mono (F.run A X.stack s H ⟨[.ref a, .ref b], []⟩ [.ref a, .ref b] [.ref a, .ref b] _ _ hr e0 bb r2 h) fun r s' hq => ?_)
  cases r with
  | error e => exact hx pins σ H s e s' I hq
  | ok fl =>
    cases fl with
    | ret u =>
      obtain ⟨v, H', I', rv, q⟩ := I.after hq
      exact hR v u s' H' I' rv q
    | next => exact False.elim hq
    | brk => exact False.elim hq
    | cont => exact False.elim hq
theorem op_eqO (F : FnOk X.prog X.w X.K X.mg X.base CX n f fd ps sp) (hb : Binds X.K fd ps []) (hx : Passes CX X (fun _ _ _ => False)) (T : NeC X.K C f) (hr : Room n X.A) : OpR X (compareOp .Eq) (rEqO C sp id) := by
  intro pins s σ H x y u v Q I rx ry h
  obtain ⟨a, b, dx, dy, fs, gs, rfl, rfl, ha, hb', hs⟩ := h
  cases rx
  cases ry
  obtain ⟨mA, J, _⟩ := ins_get I.hok ha
  obtain ⟨mB, J', _⟩ := ins_get I.hok hb'
  obtain ⟨od, J, _⟩ := J.look
  obtain ⟨od', J', _⟩ := J'.look
  obtain ⟨m, hF⟩ := I.fr
  refine PySem.W.cmp_K (op := .Eq) (tb := .ref C) hr.units0 hF I.ok.mod.kin J J'.type (by simp [PySem.W.notFirst]) T.eq T.fn ?_
  refine run_eqO F hb hx hr rfl I hs fun v u s' H' I' rv q => ?_
  obtain ⟨r, rfl, q⟩ := q
  cases rv
  exact ⟨.bl r, H', I', rfl, q⟩
theorem op_neO (F : FnOk X.prog X.w X.K X.mg X.base CX n f fd ps sp) (hb : Binds X.K fd ps []) (hx : Passes CX X (fun _ _ _ => False)) (T : NeC X.K C f) (hr : Room (n + 1) X.A) : OpR X (compareOp .NotEq) (rEqO C sp not) := by
  intro pins s σ H x y u v Q I rx ry h
  obtain ⟨a, b, dx, dy, fs, gs, rfl, rfl, ha, hb', hs⟩ := h
  cases rx
  cases ry
  obtain ⟨mA, J, _⟩ := ins_get I.hok ha
  obtain ⟨mB, J', _⟩ := ins_get I.hok hb'
  obtain ⟨od, J, _⟩ := J.look
  obtain ⟨od', J', _⟩ := J'.look
  refine ne_rich (s := s) T I.kIn J J' (by have := hr.un; omega) ?_
  refine run_eqO F hb hx hr.in1 rfl I hs fun v u s' H' I' rv q => ?_
  obtain ⟨r, rfl, q⟩ := q
  cases rv
  exact ⟨r, rfl, .bl (!r), H', I', rfl, q⟩
end

/-! ### == and != of dicts whose values are data -/
section
variable {X : Cx}
/-- the dict at a: keys and data -/
def DkD (K : PySem.W.Frag) (H : Hp) (x : V) (ds : List (Key × PyData)) : Prop := ∃ a kvs, x = .ref a ∧ H a = some (.dK kvs) ∧ Paired (fun (p : Key × V) (q : Key × PyData) => p.1 = q.1 ∧ Dp K H p.2 q.2 ∧ SeqAt.shaped q.2 = true) kvs ds
def eqKD (ds es : List (Key × PyData)) : Bool := ds.length == es.length && ds.all fun p => match es.find? fun q => decide (q.1 = p.1) with | some q => PyData.eqv p.2 q.2 | none => false
theorem paired_find {K : PySem.W.Frag} {H : Hp} : ∀ {kvs : List (Key × V)} {ds : List (Key × PyData)} (k : Key), Paired (fun (p : Key × V) (q : Key × PyData) => p.1 = q.1 ∧ Dp K H p.2 q.2 ∧ SeqAt.shaped q.2 = true) kvs ds →
    (valV kvs k = none ∧ ds.find? (fun q => decide (q.1 = k)) = none) ∨ ∃ v q, valV kvs k = some v ∧ ds.find? (fun q => decide (q.1 = k)) = some q ∧ Dp K H v q.2 ∧ SeqAt.shaped q.2 = true
  | _, _, _, .nil => .inl ⟨rfl, rfl⟩
  | (k1, v) :: kvs, (k2, d) :: ds, k, .cons h t => by
    obtain ⟨e, hd, sd⟩ := h
    cases (show k1 = k2 from e)
    by_cases hk : k1 = k
    · exact .inr ⟨v, (k1, d), by simp [valV, hk], by simp [hk], hd, sd⟩
    · have ih := paired_find k t
      rw [show valV ((k1, v) :: kvs) k = valV kvs k from by simp [valV, hk], show ((k1, d) :: ds).find? (fun q => decide (q.1 = k)) = ds.find? (fun q => decide (q.1 = k)) from by simp [hk]]
      exact ih
theorem hits_data {A : Around} {pins : List (Addr × Obj)} {σ : L2.St} {H : Hp} {s : Shared} (I : Inv X pins σ H s) (hu : A.in1.units + 64 < cLine) {ls : List (Key × V)} {es : List (Key × PyData)} {vb : List (Key × Value)} (rb : KV ls vb)
    (pb : Paired (fun (p : Key × V) (q : Key × PyData) => p.1 = q.1 ∧ Dp X.K H p.2 q.2 ∧ SeqAt.shaped q.2 = true) ls es) :
    ∀ {ks : List (Key × V)} {ds : List (Key × PyData)} {va : List (Key × Value)}, KV ks va → Paired (fun (p : Key × V) (q : Key × PyData) => p.1 = q.1 ∧ Dp X.K H p.2 q.2 ∧ SeqAt.shaped q.2 = true) ks ds →
      PySem.W.KeqHits A.in1 s vb va (ds.all fun p => match es.find? fun q => decide (q.1 = p.1) with | some q => PyData.eqv p.2 q.2 | none => false)
  | _, _, _, .nil, .nil => .nil
  | (k1, v) :: ks, (k2, d) :: ds, (k3, u) :: va, .cons r t, .cons p t' => by
    obtain ⟨e, hd, sd⟩ := p
    obtain ⟨e2, ru⟩ := r
    cases (show k1 = k2 from e)
    cases (show k1 = k3 from e2)
    have ih := hits_data (A := A) I hu rb pb t t'
    have rv := rb.val k1
    rcases paired_find k1 pb with ⟨n1, n2⟩ | ⟨v', q, n1, n2, hq, sq⟩
    · rw [n1] at rv
      have hn : valueAt vb k1 = none := by
        cases c : valueAt vb k1 with
        | none => rfl
        | some y => rw [c] at rv; exact False.elim rv
      simp only [List.all_cons, n2, Bool.false_and]
      exact .miss hn
    · rw [n1] at rv
      obtain ⟨y, hy, ry⟩ := rv.some_of
      obtain ⟨as, r1⟩ := Dp.reads I d v u hd ru
      obtain ⟨bs, r2⟩ := Dp.reads I q.2 v' y hq ry
      simp only [List.all_cons, n2]
      exact .hit hy (PySem.W.keq_at r1 r2 sd sq hu) ih
def rEqDD (K : PySem.W.Frag) (g : Bool → Bool) : R2 := fun x y H Q => ∃ ds es, DkD K H x ds ∧ DkD K H y es ∧ Q (.bl (g (eqKD ds es))) H
theorem op_eqDD (hu : X.A.units + 65 < cLine) : OpR X (compareOp .Eq) (rEqDD X.K id) := by
  intro pins s σ H x y v u Q I rx ry h
  obtain ⟨ds, es, ⟨a, ks, rfl, ea, pa⟩, ⟨b, ls, rfl, eb, pb⟩, q⟩ := h
  cases rx
  cases ry
  obtain ⟨_, ya, va, ra, da⟩ := (show ObjOk X.prog X.w H s.heap a (.dK ks) from I.hok a _ ea)
  obtain ⟨_, yb, vb, rb, db⟩ := (show ObjOk X.prog X.w H s.heap b (.dK ls) from I.hok b _ eb)
  have hl : (va.length == vb.length) = (ds.length == es.length) := by rw [← ra.length, ← rb.length, pa.length, pb.length]
  have hu1 : X.A.in1.units + 64 < cLine := by show X.A.units + 1 + 64 < cLine; omega
  exact PySem.W.keq_eq (knd := mixKind X.prog X.w) ya yb da db (by omega) (fun _ => hits_data I hu1 rb pb ra pa) (fin_bl I q (by simp only [id]; unfold eqKD; rw [hl]))
theorem op_neDD (hu : X.A.units + 65 < cLine) : OpR X (compareOp .NotEq) (rEqDD X.K not) := by
  intro pins s σ H x y v u Q I rx ry h
  obtain ⟨ds, es, ⟨a, ks, rfl, ea, pa⟩, ⟨b, ls, rfl, eb, pb⟩, q⟩ := h
  cases rx
  cases ry
  obtain ⟨_, ya, va, ra, da⟩ := (show ObjOk X.prog X.w H s.heap a (.dK ks) from I.hok a _ ea)
  obtain ⟨_, yb, vb, rb, db⟩ := (show ObjOk X.prog X.w H s.heap b (.dK ls) from I.hok b _ eb)
  have hl : (va.length == vb.length) = (ds.length == es.length) := by rw [← ra.length, ← rb.length, pa.length, pb.length]
  have hu1 : X.A.in1.units + 64 < cLine := by show X.A.units + 1 + 64 < cLine; omega
  exact PySem.W.keq_ne (knd := mixKind X.prog X.w) ya yb da db (by omega) (fun _ => hits_data I hu1 rb pb ra pa) (fin_bl I q (by unfold eqKD; rw [hl]))
end
end BF
set_option Elab.async false
set_option linter.all false
set_option maxRecDepth 100000
set_option maxHeartbeats 4000000
namespace BF
open PySem PySem.Spec PyProof.Rows L2
section
variable {X : Cx}
/-- sorted(a tuple of texts) -/
def rSortT (K : PySem.W.Frag) : List V → Hp → VK → Prop := fun vs H Q => ∃ (a : Addr) (ks : List Str), vs = [.ref a] ∧ SqT K H a (ks.map V.str) ∧ ks.length < 64 ∧
  ∀ (ys : List Str) (p : Addr), ys.Perm ks → sortedS ys = true → H p = none → Q (.ref p) (upd H p (.lst (ys.map V.str)))
theorem cr_sortedTS : CallR X (.builtin "sorted") (rSortT X.K) := by
  intro pins s σ H xs us Q I r h
  obtain ⟨a, ks, rfl, hT, h64, q⟩ := h
  rw [Vals.ref1 r]
  obtain ⟨its, rv, pl, hz⟩ := I.tuple hT
  obtain ⟨o, ho, hc, n, hd⟩ := pl
  have hlen : its.length = ks.length := by rw [← rv.length, List.length_map]
  have hS : StrsAre its ks := rv.strs
  have h16 : its.length ≤ sizeLine := by rw [hlen, sizeLine_eq]; omega
  refine Calls.call_function_entry PyProof.Rows.kind_sorted PyProof.Rows.plain_sorted PyProof.Rows.entry_sorted (PyProof.Rows.args_sorted1 _) ?_
  unfold Builtin.«sorted»
  refine wpAny_bind (m := checkCount "sorted" 1 1 _) (wpAny_pure ?_)
  refine wpAny_bind (wpAny_collect_seq a (.inr rfl) ho hc hd (fun h' kp => ?_) (by rw [List.size_toArray]; exact h16))
  have I1 : Inv X pins σ H { s with heap := h' } := I.kept (t' := s.toks) kp
  have hS' : StrsAre its.toArray.toList ks := by simpa using hS
  have hl' : its.toArray.toList.length = ks.length := by simpa using hlen
  refine wpAny_bind (wpAny_newList ?_ (by rw [hl', sizeLine_eq]; omega))
  have hoL : (h'.push (seqObj "list" its.toArray.toList.toArray 0)).get? h'.objs.size = some (seqObj "list" its.toArray.toList.toArray 0) := Heap.get?_push_size _ rfl
  show wpAny _ _ _ _ _ { s with heap := h'.push (seqObj "list" its.toArray.toList.toArray 0) }
  refine wpAny_bind (wpAny_holding (wpAny_call_entry PyProof.Rows.slot_list_sort ⟨_, hoL, rfl⟩ PyProof.Rows.entry_list_sort (list_sort_treeK strKind_oneLt hoL hS'.keysOf (fun v₁ v₂ rest e => keyKind_strs (by rw [← e]; exact hS')) (by rw [hl']; exact h64) fun st' hp hs => ⟨_, rfl, ?_⟩) (PyProof.Rows.args_list_sort _)))
  obtain ⟨ys, g1, g2, g3⟩ := sorted_out_str hS' hp hs
  obtain ⟨ep, hep⟩ := PyProof.Rows.sortedHeap_at (vs := its.toArray.toList) (out := (arrOf st').map (·.2)) hoL
  have hfit : (ys.map V.str).length ≤ sizeLine := by
    rw [List.length_map, g2.length_eq, sizeLine_eq]
    omega
  have old : ∀ b u, h'.get? b = some u → (sortedHeap (h'.push (seqObj "list" its.toArray.toList.toArray 0)) h'.objs.size its.toArray.toList ((arrOf st').map (·.2))).get? b = some u := fun b u e => by
    have hb : b < h'.objs.size := Heap.lt_size e
    rw [PyProof.Rows.sortedHeap_old (Nat.ne_of_lt hb) (by rw [size_push']; exact Nat.lt_succ_of_lt hb)]
    exact Heap.get?_push_of_some _ e
  exact wpAny_pure ⟨_, rfl, .ref h'.objs.size, _, I1.laid (t' := s.toks) old (Nat.le_refl _) (show ObjOk X.prog X.w _ _ _ (.lst (ys.map V.str)) from ⟨hfit, ((arrOf st').map (·.2)).toList, ep, vals_of_strs g1, by rw [Array.toArray_toList]; exact hep⟩), rfl, q ys _ g2 g3 (I1.hok.fresh (Nat.le_refl _))⟩
end
end BF
set_option Elab.async false
set_option linter.all false
set_option maxRecDepth 100000
set_option maxHeartbeats 4000000
namespace BF
open PySem PySem.Spec PyProof.Rows L2
section
variable {prog : Program} {w : World} {A : Around} {E : Value → Shared → Prop} {s : Shared}
/-- t[::-1] of a pair -/
theorem rev_pair {t sl : Addr} {u v : Value} {tk : Tok} {Q : Value → Shared → Prop} (ht : IsTup s.heap t #[u, v]) (hs : s.heap.IsSliceOf sl .none .none (.int (-1) tk))
    (h : Q (.ref s.heap.objs.size) { s with heap := s.heap.push { cls := .type "tuple", data := .seq #[v, u] } }) : wpAny (model prog w) A (getItem (.ref t) (.ref sl)) Q E s := by
  obtain ⟨os, hos, hcs, hds⟩ := id hs
  have hTs : s.TypeIs (.ref sl) "slice" := ⟨os, hos, hcs⟩
  have run : ∀ {Q : Int × Int × Nat → Shared → Prop} {E : Value → Shared → Prop}, Q (1, -1, 2) s → wpAny (model prog w) A.in1 (Builtin.Slice.sliceApplied (.ref sl) (pure (2 : Int))) Q E s := fun {Q E} q => by
    unfold Builtin.Slice.sliceApplied Builtin.Slice.sliceFields
    refine wpAny_bind (wpAny_bind (wpAny_field hos hds (x := .none) rfl (wpAny_bind (wpAny_field hos hds (x := .none) rfl (wpAny_bind (wpAny_field hos hds (x := .int (-1) tk) rfl (wpAny_pure ?_)))))))
    refine wpAny_bind (slicePart_int ?_)
    show wpAny _ _ (if ((-1 : Int) == 0) = true then _ else _) _ _ s
    rw [if_neg (by decide)]
    exact wpAny_bind (slicePart_none (wpAny_bind (slicePart_none (wpAny_bind (wpAny_pure (wpAny_pure q))))))
  have big : sizeOk (.seq #[v, u]) := by
    show 2 ≤ sizeLine
    rw [sizeLine_eq]
    omega
  unfold getItem
  try with_reducible refine wpAny_holding ?_
  first | refine wpAny_bind (wpAny_pure ?_) | skip
  refine wpAny_bind (wpAny_sequenceKey ht.typeIs (by decide) ?_)
  refine wpAny_bind (wpAny_callSpecial?_slot (name := Str.ofString "__getitem__") ht.typeIs PyProof.Rows.slot_tuple_getitem
    (wpAny_call_entry PyProof.Rows.slot_tuple_getitem ht.typeIs entry_tuple_getitem ?_ (args_tuple_getitem _ _)))
  refine wpAny_bind (m := Builtin.Tuple.tupleItemsOf (.ref t)) (tupleItemsOf_ ht ?_)
  refine wpAny_bind (wpAny_typeOf hTs ?_)
  rw [if_pos (by decide)]
  refine wpAny_bind (run ?_)
  show wpAny _ _ (if ((1 : Int) == 0 && (-1 : Int) == 1 && 2 == 2) = true then _ else _) _ _ s
  rw [if_neg (by decide)]
  have e : ((List.range 2).filterMap fun (k : Nat) => (#[u, v] : Array Value)[((1 : Int) + (k : Int) * (-1)).toNat]?).toArray = #[v, u] := by rfl
  rw [e]
  first
    | exact wpAny_bind (m := Builtin.Tuple.tupleExact _) (wpAny_newObj_type (wpAny_pure ⟨_, rfl, wpAny_pure h⟩) big)
    | exact wpAny_bind (m := Builtin.Tuple.tupleExact _) (wpAny_newObj_type (wpAny_bind (wpAny_pure (wpAny_pure ⟨_, rfl, wpAny_pure h⟩))) big)
    | exact wpAny_bind (wpAny_bind (m := Builtin.Tuple.tupleExact _) (wpAny_newObj_type (wpAny_pure (wpAny_pure ⟨_, rfl, wpAny_pure h⟩)) big))
end
section
variable {X : Cx}
def tRevT (K : PySem.W.Frag) (te : TE) : TE := fun σ H Q => te σ H fun x H1 => ∃ a y z, x = .ref a ∧ SqT K H1 a [y, z] ∧ ∀ p, H1 p = none → Q (.ref p) (upd H1 p (.tup [z, y]))
theorem pe_revT {e : Expr} {te : TE} {k : Nat} {p1 p2 p3 pos : Pos} (he : PE X e te) : PE X (.Subscript e (.Slice none none (some (.UnaryOp .USub (.Constant (.int 1) k p1) p2)) p3) pos) (tRevT X.K te) := by
  refine ⟨fun pins s σ H Q I h => Subscript_ (thn (he.run pins s σ H _ I h) fun v s1 ⟨x, H1, I1, r1, a, y, z, ex, hx, q⟩ => ?_)⟩
  subst ex
  cases r1
  have step : PO X (some (.UnaryOp .USub (.Constant (.int 1) k p1) p2)) (tPart (tUn (rU fun i => .int (-i)) (tC (.int 1)))) := po_some (pe_un un_neg pe_int)
  refine wpAny_Slice (thn (po_none.run pins s1 σ H1 (fun o H2 => o = none ∧ H2 = H1) I1 ⟨rfl, rfl⟩) fun vl s2 ⟨l, H2, I2, pl, el, e2⟩ => ?_)
  subst el e2
  refine thn (po_none.run pins s2 σ H2 (fun o H3 => o = none ∧ H3 = H2) I2 ⟨rfl, rfl⟩) fun vu s3 ⟨u, H3, I3, pu, eu, e3⟩ => ?_
  subst eu e3
  refine thn (step.run pins s3 σ H3 (fun o H4 => o = some (-1) ∧ H4 = H3) I3 ⟨1, rfl, -1, rfl, rfl, rfl⟩) fun vs s4 ⟨o, H4, I4, ps, eo, e4⟩ => ?_
  subst eo e4
  cases pl
  cases pu
  cases ps with
  | int i tk =>
    have I5 : Inv X pins σ H4 { s4 with heap := s4.heap.push { cls := .type "slice", data := .fields #[.none, .none, .int (-1) tk] } } := I4.kept (t' := s4.toks) fun b ob q => Heap.get?_push_of_some _ q
    obtain ⟨its, r, ht, hz⟩ := I5.tuple hx
    cases r with
    | cons ry r =>
      cases r with
      | cons rz r =>
        cases r
        refine tail_any (ops := [.ref a, .ref s4.heap.objs.size]) ht.typeIs (PyProof.Rows.slot_tuple_getitem.lookup) ?_ (by with_unfolding_all rfl)
        refine rev_pair ht (Heap.IsSliceOf.new _ _ _ _) ⟨.ref _, _, I5.laid (t' := s4.toks) (o := .tup [z, y]) (fun b ob q => Heap.get?_push_of_some _ q) (Nat.le_refl _) ?_, rfl, q _ (I5.hok.fresh (Nat.le_refl _))⟩
        exact ⟨by show 2 ≤ sizeLine; rw [sizeLine_eq]; omega, _, .cons rz (.cons ry .nil), IsTup.new _ _⟩
end
end BF
set_option Elab.async false
set_option linter.all false
set_option maxRecDepth 100000
set_option maxHeartbeats 4000000
namespace BF
open PySem PySem.Spec PyProof.Rows L2
/-! ### rules that name the written part: K is said, so that they serve within comprehensions -/
section
variable {X : Cx}
theorem in_seqK (K : PySem.W.Frag) (h : X.K = K := by rfl) : OpR X (compareOp .In) (rIn K false) := by
  subst h
  exact op_in_seq
theorem notIn_seqK (K : PySem.W.Frag) (h : X.K = K := by rfl) : OpR X (compareOp .NotIn) (rIn K true) := by
  subst h
  exact op_notIn_seq
theorem isiK (K : PySem.W.Frag) (h : X.K = K := by rfl) : CallR X (.builtin "isinstance") (rIsi K) := by
  subst h
  exact call_isi
theorem lenK (K : PySem.W.Frag) (h : X.K = K := by rfl) : CallR X (.builtin "len") (fun xs H Q => ∃ x n, xs = [x] ∧ LenV K x H n ∧ Q (.int (n : Nat)) H) := by
  subst h
  exact call_len
theorem allK (K : PySem.W.Frag) (hc : X.calm = true) (h : X.K = K := by rfl) : CallR X (.builtin "all") (rAll K) := by
  subst h
  exact cr_all hc
theorem anyK (K : PySem.W.Frag) (hc : X.calm = true) (h : X.K = K := by rfl) : CallR X (.builtin "any") (rAny K) := by
  subst h
  exact cr_any hc
theorem sortedSK (K : PySem.W.Frag) (h : X.K = K := by rfl) : CallR X (.builtin "sorted") (rSortedS K) := by
  subst h
  exact cr_sortedS
theorem sortedTK (K : PySem.W.Frag) (h : X.K = K := by rfl) : CallR X (.builtin "sorted") (rSortT K) := by
  subst h
  exact cr_sortedTS
theorem listK (K : PySem.W.Frag) (h : X.K = K := by rfl) : CallR X (.type "list") (fun xs H Q => ∃ p ys, xs = [.ref p] ∧ (SqL K H p ys ∨ SqT K H p ys) ∧ ∀ l, H l = none → Q (.ref l) (upd H l (.lst ys))) := by
  subst h
  exact call_list_of
theorem tupleK (K : PySem.W.Frag) (h : X.K = K := by rfl) : CallR X (.type "tuple") (fun xs H Q => ∃ p ys, xs = [.ref p] ∧ ((SqL K H p ys ∧ ∀ l, H l = none → Q (.ref l) (upd H l (.tup ys))) ∨ (SqT K H p ys ∧ Q (.ref p) H))) := by
  subst h
  exact call_tuple_of
theorem dictPK (K : PySem.W.Frag) (hc : X.calm = true) (h : X.K = K := by rfl) : CallR X (.type "dict") (fun xs H Q => ∃ (a : Addr) (ps : List Addr) (kvs : List (Key × V)), xs = [.ref a] ∧ SqL K H a (ps.map V.ref) ∧
    Paired (fun p kv => SqT K H p [kV kv.1, kv.2]) ps kvs ∧ ∀ p, H p = none → Q (.ref p) (upd H p (.dK (mergeK [] kvs)))) := by
  subst h
  exact call_dictP hc
theorem ixLK (K : PySem.W.Frag) (h : X.K = K := by rfl) : IxR X (rIxL K) := by
  subst h
  exact ix_list
theorem ixTK (K : PySem.W.Frag) (h : X.K = K := by rfl) : IxR X (rIxT K) := by
  subst h
  exact ix_tup
theorem ixQK (K : PySem.W.Frag) (h : X.K = K := by rfl) : IxR X (rIx K) := by
  subst h
  exact ix_seq
theorem slLK (K : PySem.W.Frag) (h : X.K = K := by rfl) : SlR X (rSlL K) := by
  subst h
  exact sl_list
theorem slTK (K : PySem.W.Frag) (h : X.K = K := by rfl) : SlR X (rSlA K) := by
  subst h
  exact sl_tupA
theorem catTK (K : PySem.W.Frag) (h : X.K = K := by rfl) : OpR X (binaryOp .Add) (rCatA K) := by
  subst h
  exact op_catA
theorem eqDK {k : Nat} (K : PySem.W.Frag) (hr : Room k X.A) (h : X.K = K := by rfl) : OpR X (compareOp .Eq) (rEqD K) := by
  subst h
  exact op_eqD hr.units
theorem neDK {k : Nat} (K : PySem.W.Frag) (hr : Room k X.A) (h : X.K = K := by rfl) : OpR X (compareOp .NotEq) (rNeD K) := by
  subst h
  exact op_neD hr.units
theorem eqDDK {k : Nat} (K : PySem.W.Frag) (hr : Room k X.A) (h : X.K = K := by rfl) : OpR X (compareOp .Eq) (rEqDD K id) := by
  subst h
  exact op_eqDD (by have := hr.un; omega)
theorem neDDK {k : Nat} (K : PySem.W.Frag) (hr : Room k X.A) (h : X.K = K := by rfl) : OpR X (compareOp .NotEq) (rEqDD K not) := by
  subst h
  exact op_neDD (by have := hr.un; omega)
theorem pe_fldK (K : PySem.W.Frag) {e : Expr} {ta : TE} {f : Str} {pos : Pos} (he : PE X e ta) (hb : attributeBase e f X.env (eval e X.env) = eval e X.env) (h : X.K = K := by rfl) : PE X (.Attribute e f pos) (tFld K ta f) := by
  subst h
  exact pe_fld he hb
theorem pe_revTK (K : PySem.W.Frag) {e : Expr} {te : TE} {k : Nat} {p1 p2 p3 pos : Pos} (he : PE X e te) (h : X.K = K := by rfl) : PE X (.Subscript e (.Slice none none (some (.UnaryOp .USub (.Constant (.int 1) k p1) p2)) p3) pos) (tRevT K te) := by
  subst h
  exact pe_revT he
theorem pi_listK (K : PySem.W.Frag) {tg l : Expr} {tl : TE} (hl : PE X l tl) (h : X.K = K := by rfl) : PI X tg l (iList K tl) := by
  subst h
  exact pi_list hl
end
end BF
set_option Elab.async false
set_option linter.all false
set_option maxRecDepth 100000
set_option maxHeartbeats 4000000
namespace BF
open PySem PySem.Spec PyProof.Rows L2
/-! ### the same rules, the name's binding asked last: in a try's body the context is known late -/
section
variable {X : Cx} {k j : Nat} {C f : Addr} {x m : Str} {sp : Sp} {p pos apos : Pos} {e o : Expr} {es : List Expr} {ta : TE} {t : TA} {W : WX}
theorem pe_cS2 (c : CalX X.prog X.w X.K X.mg X.base k x sp) (hr : Room j X.A) (hk : k ≤ j) {E : L2.St → XK} (hx : ∀ σ, PassesAt (L2.CX X.prog X.w) X σ (E σ)) (ha : PA X (e :: es) t) (hg : Gl X x := by rfl)
    (hdb : (x == ("__debug__" : Str)) = false := by decide) (he : starEach (e :: es) X.env = (false, eval e X.env) :: starEach es X.env := by rfl) (hpl : (backTo pos (starEach es X.env)).any (·.1) = false := by rfl) :
    PE X (.Call (.Name x p) (e :: es) [] pos) (tCallS sp E t) := pe_cS c hr hk hg hx ha hdb he hpl
theorem pe_mkS2 (c : MakX X.prog X.w X.K X.mg X.base k x C sp) (hr : Room j X.A) (hk : k + 1 ≤ j) {E : L2.St → XK} (hx : ∀ σ, PassesAt (L2.CX X.prog X.w) X σ (E σ)) (ha : PA X (e :: es) t) (hg : Gl X x := by rfl)
    (hdb : (x == ("__debug__" : Str)) = false := by decide) (he : starEach (e :: es) X.env = (false, eval e X.env) :: starEach es X.env := by rfl) (hpl : (backTo pos (starEach es X.env)).any (·.1) = false := by rfl) :
    PE X (.Call (.Name x p) (e :: es) [] pos) (tMakeS C sp E t) := pe_mkS c hr hk hg hx ha hdb he hpl
end
end BF
set_option Elab.async false
set_option linter.all false
set_option maxRecDepth 100000
set_option maxHeartbeats 4000000
namespace BF
open PySem PySem.Spec PyProof.Rows L2
/-! ### the well: a list of three ints that draws change -/
def isW : HO → Bool
  | .lst [.int _, .int _, .int _] => true
  | _ => false
def WellAt (H : Hp) (w : Addr) : Prop := ∃ a b c : Int, H w = some (.lst [.int a, .int b, .int c])
/-- all but the well stands, the well is a well still -/
structure Kp (w : Addr) (H H' : Hp) : Prop where
  keep : ∀ b o, b ≠ w → H b = some o → H' b = some o
  well : WellAt H w → WellAt H' w
theorem WellAt.ne {H : Hp} {w p : Addr} (h : WellAt H w) (hp : H p = none) : p ≠ w := fun e => by
  obtain ⟨a, b, c, q⟩ := h
  rw [e, q] at hp
  cases hp
theorem WellAt.neo {H : Hp} {w p : Addr} {o : HO} (h : WellAt H w) (hp : H p = some o) (ho : isW o = false) : p ≠ w := fun e => by
  obtain ⟨a, b, c, q⟩ := h
  rw [e, q] at hp
  cases hp
  exact absurd ho (by simp [isW])
theorem Kp.refl (w : Addr) (H : Hp) : Kp w H H := ⟨fun _ _ _ h => h, id⟩
theorem Kp.trans {w : Addr} {H H1 H2 : Hp} (a : Kp w H H1) (b : Kp w H1 H2) : Kp w H H2 := ⟨fun c o n h => b.keep c o n (a.keep c o n h), fun h => b.well (a.well h)⟩
theorem Kp.same {w : Addr} {H H' : Hp} (s : Same H H') : Kp w H H' := ⟨fun c o _ h => s c o h, fun ⟨a, b, c, h⟩ => ⟨a, b, c, s _ _ h⟩⟩
theorem Kp.get {w : Addr} {H H' : Hp} (k : Kp w H H') (hw : WellAt H w) {p : Addr} {o : HO} (h : H p = some o) (ho : isW o = false := by rfl) : H' p = some o := k.keep p o (hw.neo h ho) h
theorem Kp.free {w : Addr} {H H' : Hp} (k : Kp w H H') (hw : WellAt H w) {p : Addr} (h : H' p = none) : H p = none := by
  have ne : p ≠ w := (k.well hw).ne h
  cases e : H p with
  | none => rfl
  | some o => rw [k.keep p o ne e] at h; cases h
/-- something new is laid -/
theorem Same.new {H : Hp} {p : Addr} {o : HO} (h : H p = none) : Same H (upd H p o) := fun b u e => by rw [upd_ne (ne_of_none e h)]; exact e
/-- what was laid since H is changed -/
theorem Same.put {H H1 : Hp} {p : Addr} {o : HO} (s : Same H H1) (h : H p = none) : Same H (upd H1 p o) := fun b u e => by rw [upd_ne (ne_of_none e h)]; exact s b u e
theorem Kp.put {w : Addr} {H H1 : Hp} {p : Addr} {o : HO} (k : Kp w H H1) (hw : WellAt H w) (h : H p = none) : Kp w H (upd H1 p o) :=
  have ne : p ≠ w := hw.ne h
  ⟨fun b u n e => by rw [upd_ne (ne_of_none e h)]; exact k.keep b u n e, fun q => by
    obtain ⟨a, b, c, z⟩ := k.well q
    exact ⟨a, b, c, by rw [upd_ne ne.symm]; exact z⟩⟩
theorem Kp.set {w : Addr} {H : Hp} {a b c : Int} : Kp w H (upd H w (.lst [.int a, .int b, .int c])) := ⟨fun p o n e => by rw [upd_ne n]; exact e, fun _ => ⟨a, b, c, upd_same⟩⟩
theorem WellAt.put {H : Hp} {w p : Addr} {o : HO} (h : WellAt H w) (ne : p ≠ w) : WellAt (upd H p o) w := by
  obtain ⟨a, b, c, z⟩ := h
  exact ⟨a, b, c, by rw [upd_ne ne.symm]; exact z⟩
theorem WellAt.same {H H' : Hp} {w : Addr} (h : WellAt H w) (s : Same H H') : WellAt H' w := by
  obtain ⟨a, b, c, z⟩ := h
  exact ⟨a, b, c, s _ _ z⟩
theorem isW_strs (xs : List Str) : isW (.lst (xs.map V.str)) = false := by
  match xs with
  | [] => rfl
  | [a] => rfl
  | [a, b] => rfl
  | [a, b, c] => rfl
  | a :: b :: c :: d :: r => rfl
/-! ### promises of the law's drawing -/
def spSource : Sp := fun vs H Q _ => ∃ c : Int, vs = [.int c] ∧ ∀ p H', H p = none → Same H H' → WellAt H' p → Q (.ref p) H'
def spDraw : Sp := fun vs H Q _ => ∃ (w : Addr) (m : Int), vs = [.ref w, .int m] ∧ WellAt H w ∧ 1 ≤ m ∧ m < 1073741824 ∧ ∀ n H', 0 ≤ n → n < m → Kp w H H' → Q (.int n) H'
/-- from a list that stands still, or a text -/
def spPick : Sp := fun vs H Q _ => ∃ (w : Addr) (x : V), vs = [.ref w, x] ∧ WellAt H w ∧
  ((∃ a xs, x = .ref a ∧ H a = some (.lst xs) ∧ isW (.lst xs) = false ∧ xs ≠ [] ∧ xs.length < 1000 ∧ ∀ v H', v ∈ xs → Kp w H H' → Q v H') ∨
   (∃ z : Str, x = .str z ∧ 1 ≤ z.length ∧ z.length < 1000 ∧ ∀ c H', c ∈ z.cps.toList → Kp w H H' → Q (.str ⟨#[c]⟩) H'))
theorem atI_of {xs : List V} {n : Int} (h0 : 0 ≤ n) (h : n.toNat < xs.length) : atI xs n = some xs[n.toNat] := by
  have q : atI xs ((n.toNat : Nat) : Int) = some xs[n.toNat] := atI_nat (by simp)
  rw [Int.toNat_of_nonneg h0] at q
  exact q
theorem atN_of {xs : List Nat} {n : Int} (h0 : 0 ≤ n) (h : n.toNat < xs.length) : atI xs n = some xs[n.toNat] := by
  have q : atI xs ((n.toNat : Nat) : Int) = some xs[n.toNat] := atI_nat (by simp)
  rw [Int.toNat_of_nonneg h0] at q
  exact q
/-! ### names -/
def isLow (c : Nat) : Bool := decide (97 ≤ c) && decide (c ≤ 122)
def isNm (x : Str) : Bool := decide (1 ≤ x.length) && decide (x.length ≤ 8) && x.cps.toList.all isLow
def letters : Str := "abcdefghijklmnopqrstuvwxyz"
theorem letters_list : letters.cps.toList = List.range' 97 26 := by decide +kernel
theorem letters_mem (c : Nat) : c ∈ letters.cps.toList ↔ isLow c = true := by
  rw [letters_list, List.mem_range']
  unfold isLow
  simp only [Bool.and_eq_true, decide_eq_true_eq]
  constructor
  · rintro ⟨i, h1, h2⟩
    omega
  · intro ⟨h1, h2⟩
    exact ⟨c - 97, by omega, by omega⟩
theorem letters_len : letters.length = 26 := by decide +kernel
theorem joinL_nil (cs : List Nat) : TL.joinL [] (cs.map fun c => [c]) = cs := by
  match cs with
  | [] => rfl
  | [c] => rfl
  | c :: d :: r =>
    have ih := joinL_nil (d :: r)
    show [c] ++ ([] ++ TL.joinL [] (([d] : List Nat) :: r.map fun c => [c])) = c :: d :: r
    have e : TL.joinL [] (([d] : List Nat) :: r.map fun c => [c]) = d :: r := ih
    rw [e]
    rfl
theorem bf_join (cs : List Nat) : Txt.join (Str.ofString "") ((cs.map fun c => [c]).map SX.S) = SX.S cs := by
  have e : Str.ofString "" = SX.S [] := by decide +kernel
  rw [e, SX.join_S, joinL_nil]
theorem slice_8 {cs : List Nat} (h : cs.length ≤ 8) : Txt.slice (SX.S cs) none (some 8) = SX.S cs := by
  rw [SX.slice_to (by omega)]
  congr 1
  exact List.take_of_length_le (by show cs.length ≤ 8; exact h)
theorem bf_sum (cs : List Nat) : (((cs.map fun c => [c]).map SX.S).map (·.length)).sum = cs.length := by
  rw [SX.lens]
  induction cs with
  | nil => rfl
  | cons c r ih =>
    simp only [List.map_cons, List.sum_cons, ih, List.length_cons, List.length_nil]
    omega
theorem flat_strs (xs : List Str) : (xs.map V.str).all flatV = true := by
  rw [List.all_eq_true]
  intro x hx
  obtain ⟨y, _, rfl⟩ := List.mem_map.mp hx
  rfl
/-- a short word: at most seven of the letters, one at least, not six -/
def Short (x : Str) : Prop := isNm x = true ∧ x.length ≤ 7 ∧ x.length ≠ 6
theorem short_of {cs : List Nat} (h1 : 1 ≤ cs.length) (h2 : cs.length ≤ 7) (h6 : cs.length ≠ 6) (h3 : ∀ c ∈ cs, isLow c = true) : Short (SX.S cs) := by
  have e : (SX.S cs).cps.toList = cs := rfl
  refine ⟨?_, by rw [SX.S_len]; exact ⟨h2, h6⟩⟩
  unfold isNm
  rw [SX.S_len, e]
  simp only [Bool.and_eq_true, decide_eq_true_eq, List.all_eq_true]
  exact ⟨⟨h1, by omega⟩, h3⟩
/-- the join of single letters, cut at 8 -/
theorem word_of {cs : List Nat} (h2 : cs.length ≤ 7) : Txt.slice (Txt.join (SX.S []) ((cs.map fun c => [c]).map SX.S)) none (some 8) = SX.S cs := by
  rw [SX.join_S, joinL_nil, SX.slice_to (by omega)]
  congr 1
  exact List.take_of_length_le (by show cs.length ≤ 8; omega)
def spNames : Sp := fun vs H Q _ => ∃ (w : Addr) (m : Int), vs = [.ref w, .int m] ∧ WellAt H w ∧ 0 ≤ m ∧ m ≤ 1000 ∧
  ∀ p (xs : List Str) H', H p = none → Kp w H H' → H' p = some (.lst (xs.map V.str)) → (xs.length : Int) = m → (∀ x ∈ xs, Short x) → Q (.ref p) H'
/-- of a list that stands still, or of a dict's keys -/
def spShuffled : Sp := fun vs H Q _ => ∃ (w a : Addr) (xs : List V), vs = [.ref w, .ref a] ∧ WellAt H w ∧ H a = some (.lst xs) ∧ isW (.lst xs) = false ∧ xs.length ≤ 1000 ∧
  ∀ p ys H', H p = none → Kp w H H' → H' p = some (.lst ys) → ys.Perm xs → Q (.ref p) H'
def spShuffledD : Sp := fun vs H Q _ => ∃ (w a : Addr) (kvs : List (Key × V)), vs = [.ref w, .ref a] ∧ WellAt H w ∧ H a = some (.dK kvs) ∧ kvs.length ≤ 1000 ∧
  ∀ p ys H', H p = none → Kp w H H' → H' p = some (.lst ys) → ys.Perm (kvs.map fun kv => kV kv.1) → Q (.ref p) H'
def spIsName : Sp := fun vs H Q _ => ∃ x : Str, vs = [.str x] ∧ x.length ≤ 1000 ∧ ∀ H', Same H H' → Q (.bl (isNm x)) H'
theorem in_letters (c : Nat) : decide (c ∈ (Str.ofString "abcdefghijklmnopqrstuvwxyz").cps.toList) = isLow c := by
  cases e : isLow c with
  | true => exact decide_eq_true ((letters_mem c).mpr e)
  | false => exact decide_eq_false fun h => by rw [(letters_mem c).mp h] at e; cases e
theorem one_lt (a b : Nat) : (([a] : List Nat) < [b]) ↔ a < b := by
  constructor
  · intro h
    cases h with
    | rel h => exact h
    | cons h => cases h
  · intro h
    exact List.Lex.rel h
theorem from_a (c : Nat) : (!decide ((⟨#[c]⟩ : Str).cps.toList < (Str.ofString "a").cps.toList)) = decide (97 ≤ c) := by
  have e : (Str.ofString "a").cps.toList = [97] := by decide +kernel
  rw [e]
  show (!decide (([c] : List Nat) < [97])) = _
  by_cases h : 97 ≤ c
  · rw [decide_eq_true h, decide_eq_false (fun q => by have := (one_lt c 97).mp q; omega)]
    rfl
  · rw [decide_eq_false h, decide_eq_true ((one_lt c 97).mpr (by omega))]
    rfl
theorem to_z (c : Nat) : (!decide ((Str.ofString "z").cps.toList < (⟨#[c]⟩ : Str).cps.toList)) = decide (c ≤ 122) := by
  have e : (Str.ofString "z").cps.toList = [122] := by decide +kernel
  rw [e]
  show (!decide (([122] : List Nat) < [c])) = _
  by_cases h : c ≤ 122
  · rw [decide_eq_true h, decide_eq_false (fun q => by have := (one_lt 122 c).mp q; omega)]
    rfl
  · rw [decide_eq_false h, decide_eq_true ((one_lt 122 c).mpr (by omega))]
    rfl
theorem isNm_true {x : Str} (h1 : 1 ≤ x.length) (h2 : x.length ≤ 8) : isNm x = (x.cps.toList.map isLow).all id := by
  unfold isNm
  rw [decide_eq_true h1, decide_eq_true h2, List.all_map]
  rfl
theorem isNm_no {x : Str} (h : ¬ (1 ≤ x.length ∧ x.length ≤ 8)) : isNm x = false := by
  unfold isNm
  by_cases h1 : 1 ≤ x.length
  · rw [decide_eq_false (fun h2 => h ⟨h1, h2⟩)]
    simp
  · rw [decide_eq_false h1]
    simp
theorem take_snoc {α β : Type} (f : α → β) {l : List α} {i : Nat} {c : α} (h : l[i]? = some c) : (l.take (i + 1)).map f = (l.take i).map f ++ [f c] := by
  rw [List.take_succ, h]
  simp
theorem erase_perm {α : Type} : ∀ {l : List α} {i : Nat} (h : i < l.length), (l[i] :: l.eraseIdx i).Perm l
  | a :: l, 0, _ => List.Perm.refl _
  | a :: l, i + 1, h => by
    have ih := erase_perm (l := l) (i := i) (by simpa using h)
    have hi : i < l.length := by simpa using h
    show (l[i] :: a :: l.eraseIdx i).Perm (a :: l)
    exact (List.Perm.swap _ _ _).trans (List.Perm.cons _ ih)
/-! ### the first wrong entry of a list of names -/
def okAt (xs : List Str) (k : Nat) : Bool := match xs[k]? with
  | some x => isNm x && !decide (x ∈ xs.take k)
  | none => true
def fwF (xs : List Str) : Option Nat := (List.range xs.length).find? fun k => !okAt xs k
theorem fw_none {xs : List Str} (h : ∀ k, k < xs.length → okAt xs k = true) : fwF xs = none := by
  unfold fwF
  rw [List.find?_eq_none]
  intro k hk
  rw [h k (List.mem_range.mp hk)]
  simp
theorem fw_some {xs : List Str} {k : Nat} (h1 : k < xs.length) (h2 : okAt xs k = false) (h3 : ∀ j, j < k → okAt xs j = true) : fwF xs = some k := by
  unfold fwF
  rw [List.find?_range_eq_some]
  refine ⟨by rw [h2]; rfl, List.mem_range.mpr h1, fun j hj => by rw [h3 j hj]; rfl⟩
theorem fw_ok {xs : List Str} (h : fwF xs = none) {k : Nat} (hk : k < xs.length) : okAt xs k = true := by
  unfold fwF at h
  rw [List.find?_eq_none] at h
  have := h k (List.mem_range.mpr hk)
  simpa using this
def fwV (xs : List Str) : V := match fwF xs with
  | none => .non
  | some k => .int (k : Nat)
/-- first_wrong(entries, is_name), is_name being the def at f -/
def spFirst (f : Addr) : Sp := fun vs H Q _ => ∃ (a : Addr) (xs : List Str), vs = [.ref a, .ref f] ∧ H a = some (.lst (xs.map V.str)) ∧ xs.length ≤ 1000 ∧ (∀ x ∈ xs, x.length ≤ 1000) ∧ ∀ H', Same H H' → Q (fwV xs) H'
/-! ### readings in one step -/
section
variable {K : PySem.W.Frag} {H : Hp} {Q : VK}
theorem len_s {z : Str} (h : z.length ≤ 1000) (q : Q (.int z.length) H) : ∃ x n, [V.str z] = [x] ∧ LenV K x H n ∧ Q (.int (n : Nat)) H := ⟨_, _, rfl, ⟨by rw [sizeLine_eq]; omega, rfl⟩, q⟩
theorem len_l {a : Addr} {xs : List V} (h : H a = some (.lst xs)) (q : Q (.int xs.length) H) : ∃ x n, [V.ref a] = [x] ∧ LenV K x H n ∧ Q (.int (n : Nat)) H := ⟨_, _, rfl, .inl ⟨_, SqL.of h, rfl⟩, q⟩
theorem len_t {a : Addr} {xs : List V} (h : H a = some (.tup xs)) (q : Q (.int xs.length) H) : ∃ x n, [V.ref a] = [x] ∧ LenV K x H n ∧ Q (.int (n : Nat)) H := ⟨_, _, rfl, .inr ⟨_, SqT.of h, rfl⟩, q⟩
theorem isi_ss {z : Str} (q : Q (.bl true) H) : rIsi K [.str z, .ty "str"] H Q := ⟨_, _, _, _, true, rfl, .ty _, .base (.str _), kit_ty (by decide +kernel), q⟩
end
end BF
set_option Elab.async false
set_option linter.all false
set_option maxRecDepth 100000
set_option maxHeartbeats 4000000
namespace BF
open PySem PySem.Spec PyProof.Rows L2
/-! ### texts in order -/
def leS (a b : Str) : Bool := !decide (b.cps.toList < a.cps.toList)
theorem leS_iff (a b : Str) : leS a b = true ↔ a.cps.toList ≤ b.cps.toList := by
  unfold leS
  rw [Bool.not_eq_true', decide_eq_false_iff_not, List.not_lt]
theorem leS_trans (a b c : Str) (h1 : leS a b = true) (h2 : leS b c = true) : leS a c = true := (leS_iff a c).mpr (List.le_trans ((leS_iff a b).mp h1) ((leS_iff b c).mp h2))
theorem leS_total (a b : Str) : (leS a b || leS b a) = true := by
  rw [Bool.or_eq_true, leS_iff, leS_iff]
  exact List.le_total _ _
theorem str_ext {a b : Str} (h : a.cps.toList = b.cps.toList) : a = b := by
  cases a
  cases b
  simp only at h
  congr
  exact Array.toList_inj.mp h
theorem leS_anti (a b : Str) (h1 : leS a b = true) (h2 : leS b a = true) : a = b := str_ext (List.le_antisymm ((leS_iff a b).mp h1) ((leS_iff b a).mp h2))
def sortS (xs : List Str) : List Str := xs.mergeSort leS
theorem rising_all : ∀ (r : List Str) (p : Str), risingS p r = true → (p :: r).Pairwise fun a b => leS a b = true
  | [], p, _ => List.pairwise_singleton _ _
  | x :: r, p, h => by
    unfold risingS at h
    rw [Bool.and_eq_true] at h
    have h1 : leS p x = true := by
      have := h.1
      rw [ltCps_eq] at this
      exact this
    have ih := rising_all r x h.2
    refine List.pairwise_cons.mpr ⟨fun y hy => ?_, ih⟩
    rcases List.mem_cons.mp hy with rfl | hy
    · exact h1
    · exact leS_trans _ _ _ h1 ((List.pairwise_cons.mp ih).1 y hy)
theorem sortS_eq {xs ys : List Str} (p : ys.Perm xs) (h : sortedS ys = true) : ys = sortS xs := by
  have h1 : ys.Pairwise fun a b => leS a b = true := by
    cases ys with
    | nil => exact List.Pairwise.nil
    | cons y r => exact rising_all r y h
  have h2 : (sortS xs).Pairwise fun a b => leS a b = true := List.pairwise_mergeSort (le := leS) leS_trans leS_total xs
  exact List.Perm.eq_of_pairwise (le := fun a b => leS a b = true) (fun a b _ _ x y => leS_anti a b x y) h1 h2 (p.trans (List.mergeSort_perm xs leS).symm)
theorem sortS_perm (xs : List Str) : (sortS xs).Perm xs := List.mergeSort_perm xs leS
theorem sortS_length (xs : List Str) : (sortS xs).length = xs.length := (sortS_perm xs).length_eq
theorem sortS_of_perm {xs ys : List Str} (p : xs.Perm ys) : sortS xs = sortS ys := by
  have h1 : (sortS xs).Pairwise fun a b => leS a b = true := List.pairwise_mergeSort (le := leS) leS_trans leS_total xs
  have h2 : (sortS ys).Pairwise fun a b => leS a b = true := List.pairwise_mergeSort (le := leS) leS_trans leS_total ys
  exact List.Perm.eq_of_pairwise (le := fun a b => leS a b = true) (fun a b _ _ x y => leS_anti a b x y) h1 h2 ((sortS_perm xs).trans (p.trans (sortS_perm ys).symm))

/-! ### values that may be a pair of places -/
inductive TV where
  | ends (a b : Str)
  | junk
def tvOf : Option Str → Option Str → TV
  | some a, some b => .ends a b
  | _, _ => .junk
/-- a text, or surely none -/
inductive IsS (K : PySem.W.Frag) (H : Hp) : V → Option Str → Prop
  | str (z : Str) : IsS K H (.str z) (some z)
  | no {x : V} {t : Value} (h : TyX K H x t) (k : PySem.W.kitOne K t (.type "str") = some false) : IsS K H x none
inductive TVr (K : PySem.W.Frag) (H : Hp) : V → TV → Prop
  | no {x : V} {t : Value} (h : TyX K H x t) (k : PySem.W.kitOne K t (.type "tuple") = some false) : TVr K H x .junk
  | long {p : Addr} {xs : List V} (h : H p = some (.tup xs)) (n : xs.length ≠ 2) : TVr K H (.ref p) .junk
  | pair {p : Addr} {x y : V} {a b : Option Str} (h : H p = some (.tup [x, y])) (hx : IsS K H x a) (hy : IsS K H y b) : TVr K H (.ref p) (tvOf a b)
theorem _root_.L2.TyX.kp {K : PySem.W.Frag} {H H' : Hp} {w : Addr} {x : V} {t : Value} (h : TyX K H x t) (k : Kp w H H') (hw : WellAt H w) : TyX K H' x t := by
  cases h with
  | base b =>
    cases b with
    | non => exact .base .non
    | bl x => exact .base (.bl x)
    | int i => exact .base (.int i)
    | str x => exact .base (.str x)
    | flt x => exact .base (.flt x)
    | @lst a xs e =>
      by_cases ea : a = w
      · subst ea
        obtain ⟨p, q, r, z⟩ := k.well hw
        exact .base (.lst z)
      · exact .base (.lst (k.keep _ _ ea e))
    | frz e => exact .base (.frz (k.get hw e))
    | tup e => exact .base (.tup (k.get hw e))
    | dK e => exact .base (.dK (k.get hw e))
    | dT e => exact .base (.dT (k.get hw e))
    | ins e cl ha hn htk hm => exact .base (.ins (k.get hw e) cl ha hn htk hm)
  | byt b => exact .byt b
  | set e => exact .set (k.get hw e)
  | kList e c => exact .kList e c
  | kTuple e c => exact .kTuple e c
  | kDict e c => exact .kDict e c
  | fTuple e => exact .fTuple (k.get hw e)
  | fDict e => exact .fDict (k.get hw e)
theorem _root_.L2.TyX.same {K : PySem.W.Frag} {H H' : Hp} {x : V} {t : Value} (h : TyX K H x t) (s : Same H H') : TyX K H' x t := by
  cases h with
  | base b =>
    cases b with
    | non => exact .base .non
    | bl x => exact .base (.bl x)
    | int i => exact .base (.int i)
    | str x => exact .base (.str x)
    | flt x => exact .base (.flt x)
    | lst e => exact .base (.lst (s _ _ e))
    | frz e => exact .base (.frz (s _ _ e))
    | tup e => exact .base (.tup (s _ _ e))
    | dK e => exact .base (.dK (s _ _ e))
    | dT e => exact .base (.dT (s _ _ e))
    | ins e cl ha hn htk hm => exact .base (.ins (s _ _ e) cl ha hn htk hm)
  | byt b => exact .byt b
  | set e => exact .set (s _ _ e)
  | kList e c => exact .kList e c
  | kTuple e c => exact .kTuple e c
  | kDict e c => exact .kDict e c
  | fTuple e => exact .fTuple (s _ _ e)
  | fDict e => exact .fDict (s _ _ e)
theorem IsS.kp {K : PySem.W.Frag} {H H' : Hp} {w : Addr} {x : V} {o : Option Str} (h : IsS K H x o) (k : Kp w H H') (hw : WellAt H w) : IsS K H' x o := by
  cases h with
  | str z => exact .str z
  | no h e => exact .no (h.kp k hw) e
theorem IsS.same {K : PySem.W.Frag} {H H' : Hp} {x : V} {o : Option Str} (h : IsS K H x o) (s : Same H H') : IsS K H' x o := by
  cases h with
  | str z => exact .str z
  | no h e => exact .no (h.same s) e
theorem TVr.kp {K : PySem.W.Frag} {H H' : Hp} {w : Addr} {x : V} {o : TV} (h : TVr K H x o) (k : Kp w H H') (hw : WellAt H w) : TVr K H' x o := by
  cases h with
  | no h e => exact .no (h.kp k hw) e
  | long h n => exact .long (k.get hw h) n
  | pair h hx hy => exact .pair (k.get hw h) (hx.kp k hw) (hy.kp k hw)
theorem TVr.same {K : PySem.W.Frag} {H H' : Hp} {x : V} {o : TV} (h : TVr K H x o) (s : Same H H') : TVr K H' x o := by
  cases h with
  | no h e => exact .no (h.same s) e
  | long h n => exact .long (s _ _ h) n
  | pair h hx hy => exact .pair (s _ _ h) (hx.same s) (hy.same s)
theorem TVr.ends {K : PySem.W.Frag} {H : Hp} {p : Addr} {a b : Str} (h : H p = some (.tup [.str a, .str b])) : TVr K H (.ref p) (.ends a b) := TVr.pair (a := some a) (b := some b) h (.str a) (.str b)
theorem TVr.get {K : PySem.W.Frag} {H : Hp} {x : V} {a b : Str} (h : TVr K H x (.ends a b)) : ∃ p, x = .ref p ∧ H p = some (.tup [.str a, .str b]) := by
  generalize ht : TV.ends a b = t at h
  cases h with
  | no h e => cases ht
  | long h n => cases ht
  | @pair p x y oa ob h hx hy =>
    cases hx with
    | no _ _ => cases ht
    | str u =>
      cases hy with
      | no _ _ => cases ht
      | str v =>
        cases ht
        exact ⟨p, rfl, h⟩
/-! ### dicts of such -/
abbrev Tie (K : PySem.W.Frag) (H : Hp) : Key × V → Str × TV → Prop := fun p e => p.1 = .inr e.1 ∧ TVr K H p.2 e.2
structure TiesR (K : PySem.W.Frag) (H : Hp) (d : Addr) (es : List (Str × TV)) : Prop where
  ex : ∃ kvs, H d = some (.dK kvs) ∧ Paired (Tie K H) kvs es
  nd : (es.map (·.1)).Nodup
def lkE (es : List (Str × TV)) (n : Str) : Option TV := (es.find? fun e => decide (e.1 = n)).map (·.2)
theorem Paired.imp {α β : Type} {F G : α → β → Prop} (h : ∀ a b, F a b → G a b) : ∀ {xs : List α} {ys : List β}, Paired F xs ys → Paired G xs ys
  | _, _, .nil => .nil
  | _, _, .cons p t => .cons (h _ _ p) (Paired.imp h t)
theorem tie_keys {K : PySem.W.Frag} {H : Hp} : ∀ {kvs : List (Key × V)} {es : List (Str × TV)}, Paired (Tie K H) kvs es → kvs.map (·.1) = (es.map (·.1)).map Sum.inr
  | _, _, .nil => rfl
  | _, _, .cons p t => by rw [List.map_cons, List.map_cons, List.map_cons, tie_keys t, p.1]
theorem tie_get {K : PySem.W.Frag} {H : Hp} {n : Str} : ∀ {kvs : List (Key × V)} {es : List (Str × TV)}, Paired (Tie K H) kvs es → n ∈ es.map (·.1) → ∃ v tv, valV kvs (.inr n) = some v ∧ lkE es n = some tv ∧ TVr K H v tv
  | _, _, .nil, h => by cases h
  | (k, v) :: kvs, (m, tv) :: es, .cons p t, h => by
    obtain ⟨e, r⟩ := p
    have e : k = Sum.inr m := e
    subst e
    by_cases hm : m = n
    · subst hm
      exact ⟨v, tv, valV_pos rfl, by simp [lkE], r⟩
    · obtain ⟨v', tv', h1, h2, h3⟩ := tie_get t ((List.mem_cons.mp h).resolve_left fun q => hm q.symm)
      exact ⟨v', tv', by rw [valV_neg (fun q => hm (Sum.inr.inj q))]; exact h1, by simpa [lkE, hm] using h2, h3⟩
theorem TiesR.kp {K : PySem.W.Frag} {H H' : Hp} {w d : Addr} {es : List (Str × TV)} (h : TiesR K H d es) (k : Kp w H H') (hw : WellAt H w) : TiesR K H' d es := by
  obtain ⟨⟨kvs, e, p⟩, nd⟩ := h
  exact ⟨⟨kvs, k.get hw e, Paired.imp (fun a b q => ⟨q.1, q.2.kp k hw⟩) p⟩, nd⟩
theorem TiesR.same {K : PySem.W.Frag} {H H' : Hp} {d : Addr} {es : List (Str × TV)} (h : TiesR K H d es) (s : Same H H') : TiesR K H' d es := by
  obtain ⟨⟨kvs, e, p⟩, nd⟩ := h
  exact ⟨⟨kvs, s _ _ e, Paired.imp (fun a b q => ⟨q.1, q.2.same s⟩) p⟩, nd⟩
/-! ### what is due -/
inductive Due where
  | places (k : Int)
  | ties (n : Str)
  | many
def goodT (ps : List Str) : TV → Bool
  | .ends a b => decide (a ∈ ps) && decide (b ∈ ps)
  | .junk => false
def goodE (ps : List Str) (es : List (Str × TV)) (n : Str) : Bool := isNm n && match lkE es n with
  | some tv => goodT ps tv
  | none => false
/-- the first wrong thing of places: its index, or -1 -/
def plF (ps : List Str) : Option Int := if 1 ≤ ps.length ∧ ps.length ≤ 16 then (fwF ps).map (fun k => (k : Int)) else some (-1)
def tiF (ps : List Str) (es : List (Str × TV)) : Option Str := (sortS (es.map (·.1))).find? fun n => !goodE ps es n
def dueOf (ps : List Str) (es : List (Str × TV)) : Option Due := match plF ps with
  | some k => some (.places k)
  | none => match tiF ps es with
    | some n => some (.ties n)
    | none => if 24 < es.length then some .many else none
def srt2 (a b : Str) : Str × Str := if leS a b = true then (a, b) else (b, a)
theorem sortS_two (a b : Str) : sortS [a, b] = [(srt2 a b).1, (srt2 a b).2] := by
  unfold srt2
  split
  · rename_i h
    refine (sortS_eq (List.Perm.refl _) ?_).symm
    show (!ltCps b.cps.toList a.cps.toList && true) = true
    rw [ltCps_eq, Bool.and_true]
    exact h
  · rename_i h
    refine (sortS_eq (List.Perm.swap _ _ _) ?_).symm
    show (!ltCps a.cps.toList b.cps.toList && true) = true
    rw [ltCps_eq, Bool.and_true]
    have := leS_total a b
    rw [Bool.or_eq_true] at this
    exact this.resolve_left h
def endsOf (es : List (Str × TV)) (n : Str) : Str × Str := match lkE es n with
  | some (.ends a b) => srt2 a b
  | _ => (n, n)
def webTies (es : List (Str × TV)) : List (Str × Str × Str) := (sortS (es.map (·.1))).map fun n => (n, endsOf es n)
theorem inV_strs (z : Str) (ps : List Str) : inV (.str z) (ps.map V.str) = decide (z ∈ ps) := by
  induction ps with
  | nil => rfl
  | cons p r ih =>
    unfold inV at ih ⊢
    rw [List.map_cons, List.any_cons, ih]
    show (decide (p = z) || decide (z ∈ r)) = _
    by_cases h : p = z
    · subst h
      simp
    · have h' : ¬ z = p := fun e => h e.symm
      simp [h, h']
def inO (ps : List Str) : Option Str → Bool
  | some z => decide (z ∈ ps)
  | none => false
theorem goodT_of (ps : List Str) (a b : Option Str) : goodT ps (tvOf a b) = ([inO ps a, inO ps b]).all id := by
  cases a with
  | none => rfl
  | some a =>
    cases b with
    | none => simp [tvOf, goodT, inO]
    | some b => simp [tvOf, goodT, inO]
end BF
set_option Elab.async false
set_option linter.all false
set_option maxRecDepth 100000
set_option maxHeartbeats 4000000
namespace BF
open PySem PySem.Spec PyProof.Rows L2
theorem dget_s {H : Hp} {a : Addr} {kvs : List (Key × V)} {n : Str} {v : V} (e : Rd H a (.dK kvs)) (h : valV kvs (.inr n) = some v) : DGet H a (.str n) (some v) := .inl ⟨kvs, .inr n, e, rfl, h.symm⟩
/-- pairs of texts under a key -/
abbrev Tup2 (H : Hp) : Key × V → Str × Str × Str → Prop := fun p e => p.1 = .inr e.1 ∧ ∃ t, p.2 = .ref t ∧ H t = some (.tup [.str e.2.1, .str e.2.2])
theorem tup2_mono {H H' : Hp} (hs : ∀ t xs, H t = some (.tup xs) → H' t = some (.tup xs)) {kvs : List (Key × V)} {ts : List (Str × Str × Str)} (h : Paired (Tup2 H) kvs ts) : Paired (Tup2 H') kvs ts :=
  Paired.imp (fun _ _ ⟨e, t, e2, q⟩ => ⟨e, t, e2, hs _ _ q⟩) h
theorem Paired.snoc {α β : Type} {F : α → β → Prop} {a : α} {b : β} (f : F a b) : ∀ {xs : List α} {ys : List β}, Paired F xs ys → Paired F (xs ++ [a]) (ys ++ [b])
  | _, _, .nil => .cons f .nil
  | _, _, .cons p t => .cons p (Paired.snoc f t)
theorem keys2 {H : Hp} : ∀ {kvs : List (Key × V)} {ts : List (Str × Str × Str)}, Paired (Tup2 H) kvs ts → kvs.map (·.1) = (ts.map (·.1)).map Sum.inr
  | _, _, .nil => rfl
  | _, _, .cons p t => by rw [List.map_cons, List.map_cons, List.map_cons, keys2 t, p.1]
theorem valV_none {kvs : List (Key × V)} {k : Key} (h : k ∉ kvs.map (·.1)) : valV kvs k = none := by
  unfold valV
  rw [List.find?_eq_none.mpr (fun p hp => by simp only [decide_eq_true_eq]; exact fun e => h (List.mem_map.mpr ⟨p, hp, e⟩))]
  rfl
theorem get2 {H : Hp} {n : Str} {e : Str × Str} : ∀ {kvs : List (Key × V)} {ts : List (Str × Str × Str)}, Paired (Tup2 H) kvs ts → (ts.map (·.1)).Nodup → (n, e) ∈ ts → ∃ t, valV kvs (.inr n) = some (.ref t) ∧ H t = some (.tup [.str e.1, .str e.2])
  | _, _, .nil, _, h => by cases h
  | (k, v) :: kvs, (m, f) :: ts, .cons p t, nd, h => by
    obtain ⟨e1, q, e2, hq⟩ := p
    have e1 : k = Sum.inr m := e1
    have e2 : v = .ref q := e2
    subst e1 e2
    have nd : (m :: ts.map (·.1)).Nodup := nd
    rcases List.mem_cons.mp h with h | h
    · cases h
      exact ⟨q, valV_pos rfl, hq⟩
    · have hm : ¬ m = n := fun e => (List.nodup_cons.mp nd).1 (List.mem_map.mpr ⟨_, h, e.symm⟩)
      obtain ⟨t', h1, h2⟩ := get2 t (List.nodup_cons.mp nd).2 h
      exact ⟨t', by rw [valV_neg (fun q => hm (Sum.inr.inj q))]; exact h1, h2⟩
theorem goodT_perm {ps qs : List Str} (h : ∀ x, x ∈ ps ↔ x ∈ qs) (tv : TV) : goodT ps tv = goodT qs tv := by
  cases tv with
  | junk => rfl
  | ends a b => simp [goodT, h]
theorem tiF_perm {ps qs : List Str} (h : ∀ x, x ∈ ps ↔ x ∈ qs) (es : List (Str × TV)) : tiF ps es = tiF qs es := by
  have e : goodE ps es = goodE qs es := by
    funext n
    unfold goodE
    cases lkE es n with
    | none => rfl
    | some tv => simp only [goodT_perm h tv]
  unfold tiF
  rw [e]
theorem mem_sortS (xs : List Str) (x : Str) : x ∈ sortS xs ↔ x ∈ xs := (sortS_perm xs).mem_iff
theorem tiF_some {ps : List Str} {es : List (Str × TV)} {i : Nat} {n : Str} (h : (sortS (es.map (·.1)))[i]? = some n) (hb : goodE ps es n = false) (hok : ∀ j, j < i → ∀ m, (sortS (es.map (·.1)))[j]? = some m → goodE ps es m = true) : tiF ps es = some n := by
  unfold tiF
  rw [List.find?_eq_some_iff_getElem]
  obtain ⟨hi, e⟩ := List.getElem?_eq_some_iff.mp h
  refine ⟨by rw [hb]; rfl, i, hi, e, fun j hj => ?_⟩
  rw [hok j hj _ (List.getElem?_eq_getElem (by omega))]
  rfl
theorem tiF_none {ps : List Str} {es : List (Str × TV)} (hok : ∀ j, j < es.length → ∀ m, (sortS (es.map (·.1)))[j]? = some m → goodE ps es m = true) : tiF ps es = none := by
  unfold tiF
  rw [List.find?_eq_none]
  intro n hn
  obtain ⟨j, hj, e⟩ := List.mem_iff_getElem.mp hn
  have hj' : j < es.length := by
    rw [sortS_length, List.length_map] at hj
    exact hj
  rw [hok j hj' n (by rw [← e]; exact List.getElem?_eq_getElem hj)]
  simp
theorem goodE_of {ps : List Str} {es : List (Str × TV)} {n : Str} {tv : TV} (h : lkE es n = some tv) : goodE ps es n = (isNm n && goodT ps tv) := by
  unfold goodE
  rw [h]
theorem goodE_ends {ps : List Str} {es : List (Str × TV)} {n : Str} (h : goodE ps es n = true) : isNm n = true ∧ ∃ a b, lkE es n = some (.ends a b) ∧ a ∈ ps ∧ b ∈ ps := by
  unfold goodE at h
  rw [Bool.and_eq_true] at h
  obtain ⟨h1, h2⟩ := h
  refine ⟨h1, ?_⟩
  cases e : lkE es n with
  | none => rw [e] at h2; cases h2
  | some tv =>
    rw [e] at h2
    cases tv with
    | junk => cases h2
    | ends a b =>
      simp [goodT] at h2
      exact ⟨a, b, rfl, h2.1, h2.2⟩
theorem endsOf_eq {es : List (Str × TV)} {n a b : Str} (h : lkE es n = some (.ends a b)) : endsOf es n = srt2 a b := by
  unfold endsOf
  rw [h]
theorem nodup_sortS {xs : List Str} (h : xs.Nodup) : (sortS xs).Nodup := (sortS_perm xs).nodup_iff.mpr h
end BF
set_option Elab.async false
set_option linter.all false
set_option maxRecDepth 100000
set_option maxHeartbeats 4000000
namespace BF
open PySem PySem.Spec PyProof.Rows L2
/-! ### lists of texts and ties as data -/
theorem dpAll_strs {K : PySem.W.Frag} {H : Hp} : ∀ ps : List Str, DpAll K H (ps.map V.str) (ps.map PyData.str)
  | [] => .nil
  | p :: r => .cons (.str p) (dpAll_strs r)
theorem dp_strs {K : PySem.W.Frag} {H : Hp} {a : Addr} {ps : List Str} (h : H a = some (.lst (ps.map V.str))) : Dp K H (.ref a) (.list (ps.map PyData.str)) := .lst (SqL.of h) (dpAll_strs ps)
theorem isNm_ok {x : Str} (h : isNm x = true) : PyData.strOk x = true := by
  unfold isNm at h
  simp only [Bool.and_eq_true, decide_eq_true_eq, List.all_eq_true] at h
  unfold PyData.strOk
  rw [Array.all_eq_true']
  intro c hc
  have := h.2 c (Array.mem_toList_iff.mpr hc)
  unfold isLow at this
  simp only [Bool.and_eq_true, decide_eq_true_eq] at this
  simp only [decide_eq_true_eq]
  omega
theorem lay_strs : ∀ ps : List Str, (∀ p ∈ ps, PyData.strOk p = true) → PyData.canLayAll0 (ps.map PyData.str) = true ∧ PyData.depthAll (ps.map PyData.str) = 0
  | [], _ => by simp [PyData.canLayAll0, PyData.depthAll]
  | p :: r, h => by simp [PyData.canLayAll0, PyData.canLay0, PyData.depthAll, PyData.depth, lay_strs r (fun q hq => h q (List.mem_cons_of_mem _ hq)), h p List.mem_cons_self]
theorem shaped_strs {ps : List Str} (h : ∀ p ∈ ps, PyData.strOk p = true) : SeqAt.shaped (.list (ps.map PyData.str)) = true := by
  simp [SeqAt.shaped, PyData.canLay0, PyData.depth, lay_strs ps h]
theorem shaped_two {a b : Str} (ha : PyData.strOk a = true) (hb : PyData.strOk b = true) : SeqAt.shaped (.tuple [.str a, .str b]) = true := by
  simp [SeqAt.shaped, PyData.canLay0, PyData.canLayAll0, PyData.depth, PyData.depthAll, ha, hb]
/-- a tie's ends are texts of letters alone -/
def OkT (t : Str × Str × Str) : Prop := PyData.strOk t.2.1 = true ∧ PyData.strOk t.2.2 = true
theorem eqv_strs (ps qs : List Str) : PyData.eqv (.list (ps.map PyData.str)) (.list (qs.map PyData.str)) = decide (ps = qs) := PySem.W.Datum.eqv (α := List Str) ps qs
theorem eqv_tup2 (a b : Str × Str) : PyData.eqv (.tuple [.str a.1, .str a.2]) (.tuple [.str b.1, .str b.2]) = decide (a = b) := PySem.W.Datum.eqv (α := Str × Str) a b
def tieD (t : Str × Str × Str) : Key × PyData := (.inr t.1, .tuple [.str t.2.1, .str t.2.2])
theorem dp_tup2 {K : PySem.W.Frag} {H : Hp} {a : Addr} {x y : Str} (h : H a = some (.tup [.str x, .str y])) : Dp K H (.ref a) (.tuple [.str x, .str y]) := .tup (SqT.of h) (.cons (.str x) (.cons (.str y) .nil))
theorem dkd_pairs {K : PySem.W.Frag} {H : Hp} : ∀ {kvs : List (Key × V)} {ts : List (Str × Str × Str)}, Paired (Tup2 H) kvs ts → (∀ t ∈ ts, OkT t) →
    Paired (fun (p : Key × V) (q : Key × PyData) => p.1 = q.1 ∧ Dp K H p.2 q.2 ∧ SeqAt.shaped q.2 = true) kvs (ts.map tieD)
  | _, _, .nil, _ => .nil
  | (k, v) :: kvs, (m, e) :: ts, .cons p t, h => by
    obtain ⟨e1, q, e2, hq⟩ := p
    have e2 : v = .ref q := e2
    subst e2
    have ho := h _ List.mem_cons_self
    exact .cons ⟨e1, dp_tup2 hq, shaped_two ho.1 ho.2⟩ (dkd_pairs t fun u hu => h u (List.mem_cons_of_mem _ hu))
theorem dkd_of {K : PySem.W.Frag} {H : Hp} {a : Addr} {kvs : List (Key × V)} {ts : List (Str × Str × Str)} (h : H a = some (.dK kvs)) (p : Paired (Tup2 H) kvs ts) (ho : ∀ t ∈ ts, OkT t) : DkD K H (.ref a) (ts.map tieD) := ⟨a, kvs, rfl, h, dkd_pairs p ho⟩
theorem eqKD_len {ts us : List (Str × Str × Str)} (h : ts.length ≠ us.length) : eqKD (ts.map tieD) (us.map tieD) = false := by
  unfold eqKD
  rw [List.length_map, List.length_map, show (ts.length == us.length) = false from by simp [h]]
  rfl
theorem find_tie : ∀ {us : List (Str × Str × Str)} {t : Str × Str × Str}, (us.map (·.1)).Nodup → t ∈ us → (us.map tieD).find? (fun q => decide (q.1 = (tieD t).1)) = some (tieD t)
  | u :: us, t, nd, h => by
    have nd : (u.1 :: us.map (·.1)).Nodup := nd
    rcases List.mem_cons.mp h with rfl | h
    · simp
    · have hne : ¬ (tieD u).1 = (tieD t).1 := fun e => (List.nodup_cons.mp nd).1 (List.mem_map.mpr ⟨t, h, (Sum.inr.inj e).symm⟩)
      rw [List.map_cons, List.find?_cons, decide_eq_false hne]
      exact find_tie (List.nodup_cons.mp nd).2 h
theorem eqKD_mem {ts us : List (Str × Str × Str)} (hl : ts.length = us.length) (nd : (us.map (·.1)).Nodup) (h : ∀ t, t ∈ ts → t ∈ us) : eqKD (ts.map tieD) (us.map tieD) = true := by
  unfold eqKD
  rw [List.length_map, List.length_map, hl, Bool.and_eq_true]
  refine ⟨by simp, List.all_eq_true.mpr fun q hq => ?_⟩
  obtain ⟨t, ht, rfl⟩ := List.mem_map.mp hq
  rw [find_tie nd (h t ht)]
  show PyData.eqv _ _ = true
  unfold tieD
  rw [eqv_tup2]
  simp
/-! ### values that may be instances whose fields change -/
theorem _root_.L2.TyX.fr {K : PySem.W.Frag} {H H' : Hp} {x C d : Addr} {fs fs' : List (Str × V)} {v : V} {t : Value} (h : TyX K H v t) (k : ∀ b o, b ≠ x → H b = some o → H' b = some o) (h1 : H x = some (.ins C d fs)) (h2 : H' x = some (.ins C d fs')) : TyX K H' v t := by
  have go : ∀ {b : Addr} {o : HO}, H b = some o → (∀ C d fs, o ≠ .ins C d fs) → H' b = some o := fun {b o} e n => k b o (fun q => by rw [q, h1] at e; exact n _ _ _ (Option.some.inj e).symm) e
  cases h with
  | base b =>
    cases b with
    | non => exact .base .non
    | bl x => exact .base (.bl x)
    | int i => exact .base (.int i)
    | str x => exact .base (.str x)
    | flt x => exact .base (.flt x)
    | lst e => exact .base (.lst (go e (by intros; simp)))
    | frz e => exact .base (.frz (go e (by intros; simp)))
    | tup e => exact .base (.tup (go e (by intros; simp)))
    | dK e => exact .base (.dK (go e (by intros; simp)))
    | dT e => exact .base (.dT (go e (by intros; simp)))
    | @ins a C' d' fs0 e cl ha hn htk hm =>
      by_cases q : a = x
      · subst q
        rw [h1] at e
        cases e
        exact .base (.ins h2 cl ha hn htk hm)
      · exact .base (.ins (k _ _ q e) cl ha hn htk hm)
  | byt b => exact .byt b
  | set e => exact .set (go e (by intros; simp))
  | kList e c => exact .kList e c
  | kTuple e c => exact .kTuple e c
  | kDict e c => exact .kDict e c
  | fTuple e => exact .fTuple (go e (by intros; simp))
  | fDict e => exact .fDict (go e (by intros; simp))
theorem IsS.fr {K : PySem.W.Frag} {H H' : Hp} {x C d : Addr} {fs fs' : List (Str × V)} {v : V} {o : Option Str} (h : IsS K H v o) (k : ∀ b o, b ≠ x → H b = some o → H' b = some o) (h1 : H x = some (.ins C d fs)) (h2 : H' x = some (.ins C d fs')) : IsS K H' v o := by
  cases h with
  | str z => exact .str z
  | no h e => exact .no (h.fr k h1 h2) e
theorem TVr.fr {K : PySem.W.Frag} {H H' : Hp} {x C d : Addr} {fs fs' : List (Str × V)} {v : V} {o : TV} (h : TVr K H v o) (k : ∀ b o, b ≠ x → H b = some o → H' b = some o) (h1 : H x = some (.ins C d fs)) (h2 : H' x = some (.ins C d fs')) : TVr K H' v o := by
  have go : ∀ {b : Addr} {o : HO}, H b = some o → (∀ C d fs, o ≠ .ins C d fs) → H' b = some o := fun {b o} e n => k b o (fun q => by rw [q, h1] at e; exact n _ _ _ (Option.some.inj e).symm) e
  cases h with
  | no h e => exact .no (h.fr k h1 h2) e
  | long h n => exact .long (go h (by intros; simp)) n
  | pair h hx hy => exact .pair (go h (by intros; simp)) (hx.fr k h1 h2) (hy.fr k h1 h2)
theorem TiesR.fr {K : PySem.W.Frag} {H H' : Hp} {x C d : Addr} {fs fs' : List (Str × V)} {a : Addr} {es : List (Str × TV)} (h : TiesR K H a es) (k : ∀ b o, b ≠ x → H b = some o → H' b = some o) (h1 : H x = some (.ins C d fs)) (h2 : H' x = some (.ins C d fs')) : TiesR K H' a es := by
  obtain ⟨⟨kvs, e, p⟩, nd⟩ := h
  exact ⟨⟨kvs, k _ _ (fun q => by rw [q, h1] at e; cases e) e, Paired.imp (fun a b q => ⟨q.1, q.2.fr k h1 h2⟩) p⟩, nd⟩
theorem webTies_keys (es : List (Str × TV)) : (webTies es).map (·.1) = sortS (es.map (·.1)) := by
  unfold webTies
  rw [List.map_map]
  exact (List.map_congr_left fun _ _ => rfl).trans (List.map_id _)
theorem webTies_nodup {es : List (Str × TV)} (h : (es.map (·.1)).Nodup) : ((webTies es).map (·.1)).Nodup := by
  rw [webTies_keys]
  exact nodup_sortS h
end BF
set_option Elab.async false
set_option linter.all false
set_option maxRecDepth 100000
set_option maxHeartbeats 4000000
namespace BF
open PySem PySem.Spec PyProof.Rows L2
/-! ### a tie is put -/
def putE (es : List (Str × TV)) (n : Str) (tv : TV) : List (Str × TV) := if (es.any fun e => decide (e.1 = n)) = true then es.map (fun e => if e.1 = n then (e.1, tv) else e) else es ++ [(n, tv)]
theorem tie_any {K : PySem.W.Frag} {H : Hp} {n : Str} : ∀ {kvs : List (Key × V)} {es : List (Str × TV)}, Paired (Tie K H) kvs es → (kvs.any fun kv => decide (kv.1 = Sum.inr n)) = es.any fun e => decide (e.1 = n)
  | _, _, .nil => rfl
  | (k, v) :: kvs, (m, tv) :: es, .cons p t => by
    have e : k = Sum.inr m := p.1
    subst e
    rw [List.any_cons, List.any_cons, tie_any t]
    congr 1
    exact decide_eq_decide.mpr ⟨fun h => Sum.inr.inj h, fun h => congrArg _ h⟩
theorem tie_map {K : PySem.W.Frag} {H : Hp} {n : Str} {v : V} {tv : TV} (h : TVr K H v tv) : ∀ {kvs : List (Key × V)} {es : List (Str × TV)}, Paired (Tie K H) kvs es →
    Paired (Tie K H) (kvs.map fun kv => if kv.1 = Sum.inr n then (kv.1, v) else kv) (es.map fun e => if e.1 = n then (e.1, tv) else e)
  | _, _, .nil => .nil
  | (k, u) :: kvs, (m, tu) :: es, .cons p t => by
    have e : k = Sum.inr m := p.1
    subst e
    refine .cons ?_ (tie_map h t)
    show Tie K H (if (Sum.inr m : Key) = Sum.inr n then (Sum.inr m, v) else (Sum.inr m, u)) (if m = n then (m, tv) else (m, tu))
    by_cases c : m = n
    · subst c
      rw [if_pos rfl, if_pos rfl]
      exact ⟨rfl, h⟩
    · rw [if_neg (fun q => c (Sum.inr.inj q)), if_neg c]
      exact p
theorem tie_put {K : PySem.W.Frag} {H : Hp} {n : Str} {v : V} {tv : TV} {kvs : List (Key × V)} {es : List (Str × TV)} (h : TVr K H v tv) (p : Paired (Tie K H) kvs es) : Paired (Tie K H) (putK kvs (.inr n) v) (putE es n tv) := by
  unfold putK putE
  rw [tie_any p]
  split
  · exact tie_map h p
  · exact Paired.snoc ⟨rfl, h⟩ p
theorem putE_keys (es : List (Str × TV)) (n : Str) (tv : TV) : (putE es n tv).map (·.1) = if n ∈ es.map (·.1) then es.map (·.1) else es.map (·.1) ++ [n] := by
  have e : (es.any fun e => decide (e.1 = n)) = decide (n ∈ es.map (·.1)) := by
    rw [Bool.eq_iff_iff, List.any_eq_true, decide_eq_true_eq, List.mem_map]
    constructor
    · rintro ⟨x, h, q⟩
      exact ⟨x, h, of_decide_eq_true q⟩
    · rintro ⟨x, h, q⟩
      exact ⟨x, h, decide_eq_true q⟩
  unfold putE
  rw [e]
  by_cases h : n ∈ es.map (·.1)
  · rw [decide_eq_true h, if_pos rfl, if_pos h, List.map_map]
    refine List.map_congr_left fun x _ => ?_
    show (if x.1 = n then (x.1, tv) else x).1 = x.1
    split <;> rfl
  · rw [decide_eq_false h, if_neg (by decide), if_neg h, List.map_append]
    rfl
theorem putE_nodup {es : List (Str × TV)} {n : Str} {tv : TV} (h : (es.map (·.1)).Nodup) : ((putE es n tv).map (·.1)).Nodup := by
  rw [putE_keys]
  split
  · exact h
  · rename_i q
    rw [List.nodup_append]
    refine ⟨h, by simp, fun a ha b hb e => ?_⟩
    rw [List.mem_singleton.mp hb] at e
    exact q (e ▸ ha)
theorem putE_len (es : List (Str × TV)) (n : Str) (tv : TV) : (putE es n tv).length ≤ es.length + 1 := by
  unfold putE
  split
  · rw [List.length_map]
    omega
  · rw [List.length_append]
    exact Nat.le_refl _
theorem putE_mem {es : List (Str × TV)} {n : Str} {tv : TV} {e : Str × TV} (h : e ∈ putE es n tv) : e ∈ es ∨ e = (n, tv) := by
  unfold putE at h
  split at h
  · obtain ⟨x, hx, q⟩ := List.mem_map.mp h
    split at q
    · rename_i c
      right
      rw [← q, c]
    · left
      rw [← q]
      exact hx
  · rcases List.mem_append.mp h with h | h
    · exact .inl h
    · exact .inr (List.mem_singleton.mp h)
theorem TiesR.put {K : PySem.W.Frag} {H H' : Hp} {d : Addr} {es : List (Str × TV)} {kvs : List (Key × V)} {n : Str} {v : V} {tv : TV} (p : Paired (Tie K H) kvs es) (nd : (es.map (·.1)).Nodup) (h : TVr K H v tv) (s : ∀ x t, TVr K H x t → TVr K H' x t)
    (hd : H' d = some (.dK (putK kvs (.inr n) v))) : TiesR K H' d (putE es n tv) := ⟨⟨_, hd, Paired.imp (fun _ _ q => ⟨q.1, s _ _ q.2⟩) (tie_put h p)⟩, putE_nodup nd⟩
/-! ### a dict changes: what values are stays -/
theorem _root_.L2.TyX.dk {K : PySem.W.Frag} {H : Hp} {d : Addr} {kvs kvs' : List (Key × V)} {v : V} {t : Value} (h : TyX K H v t) (h1 : H d = some (.dK kvs)) : TyX K (upd H d (.dK kvs')) v t := by
  have go : ∀ {b : Addr} {o : HO}, H b = some o → (∀ k, o ≠ .dK k) → upd H d (.dK kvs') b = some o := fun {b o} e n => by
    rw [upd_ne (fun q => by rw [q, h1] at e; exact n _ (Option.some.inj e).symm)]
    exact e
  cases h with
  | base b =>
    cases b with
    | non => exact .base .non
    | bl x => exact .base (.bl x)
    | int i => exact .base (.int i)
    | str x => exact .base (.str x)
    | flt x => exact .base (.flt x)
    | lst e => exact .base (.lst (go e (by intros; simp)))
    | frz e => exact .base (.frz (go e (by intros; simp)))
    | tup e => exact .base (.tup (go e (by intros; simp)))
    | @dK a kv e =>
      by_cases q : a = d
      · subst q
        exact .base (.dK upd_same)
      · exact .base (.dK (by rw [upd_ne q]; exact e))
    | dT e => exact .base (.dT (go e (by intros; simp)))
    | ins e cl ha hn htk hm => exact .base (.ins (go e (by intros; simp)) cl ha hn htk hm)
  | byt b => exact .byt b
  | set e => exact .set (go e (by intros; simp))
  | kList e c => exact .kList e c
  | kTuple e c => exact .kTuple e c
  | kDict e c => exact .kDict e c
  | fTuple e => exact .fTuple (go e (by intros; simp))
  | fDict e => exact .fDict (go e (by intros; simp))
theorem TVr.dk {K : PySem.W.Frag} {H : Hp} {d : Addr} {kvs kvs' : List (Key × V)} {v : V} {o : TV} (h : TVr K H v o) (h1 : H d = some (.dK kvs)) : TVr K (upd H d (.dK kvs')) v o := by
  have go : ∀ {b : Addr} {xs : List V}, H b = some (.tup xs) → upd H d (.dK kvs') b = some (.tup xs) := fun {b xs} e => by
    rw [upd_ne (fun q => by rw [q, h1] at e; cases e)]
    exact e
  have si : ∀ {v : V} {o : Option Str}, IsS K H v o → IsS K (upd H d (.dK kvs')) v o := fun {v o} q => by
    cases q with
    | str z => exact .str z
    | no h e => exact .no (h.dk h1) e
  cases h with
  | no h e => exact .no (h.dk h1) e
  | long h n => exact .long (go h) n
  | pair h hx hy => exact .pair (go h) (si hx) (si hy)
end BF
set_option Elab.async false
set_option linter.all false
set_option maxRecDepth 100000
set_option maxHeartbeats 4000000
namespace BF
open PySem PySem.Spec PyProof.Rows L2
/-! ### readings that lay new things alone -/
/-- te lays new things and yields a value with P -/
def EvN (te : TE) (σ : L2.St) (H0 : Hp) (P : V → Hp → Prop) : Prop := ∀ H, Same H0 H → ∀ Q : VK, (∀ v H', Same H H' → P v H' → Q v H') → te σ H Q
def EvNs (ta : TA) (σ : L2.St) (H0 : Hp) (n : Nat) (P : V → Hp → Prop) : Prop := ∀ H, Same H0 H → ∀ Q : List V → Hp → Prop, (∀ vs H', Same H H' → vs.length = n → (∀ v ∈ vs, P v H') → Q vs H') → ta σ H Q
theorem evs_nil {σ : L2.St} {H0 : Hp} {P : V → Hp → Prop} : EvNs tNil σ H0 0 P := fun H _ _ k => k [] H (Same.refl H) rfl (fun _ h => by cases h)
theorem evs_cons {σ : L2.St} {H0 : Hp} {P : V → Hp → Prop} {te : TE} {ta : TA} {n : Nat} (st : ∀ v H H', Same H H' → P v H → P v H') (h : EvN te σ H0 P) (hs : EvNs ta σ H0 n P) : EvNs (tCons te ta) σ H0 (n + 1) P := fun H s Q k =>
  h H s _ fun v H1 s1 p => hs H1 (s.trans s1) _ fun vs H2 s2 hl ps => k (v :: vs) H2 (s1.trans s2) (by rw [List.length_cons, hl]) fun u hu => by
    rcases List.mem_cons.mp hu with rfl | hu
    · exact st _ _ _ s2 p
    · exact ps u hu
theorem ev_lst {σ : L2.St} {H0 : Hp} {P : V → Hp → Prop} {ta : TA} {n : Nat} (st : ∀ v H H', Same H H' → P v H → P v H') (hs : EvNs ta σ H0 n P) (hn : n ≤ 1000) : EvN (tLst ta) σ H0 (fun v H => ∃ l vs, v = .ref l ∧ H l = some (.lst vs) ∧ vs.length = n ∧ ∀ u ∈ vs, P u H) := fun H s Q k =>
  hs H s _ fun vs H1 s1 hl ps => ⟨by rw [sizeLine_eq, hl]; omega, fun l nl => k _ _ (s1.trans (Same.new nl)) ⟨l, vs, rfl, upd_same, hl, fun u hu => st _ _ _ (Same.new nl) (ps u hu)⟩⟩
/-- a value of the kinds that ties are spoiled with -/
def Tv (K : PySem.W.Frag) (v : V) (H : Hp) : Prop := ∃ tv, TVr K H v tv
theorem Tv.st {K : PySem.W.Frag} : ∀ v H H', Same H H' → Tv K v H → Tv K v H' := fun _ _ _ s ⟨tv, h⟩ => ⟨tv, h.same s⟩
section
variable {K : PySem.W.Frag} {σ : L2.St} {H0 : Hp} {i : Nat} {p : Str}
theorem tv_var (h : σ[i]? = some (some (.str p))) : EvN (tVar i) σ H0 (Tv K) := fun H s Q k => ⟨_, h, k _ _ (Same.refl H) ⟨_, .no (.base (.str p)) (kit_ty (by decide +kernel))⟩⟩
theorem tv_non : EvN (tC .non) σ H0 (Tv K) := fun H s Q k => k _ _ (Same.refl H) ⟨_, .no (.base .non) (kit_ty (by decide +kernel))⟩
theorem tv_int {n : Int} : EvN (tC (.int n)) σ H0 (Tv K) := fun H s Q k => k _ _ (Same.refl H) ⟨_, .no (.base (.int n)) (kit_ty (by decide +kernel))⟩
theorem tv_bl {b : Bool} : EvN (tC (.bl b)) σ H0 (Tv K) := fun H s Q k => k _ _ (Same.refl H) ⟨_, .no (.base (.bl b)) (kit_ty (by decide +kernel))⟩
theorem tv_dict : EvN tDNewK σ H0 (Tv K) := fun H s Q k => fun d nd => k _ _ (Same.new nd) ⟨_, .no (.base (.dK upd_same)) (kit_ty (by decide +kernel))⟩
theorem tv_one (h : σ[i]? = some (some (.str p))) : EvN (tTup (tCons (tVar i) tNil)) σ H0 (Tv K) := fun H s Q k => ⟨_, h, (by show 1 ≤ sizeLine; rw [sizeLine_eq]; omega), fun t nt => k _ _ (Same.new nt) ⟨_, .long upd_same (by show 1 ≠ 2; decide)⟩⟩
theorem tv_three (h : σ[i]? = some (some (.str p))) : EvN (tTup (tCons (tVar i) (tCons (tVar i) (tCons (tVar i) tNil)))) σ H0 (Tv K) := fun H s Q k =>
  ⟨_, h, _, h, _, h, (by show 3 ≤ sizeLine; rw [sizeLine_eq]; omega), fun t nt => k _ _ (Same.new nt) ⟨_, .long upd_same (by show 3 ≠ 2; decide)⟩⟩
theorem tv_list (h : σ[i]? = some (some (.str p))) : EvN (tLst (tCons (tVar i) (tCons (tVar i) tNil))) σ H0 (Tv K) := fun H s Q k =>
  ⟨_, h, _, h, (by show 2 ≤ sizeLine; rw [sizeLine_eq]; omega), fun t nt => k _ _ (Same.new nt) ⟨_, .no (.base (.lst upd_same)) (kit_ty (by decide +kernel))⟩⟩
theorem tv_vc {z : Str} (h : σ[i]? = some (some (.str p))) : EvN (tTup (tCons (tVar i) (tCons (tC (.str z)) tNil))) σ H0 (Tv K) := fun H s Q k =>
  ⟨_, h, (by show 2 ≤ sizeLine; rw [sizeLine_eq]; omega), fun t nt => k _ _ (Same.new nt) ⟨_, .pair upd_same (.str _) (.str _)⟩⟩
theorem tv_cv {z : Str} (h : σ[i]? = some (some (.str p))) : EvN (tTup (tCons (tC (.str z)) (tCons (tVar i) tNil))) σ H0 (Tv K) := fun H s Q k =>
  ⟨_, h, (by show 2 ≤ sizeLine; rw [sizeLine_eq]; omega), fun t nt => k _ _ (Same.new nt) ⟨_, .pair upd_same (.str _) (.str _)⟩⟩
theorem tv_vn (h : σ[i]? = some (some (.str p))) : EvN (tTup (tCons (tVar i) (tCons (tC .non) tNil))) σ H0 (Tv K) := fun H s Q k =>
  ⟨_, h, (by show 2 ≤ sizeLine; rw [sizeLine_eq]; omega), fun t nt => k _ _ (Same.new nt) ⟨_, .pair upd_same (.str _) (.no (.base .non) (kit_ty (by decide +kernel)))⟩⟩
theorem tv_iv {n : Int} (h : σ[i]? = some (some (.str p))) : EvN (tTup (tCons (tC (.int n)) (tCons (tVar i) tNil))) σ H0 (Tv K) := fun H s Q k =>
  ⟨_, h, (by show 2 ≤ sizeLine; rw [sizeLine_eq]; omega), fun t nt => k _ _ (Same.new nt) ⟨_, .pair upd_same (.no (.base (.int n)) (kit_ty (by decide +kernel))) (.str _)⟩⟩
theorem tv_lv (h : σ[i]? = some (some (.str p))) : EvN (tTup (tCons (tLst (tCons (tVar i) tNil)) (tCons (tVar i) tNil))) σ H0 (Tv K) := fun H s Q k =>
  ⟨_, h, (by show 1 ≤ sizeLine; rw [sizeLine_eq]; omega), fun l nl => ⟨_, h, (by show 2 ≤ sizeLine; rw [sizeLine_eq]; omega), fun t nt => k _ _ ((Same.new nl).trans (Same.new nt))
    ⟨_, .pair upd_same (.no (.base (.lst (Same.new nt _ _ upd_same))) (kit_ty (by decide +kernel))) (.str _)⟩⟩⟩
theorem tv_vv {j : Nat} {q : Str} (h : σ[i]? = some (some (.str p))) (h2 : σ[j]? = some (some (.str q))) : EvN (tTup (tCons (tVar i) (tCons (tVar j) tNil))) σ H0 (Tv K) := fun H s Q k =>
  ⟨_, h, _, h2, (by show 2 ≤ sizeLine; rw [sizeLine_eq]; omega), fun t nt => k _ _ (Same.new nt) ⟨_, .pair upd_same (.str _) (.str _)⟩⟩
end
/-! ### one statement ahead -/
theorem seq_asg {te : TE} {g : TG} {b : TS} {D : Ends} {σ : L2.St} {H : Hp} (h : te σ H fun x H1 => g x σ H1 (b D)) : tSeq (tAsg te g) b D σ H := h
theorem seq_put {td ty tv : TE} {b : TS} {D : Ends} {σ : L2.St} {H : Hp} (h : tv σ H fun v H1 => td σ H1 fun x H2 => ty σ H2 fun y H3 => ∃ a H4, x = V.ref a ∧ DPut H3 a y v H4 ∧ b D σ H4) : tSeq (sDPut td ty tv) b D σ H := h
theorem g_name {i : Nat} {v : V} {σ : L2.St} {H : Hp} {k : L2.St → Hp → Prop} (h : k (σ.set i (some v)) H) : gName i v σ H k := h
end BF
set_option Elab.async false
set_option linter.all false
set_option maxRecDepth 100000
set_option maxHeartbeats 4000000
namespace BF
open PySem PySem.Spec PyProof.Rows L2
/-! ### ties whose values are pairs of texts -/
abbrev Tr := Str × Str × Str
def rawE (r : Tr) : Str × TV := (r.1, .ends r.2.1 r.2.2)
theorem raw_keys (rs : List Tr) : (rs.map rawE).map (·.1) = rs.map (·.1) := by
  rw [List.map_map]
  exact List.map_congr_left fun _ _ => rfl
theorem raw_of {ps : List Str} : ∀ {es : List (Str × TV)}, (∀ e ∈ es, ∃ a b, e.2 = .ends a b ∧ a ∈ ps ∧ b ∈ ps) → ∃ rs : List Tr, es = rs.map rawE ∧ ∀ r ∈ rs, r.2.1 ∈ ps ∧ r.2.2 ∈ ps
  | [], _ => ⟨[], rfl, fun _ h => by cases h⟩
  | (n, tv) :: es, h => by
    obtain ⟨a, b, e, ha, hb⟩ := h _ List.mem_cons_self
    obtain ⟨rs, e2, h2⟩ := raw_of (es := es) (fun x hx => h x (List.mem_cons_of_mem _ hx))
    have e : tv = .ends a b := e
    refine ⟨(n, a, b) :: rs, by rw [e2, e]; rfl, fun r hr => ?_⟩
    rcases List.mem_cons.mp hr with rfl | hr
    · exact ⟨ha, hb⟩
    · exact h2 r hr
theorem tie_raw {K : PySem.W.Frag} {H : Hp} : ∀ {kvs : List (Key × V)} {rs : List Tr}, Paired (Tie K H) kvs (rs.map rawE) → Paired (Tup2 H) kvs rs
  | [], [], _ => .nil
  | (k, v) :: kvs, r :: rs, .cons p t => by
    obtain ⟨q, e, h⟩ := TVr.get (a := r.2.1) (b := r.2.2) p.2
    exact .cons ⟨p.1, q, e, h⟩ (tie_raw t)
theorem raw_tie {K : PySem.W.Frag} {H : Hp} : ∀ {kvs : List (Key × V)} {rs : List Tr}, Paired (Tup2 H) kvs rs → Paired (Tie K H) kvs (rs.map rawE)
  | _, _, .nil => .nil
  | (k, v) :: kvs, r :: rs, .cons p t => by
    obtain ⟨e, q, e2, h⟩ := p
    have e2 : v = .ref q := e2
    subst e2
    exact .cons ⟨e, TVr.ends h⟩ (raw_tie t)
theorem ties_raw {K : PySem.W.Frag} {H : Hp} {d : Addr} {kvs : List (Key × V)} {rs : List Tr} (h : H d = some (.dK kvs)) (p : Paired (Tup2 H) kvs rs) (nd : (rs.map (·.1)).Nodup) : TiesR K H d (rs.map rawE) := ⟨⟨kvs, h, raw_tie p⟩, by rw [raw_keys]; exact nd⟩
theorem lk_raw : ∀ {rs : List Tr} {r : Tr}, (rs.map (·.1)).Nodup → r ∈ rs → lkE (rs.map rawE) r.1 = some (.ends r.2.1 r.2.2)
  | u :: us, r, nd, h => by
    have nd : (u.1 :: us.map (·.1)).Nodup := nd
    unfold lkE
    rcases List.mem_cons.mp h with rfl | h
    · simp [rawE]
    · have hne : ¬ u.1 = r.1 := fun e => (List.nodup_cons.mp nd).1 (List.mem_map.mpr ⟨r, h, e.symm⟩)
      have ih := lk_raw (List.nodup_cons.mp nd).2 h
      unfold lkE at ih
      rw [List.map_cons, List.find?_cons, show decide ((rawE u).1 = r.1) = false from decide_eq_false hne]
      exact ih
theorem ends_raw {rs : List Tr} {r : Tr} (nd : (rs.map (·.1)).Nodup) (h : r ∈ rs) : endsOf (rs.map rawE) r.1 = srt2 r.2.1 r.2.2 := endsOf_eq (lk_raw nd h)
theorem srt2_swap (a b : Str) : srt2 a b = srt2 b a := by
  unfold srt2
  by_cases h : leS a b = true
  · rw [if_pos h]
    by_cases h2 : leS b a = true
    · rw [if_pos h2, leS_anti a b h h2]
    · rw [if_neg h2]
  · rw [if_neg h]
    have := leS_total a b
    rw [Bool.or_eq_true] at this
    rw [if_pos (this.resolve_left h)]
theorem due_ok {ps : List Str} {rs : List Tr} (h1 : 1 ≤ ps.length) (h16 : ps.length ≤ 16) (hn : ∀ p ∈ ps, isNm p = true) (nd : ps.Nodup) (hk : ∀ r ∈ rs, isNm r.1 = true ∧ r.2.1 ∈ ps ∧ r.2.2 ∈ ps) (ndk : (rs.map (·.1)).Nodup) (hl : rs.length ≤ 24) : dueOf ps (rs.map rawE) = none := by
  have e1 : plF ps = none := by
    unfold plF
    rw [if_pos ⟨h1, h16⟩, fw_none (fun k hk => ?_)]
    · rfl
    · unfold okAt
      rw [List.getElem?_eq_getElem hk]
      simp only [hn _ (List.getElem_mem hk), Bool.true_and, Bool.not_eq_true', decide_eq_false_iff_not]
      intro hm
      obtain ⟨j, hj, e⟩ := List.mem_iff_getElem.mp hm
      rw [List.length_take] at hj
      rw [List.getElem_take] at e
      have := (List.getElem_inj nd).mp e
      omega
  have e2 : tiF ps (rs.map rawE) = none := by
    unfold tiF
    rw [List.find?_eq_none]
    intro n hm
    rw [mem_sortS, raw_keys] at hm
    obtain ⟨r, hr, rfl⟩ := List.mem_map.mp hm
    rw [goodE_of (lk_raw ndk hr)]
    obtain ⟨q1, q2, q3⟩ := hk r hr
    simp [goodT, q1, q2, q3]
  unfold dueOf
  rw [e1, e2]
  simp only [List.length_map, if_neg (show ¬ 24 < rs.length by omega)]
def endR (rs : List Tr) (n : Str) : Str × Str := match rs.find? fun r => decide (r.1 = n) with
  | some r => r.2
  | none => (n, n)
theorem endR_mem : ∀ {rs : List Tr} {n : Str}, n ∈ rs.map (·.1) → (n, endR rs n) ∈ rs
  | u :: us, n, h => by
    unfold endR
    rw [List.find?_cons]
    by_cases e : u.1 = n
    · subst e
      simp
    · rw [decide_eq_false e]
      have h : n = u.1 ∨ n ∈ us.map (·.1) := List.mem_cons.mp h
      have ih := endR_mem (rs := us) (h.resolve_left fun q => e q.symm)
      unfold endR at ih
      exact List.mem_cons_of_mem _ ih
theorem webTies_rev {rs : List Tr} {ns : List Str} (nd : (rs.map (·.1)).Nodup) (pm : ns.Perm (rs.map (·.1))) : webTies ((ns.map fun n => (n, (endR rs n).2, (endR rs n).1)).map rawE) = webTies (rs.map rawE) := by
  have hk : (ns.map fun n => ((n, (endR rs n).2, (endR rs n).1) : Tr)).map (·.1) = ns := by
    rw [List.map_map]
    exact (List.map_congr_left fun _ _ => rfl).trans (List.map_id _)
  have hnd : ((ns.map fun n => ((n, (endR rs n).2, (endR rs n).1) : Tr)).map (·.1)).Nodup := by
    rw [hk]
    exact pm.nodup_iff.mpr nd
  unfold webTies
  rw [raw_keys, raw_keys, hk, sortS_of_perm pm]
  refine List.map_congr_left fun n hn => ?_
  have hn : n ∈ rs.map (·.1) := (mem_sortS _ _).mp hn
  have h1 := ends_raw nd (endR_mem hn)
  have h2 := ends_raw hnd (List.mem_map.mpr ⟨n, pm.mem_iff.mpr hn, rfl⟩)
  have h1 : endsOf (rs.map rawE) n = srt2 (endR rs n).1 (endR rs n).2 := h1
  have h2 : endsOf ((ns.map fun n => ((n, (endR rs n).2, (endR rs n).1) : Tr)).map rawE) n = srt2 (endR rs n).2 (endR rs n).1 := h2
  rw [h1, h2, srt2_swap]
theorem webTies_mem {rs : List Tr} (nd : (rs.map (·.1)).Nodup) {t : Tr} (h : t ∈ webTies (rs.map rawE)) : ∃ r ∈ rs, t = (r.1, srt2 r.2.1 r.2.2) := by
  unfold webTies at h
  obtain ⟨n, hn, rfl⟩ := List.mem_map.mp h
  rw [mem_sortS, raw_keys] at hn
  obtain ⟨r, hr, rfl⟩ := List.mem_map.mp hn
  exact ⟨r, hr, by rw [ends_raw nd hr]⟩
theorem webTies_len (rs : List Tr) : (webTies (rs.map rawE)).length = rs.length := by
  unfold webTies
  rw [List.length_map, sortS_length, List.length_map, List.length_map]
theorem mem_webTies {rs : List Tr} (nd : (rs.map (·.1)).Nodup) {r : Tr} (h : r ∈ rs) : (r.1, srt2 r.2.1 r.2.2) ∈ webTies (rs.map rawE) := by
  unfold webTies
  refine List.mem_map.mpr ⟨r.1, (mem_sortS _ _).mpr (by rw [raw_keys]; exact List.mem_map.mpr ⟨r, h, rfl⟩), ?_⟩
  rw [ends_raw nd h]
/-! ### dict(list of pairs) -/
abbrev PT (H : Hp) : Addr → Tr → Prop := fun q e => ∃ t, H q = some (.tup [.str e.1, .ref t]) ∧ H t = some (.tup [.str e.2.1, .str e.2.2])
theorem pt_same {H H' : Hp} (s : Same H H') {qs : List Addr} {ts : List Tr} (h : Paired (PT H) qs ts) : Paired (PT H') qs ts := Paired.imp (fun _ _ ⟨t, a, b⟩ => ⟨t, s _ _ a, s _ _ b⟩) h
theorem pt_kvs {K : PySem.W.Frag} {H : Hp} : ∀ {qs : List Addr} {ts : List Tr}, Paired (PT H) qs ts → ∃ kvs : List (Key × V), Paired (fun p kv => SqT K H p [kV kv.1, kv.2]) qs kvs ∧ Paired (Tup2 H) kvs ts
  | _, _, .nil => ⟨[], .nil, .nil⟩
  | q :: qs, e :: ts, .cons p h => by
    obtain ⟨kvs, h1, h2⟩ := pt_kvs (K := K) h
    obtain ⟨t, a, b⟩ := p
    exact ⟨(.inr e.1, .ref t) :: kvs, .cons (SqT.of a) h1, .cons ⟨rfl, t, rfl, b⟩ h2⟩
theorem mergeK_app : ∀ (kvs acc : List (Key × V)), ((acc ++ kvs).map (·.1)).Nodup → mergeK acc kvs = acc ++ kvs
  | [], acc, _ => by rw [List.append_nil]; rfl
  | kv :: kvs, acc, nd => by
    have hv : valV acc kv.1 = none := valV_none (fun h => by
      rw [List.map_append, List.nodup_append] at nd
      exact nd.2.2 _ h kv.1 List.mem_cons_self rfl)
    have ih := mergeK_app kvs (acc ++ [kv]) (by rw [List.append_assoc]; exact nd)
    show mergeK (putK acc kv.1 kv.2) kvs = _
    rw [putK_new _ hv, ih, List.append_assoc]
    rfl
theorem mergeK_nd {H : Hp} {kvs : List (Key × V)} {ts : List Tr} (h : Paired (Tup2 H) kvs ts) (nd : (ts.map (·.1)).Nodup) : mergeK [] kvs = kvs := by
  refine mergeK_app kvs [] ?_
  rw [List.nil_append, keys2 h]
  exact nodup_inr nd
  where nodup_inr {l : List Str} (h : l.Nodup) : (l.map (Sum.inr : Str → Key)).Nodup := List.Pairwise.map _ (fun a b hne e => hne (Sum.inr.inj e)) h
/-- a lock is taken off -/
theorem lock_same {H H' : Hp} {d : Addr} {od : Obj} {u : HO} (hd : H d = some u) (s : Same (upd H d (.frz od u)) H') : Same H (upd H' d u) := fun b o e => by
  by_cases q : b = d
  · subst q
    rw [upd_same, ← e, hd]
  · rw [upd_ne q]
    exact s _ _ (by rw [upd_ne q]; exact e)
theorem at2 {H : Hp} : ∀ {kvs : List (Key × V)} {rs : List Tr} {i : Nat} {kv : Key × V}, Paired (Tup2 H) kvs rs → kvs[i]? = some kv → ∃ r, rs[i]? = some r ∧ Tup2 H kv r
  | _, _, 0, kv, .cons p t, h => by
    cases Option.some.inj h
    exact ⟨_, rfl, p⟩
  | _, _, i + 1, kv, .cons p t, h => at2 (i := i) t h
theorem get2' {H : Hp} {kvs : List (Key × V)} {rs : List Tr} {r : Tr} (h : Paired (Tup2 H) kvs rs) (nd : (rs.map (·.1)).Nodup) (hr : r ∈ rs) : ∃ t, valV kvs (.inr r.1) = some (.ref t) ∧ H t = some (.tup [.str r.2.1, .str r.2.2]) := get2 (n := r.1) (e := r.2) h nd hr
def strOf : V → Str
  | .str z => z
  | _ => ""
theorem perm_strs {ys : List V} {ps : List Str} (h : ys.Perm (ps.map V.str)) : ∃ qs : List Str, ys = qs.map V.str ∧ qs.Perm ps := by
  refine ⟨ys.map strOf, ?_, ?_⟩
  · rw [List.map_map]
    refine ((List.map_congr_left fun y hy => ?_).trans (List.map_id ys)).symm
    obtain ⟨z, _, rfl⟩ := List.mem_map.mp (h.mem_iff.mp hy)
    rfl
  · have e := h.map strOf
    rw [List.map_map] at e
    rw [show (strOf ∘ V.str) = id from rfl, List.map_id] at e
    exact e
theorem keysV {H : Hp} {kvs : List (Key × V)} {rs : List Tr} (h : Paired (Tup2 H) kvs rs) : (kvs.map fun kv => kV kv.1) = (rs.map (·.1)).map V.str := by
  have e := congrArg (List.map kV) (keys2 h)
  rw [List.map_map, List.map_map] at e
  rw [show (fun kv : Key × V => kV kv.1) = kV ∘ (fun x => x.1) from rfl, e]
  rfl
theorem key_uniq {n : Str} {e f : Str × Str} : ∀ {ts : List Tr}, (ts.map (·.1)).Nodup → (n, e) ∈ ts → (n, f) ∈ ts → e = f
  | u :: us, nd, h1, h2 => by
    have nd : (u.1 :: us.map (·.1)).Nodup := nd
    have no : ∀ g, (n, g) ∈ us → u.1 ≠ n := fun g hg q => (List.nodup_cons.mp nd).1 (List.mem_map.mpr ⟨_, hg, q.symm⟩)
    rcases List.mem_cons.mp h1 with q1 | q1
    · rcases List.mem_cons.mp h2 with q2 | q2
      · exact (Prod.mk.inj (q1.trans q2.symm)).2
      · exact absurd (congrArg (·.1) q1).symm (no _ q2)
    · rcases List.mem_cons.mp h2 with q2 | q2
      · exact absurd (congrArg (·.1) q2).symm (no _ q1)
      · exact key_uniq (List.nodup_cons.mp nd).2 q1 q2
theorem replicate_snoc (i : Nat) : (List.replicate (i + 1) true).map V.bl = (List.replicate i true).map V.bl ++ [V.bl true] := by
  rw [List.replicate_succ', List.map_append]
  rfl
theorem all_replicate (n : Nat) : (List.replicate n true).all id = true := by
  rw [List.all_eq_true]
  intro x hx
  rw [(List.mem_replicate.mp hx).2]
  rfl
theorem replicate_snocF (i : Nat) : (List.replicate (i + 1) false).map V.bl = (List.replicate i false).map V.bl ++ [V.bl false] := by
  rw [List.replicate_succ', List.map_append]
  rfl
theorem any_replicate (n : Nat) : (List.replicate n false).any id = false := by
  rw [List.any_eq_false]
  intro x hx
  rw [(List.mem_replicate.mp hx).2]
  simp
theorem take_filter {p : Tr → Bool} {l : List Tr} {i : Nat} {r : Tr} (h : l[i]? = some r) : (l.take (i + 1)).filter p = (l.take i).filter p ++ if p r = true then [r] else [] := by
  rw [List.take_succ, h, List.filter_append]
  congr 1
  by_cases e : p r = true
  · simp [e]
  · simp [e]
end BF
set_option Elab.async false
set_option linter.all false
set_option maxRecDepth 100000
set_option maxHeartbeats 4000000
namespace BF
open PySem PySem.Spec PyProof.Rows L2
/-! ### the pool of the laws that take from a script: four ints -/
def isP : HO → Bool
  | .lst [.int _, .int _, .int _, .int _] => true
  | _ => false
/-- the pool: where it reads, what is left of a great cell, how many takes, the seed -/
def PoolAt (H : Hp) (p : Addr) : Prop := ∃ (i : Nat) (b c s : Int), H p = some (.lst [.int (i : Nat), .int b, .int c, .int s])
/-- all but the pool stands, the pool is a pool still -/
structure KpP (w : Addr) (H H' : Hp) : Prop where
  keep : ∀ b o, b ≠ w → H b = some o → H' b = some o
  pool : PoolAt H w → PoolAt H' w
theorem PoolAt.ne {H : Hp} {w p : Addr} (h : PoolAt H w) (hp : H p = none) : p ≠ w := fun e => by
  obtain ⟨i, a, b, c, q⟩ := h
  rw [e, q] at hp
  cases hp
theorem PoolAt.neo {H : Hp} {w p : Addr} {o : HO} (h : PoolAt H w) (hp : H p = some o) (ho : isP o = false) : p ≠ w := fun e => by
  obtain ⟨i, a, b, c, q⟩ := h
  rw [e, q] at hp
  cases hp
  exact absurd ho (by simp [isP])
theorem KpP.refl (w : Addr) (H : Hp) : KpP w H H := ⟨fun _ _ _ h => h, id⟩
theorem KpP.trans {w : Addr} {H H1 H2 : Hp} (a : KpP w H H1) (b : KpP w H1 H2) : KpP w H H2 := ⟨fun c o n h => b.keep c o n (a.keep c o n h), fun h => b.pool (a.pool h)⟩
theorem KpP.same {w : Addr} {H H' : Hp} (s : Same H H') : KpP w H H' := ⟨fun c o _ h => s c o h, fun ⟨i, a, b, c, h⟩ => ⟨i, a, b, c, s _ _ h⟩⟩
theorem KpP.get {w : Addr} {H H' : Hp} (k : KpP w H H') (hw : PoolAt H w) {p : Addr} {o : HO} (h : H p = some o) (ho : isP o = false := by rfl) : H' p = some o := k.keep p o (hw.neo h ho) h
theorem KpP.free {w : Addr} {H H' : Hp} (k : KpP w H H') (hw : PoolAt H w) {p : Addr} (h : H' p = none) : H p = none := by
  have ne : p ≠ w := (k.pool hw).ne h
  cases e : H p with
  | none => rfl
  | some o => rw [k.keep p o ne e] at h; cases h
theorem KpP.put {w : Addr} {H H1 : Hp} {p : Addr} {o : HO} (k : KpP w H H1) (hw : PoolAt H w) (h : H p = none) : KpP w H (upd H1 p o) :=
  have ne : p ≠ w := hw.ne h
  ⟨fun b u n e => by rw [upd_ne (ne_of_none e h)]; exact k.keep b u n e, fun q => by
    obtain ⟨i, a, b, c, z⟩ := k.pool q
    exact ⟨i, a, b, c, by rw [upd_ne ne.symm]; exact z⟩⟩
theorem PoolAt.same {H H' : Hp} {w : Addr} (h : PoolAt H w) (s : Same H H') : PoolAt H' w := by
  obtain ⟨i, a, b, c, z⟩ := h
  exact ⟨i, a, b, c, s _ _ z⟩
theorem isP_strs (xs : List Str) : isP (.lst (xs.map V.str)) = false := by
  match xs with
  | [] => rfl
  | [a] => rfl
  | [a, b] => rfl
  | [a, b, c] => rfl
  | [a, b, c, d] => rfl
  | a :: b :: c :: d :: e :: r => rfl
/-- the script: tracked or known, and no pool; or an object of the module -/
def Scr (K : PySem.W.Frag) (H : Hp) (s p : Addr) (ns : List Int) : Prop := (Rd H s (.lst (ns.map V.int)) ∧ s ≠ p) ∨ ∀ G : Hp, SqL K G s (ns.map V.int)
theorem Scr.sq {K : PySem.W.Frag} {H : Hp} {s p : Addr} {ns : List Int} (h : Scr K H s p ns) : SqL K H s (ns.map V.int) := h.elim (fun h => .inl h.1) fun h => h H
theorem Scr.fr {K : PySem.W.Frag} {H G : Hp} {s p : Addr} {ns : List Int} (h : Scr K H s p ns) (f : ∀ q o, q ≠ p → H q = some o → G q = some o) : Scr K G s p ns :=
  h.elim (fun h => .inl ⟨h.1.elim (fun e => .inl (f _ _ h.2 e)) fun ⟨o, e⟩ => .inr ⟨o, f _ _ h.2 e⟩, h.2⟩) .inr
theorem Scr.kp {K : PySem.W.Frag} {H G : Hp} {s p : Addr} {ns : List Int} (h : Scr K H s p ns) (k : KpP p H G) : Scr K G s p ns := h.fr k.keep
theorem Scr.same {K : PySem.W.Frag} {H G : Hp} {s p : Addr} {ns : List Int} (h : Scr K H s p ns) (k : Same H G) : Scr K G s p ns := h.fr fun q o _ e => k q o e
theorem Scr.of {K : PySem.W.Frag} {H G : Hp} {s p : Addr} {ns : List Int} (h : SqL K H s (ns.map V.int)) (hp : H p = none) (k : Same H G) : Scr K G s p ns := by
  rcases h with h | h
  · refine .inl ⟨h.elim (fun e => .inl (k _ _ e)) fun ⟨o, e⟩ => .inr ⟨o, k _ _ e⟩, fun e => ?_⟩
    rcases h with h | ⟨o, h⟩
    · rw [e, hp] at h; cases h
    · rw [e, hp] at h; cases h
  · exact .inr fun _ => .inr h
def spTake (K : PySem.W.Frag) : Sp := fun vs H Q _ => ∃ (a p : Addr) (m : Int) (ns : List Int), vs = [.ref a, .ref p, .int m] ∧ Scr K H a p ns ∧ PoolAt H p ∧ 1 ≤ m ∧ m < 1073741824 ∧ ns.length ≤ 63 ∧
  ∀ n H', 0 ≤ n → n < m → KpP p H H' → Q (.int n) H'
/-- a shuffled copy of a list that stands still -/
def spShuffledT (K : PySem.W.Frag) : Sp := fun vs H Q _ => ∃ (s p a : Addr) (ns : List Int) (xs : List V), vs = [.ref s, .ref p, .ref a] ∧ Scr K H s p ns ∧ ns.length ≤ 63 ∧ PoolAt H p ∧ H a = some (.lst xs) ∧ a ≠ p ∧ xs.length ≤ 1000 ∧
  ∀ l ys H', H l = none → KpP p H H' → H' l = some (.lst ys) → ys.Perm xs → Q (.ref l) H'
/-- so many names -/
def spNamesT (K : PySem.W.Frag) : Sp := fun vs H Q _ => ∃ (s p : Addr) (m : Int) (ns : List Int), vs = [.ref s, .ref p, .int m] ∧ Scr K H s p ns ∧ ns.length ≤ 63 ∧ PoolAt H p ∧ 0 ≤ m ∧ m ≤ 1000 ∧
  ∀ l (xs : List Str) H', H l = none → KpP p H H' → H' l = some (.lst (xs.map V.str)) → (xs.length : Int) = m → (∀ x ∈ xs, isNm x = true) → (xs.length ≤ 26 → xs.Nodup) → Q (.ref l) H'
/-- some of a list that stands still, in its order -/
def spSomeT (K : PySem.W.Frag) : Sp := fun vs H Q _ => ∃ (s p a : Addr) (ns : List Int) (xs : List V), vs = [.ref s, .ref p, .ref a] ∧ Scr K H s p ns ∧ ns.length ≤ 63 ∧ PoolAt H p ∧ H a = some (.lst xs) ∧ a ≠ p ∧ xs.length ≤ 1000 ∧
  ∀ l ys H', H l = none → KpP p H H' → H' l = some (.lst ys) → ys.Sublist xs → Q (.ref l) H'
theorem nd_sub : ∀ {l xs : List Str}, l.Nodup → (∀ x ∈ l, x ∈ xs) → l.length ≤ xs.length
  | [], _, _, _ => Nat.zero_le _
  | a :: l, xs, nd, h => by
    have nd := List.nodup_cons.mp nd
    have ha := h a (List.mem_cons_self ..)
    have z := nd_sub (l := l) (xs := xs.erase a) nd.2 fun x hx => (List.mem_erase_of_ne fun e => nd.1 (by rw [← e]; exact hx)).mpr (h x (List.mem_cons_of_mem _ hx))
    rw [List.length_erase_of_mem ha] at z
    have := List.length_pos_of_mem ha
    rw [List.length_cons]
    omega
end BF
set_option Elab.async false
set_option linter.all false
set_option maxRecDepth 100000
set_option maxHeartbeats 4000000
/-! Texts repeated, min of texts, max with a default, C(.., k = v) with a keyword alone, == with values of other classes, a dict comprehension over any walk. -/
namespace BF
open PySem PySem.Spec PyProof.Rows L2
/-! ### a text many times -/
def rRepS : R2 := fun x y H Q => ∃ (z : Str) (k : Int), x = .str z ∧ y = .int k ∧ 0 ≤ k ∧ k ≤ 1000 ∧ z.length ≤ 1000 ∧ Q (.str (Txt.mul z k)) H
theorem op_repS {X : Cx} : OpR X (binaryOp .Mult) rRepS := by
  rintro pins s σ H x y v u Q I rx ry ⟨z, k, rfl, rfl, h1, h2, h3, q⟩
  obtain ⟨t, rfl⟩ := rx
  obtain ⟨t2, rfl⟩ := ry
  exact SB.mul (mulOk_of 1000 1000 h3 h2 (by omega) (by omega) (by omega)) fun t3 tk => ⟨.str (Txt.mul z k), H, I.tok _, ⟨_, rfl⟩, q⟩
theorem rep_foldl (c : Nat) : ∀ (n : Nat) (acc : Array Nat), ((List.replicate n (#[c] : Array Nat)).foldl (· ++ ·) acc).toList = acc.toList ++ List.replicate n c
  | 0, acc => by simp
  | n + 1, acc => by
    rw [List.replicate_succ, List.foldl_cons, rep_foldl c n, Array.toList_append, List.replicate_succ, List.append_assoc]
    rfl
theorem mul_sign (c : Nat) {k : Int} (h : 1 ≤ k) : Txt.mul (SX.S [c]) k = SX.S (List.replicate k.toNat c) := by
  unfold Txt.mul
  rw [if_neg (by omega)]
  split
  · rename_i e
    have e : (k == 1) = true := by
      rw [Bool.or_eq_true] at e
      rcases e with e | e
      · exact e
      · rw [SX.S_len] at e
        cases e
    rw [beq_iff_eq.mp e]
    rfl
  · refine str_ext ?_
    show ((List.replicate k.toNat (#[c] : Array Nat)).foldl (· ++ ·) #[]).toList = _
    rw [rep_foldl]
    rfl
/-! ### min of texts -/
def leastS (z : Str) (zs : List Str) : Str := zs.foldl (fun a y => if decide (y.cps.toList < a.cps.toList) = true then y else a) z
theorem minD_strs : ∀ (zs : List Str) (z : Str), PySem.W.minD (.str z) (zs.map PyData.str) = .str (leastS z zs)
  | [], z => rfl
  | y :: r, z => by
    have ih := minD_strs r (if decide (y.cps.toList < z.cps.toList) = true then y else z)
    unfold PySem.W.minD leastS at ih ⊢
    rw [List.map_cons, List.foldl_cons, List.foldl_cons, ← ih]
    congr 1
    rw [PySem.W.dataLt_str]
    split <;> rfl
theorem leastS_mem : ∀ (zs : List Str) (z : Str), leastS z zs ∈ z :: zs
  | [], z => List.mem_cons_self
  | y :: r, z => by
    have ih := leastS_mem r (if decide (y.cps.toList < z.cps.toList) = true then y else z)
    show leastS _ r ∈ _
    rcases List.mem_cons.mp ih with e | e
    · unfold leastS at e ⊢
      rw [e]
      split
      · exact List.mem_cons_of_mem _ List.mem_cons_self
      · exact List.mem_cons_self
    · exact List.mem_cons_of_mem _ (List.mem_cons_of_mem _ e)
theorem leastS_le : ∀ (zs : List Str) (z : Str), ∀ y ∈ z :: zs, leS (leastS z zs) y = true
  | [], z, y, h => by
    rw [List.mem_singleton.mp h]
    have := leS_total z z
    rw [Bool.or_self] at this
    exact this
  | y :: r, z, x, h => by
    have ih := leastS_le r (if decide (y.cps.toList < z.cps.toList) = true then y else z)
    show leS (leastS (if decide (y.cps.toList < z.cps.toList) = true then y else z) r) x = true
    have h0 := ih _ List.mem_cons_self
    by_cases c : y.cps.toList < z.cps.toList
    · rw [if_pos (decide_eq_true c)] at ih h0 ⊢
      rcases List.mem_cons.mp h with rfl | h
      · refine leS_trans _ _ _ h0 ?_
        have := leS_total x y
        rw [Bool.or_eq_true] at this
        rcases this with q | q
        · unfold leS at q
          rw [decide_eq_true c] at q
          cases q
        · exact q
      · rcases List.mem_cons.mp h with rfl | h
        · exact h0
        · exact ih _ (List.mem_cons_of_mem _ h)
    · rw [if_neg (by rw [decide_eq_false c]; decide)] at ih h0 ⊢
      rcases List.mem_cons.mp h with rfl | h
      · exact h0
      · rcases List.mem_cons.mp h with rfl | h
        · refine leS_trans _ _ _ h0 ?_
          unfold leS
          rw [decide_eq_false c]
          rfl
        · exact ih _ (List.mem_cons_of_mem _ h)
theorem depth_strs (zs : List Str) : PyData.depthAll (zs.map PyData.str) = 0 := by
  induction zs with
  | nil => rfl
  | cons z r ih =>
    show max (PyData.depth (.str z)) (PyData.depthAll (r.map PyData.str)) = 0
    rw [ih]
    simp [PyData.depth]
theorem alike_strs (zs : List Str) : PySem.W.AlikeAll (zs.map PyData.str) := by
  refine ⟨fun x hx y hy => ?_, fun x hx => ?_⟩
  · obtain ⟨a, _, rfl⟩ := List.mem_map.mp hx
    obtain ⟨b, _, rfl⟩ := List.mem_map.mp hy
    rfl
  · obtain ⟨a, _, rfl⟩ := List.mem_map.mp hx
    exact fun h => by cases h
def rMinS (K : PySem.W.Frag) : List V → Hp → VK → Prop := fun vs H Q => ∃ (a : Addr) (z : Str) (zs : List Str), vs = [.ref a] ∧ SqL K H a ((z :: zs).map V.str) ∧ Q (.str (leastS z zs)) H
theorem minSK {X : Cx} {k : Nat} (K : PySem.W.Frag) (hc : X.calm = true) (hr : Room k X.A) (h : X.K = K := by rfl) : CallR X (.builtin "min") (rMinS K) := by
  subst h
  rintro pins s σ H vs us Q I r ⟨a, z, zs, rfl, hs, q⟩
  obtain ⟨its, rv, hl, _⟩ := I.list hs
  rw [Vals.ref1 r]
  obtain ⟨as, hr2⟩ := Dp.readsAll I _ _ _ (dpAll_strs (z :: zs)) rv
  refine PySem.W.min_list_data (x := .str z) (xs := zs.map PyData.str) (I.ok.hd hc) hl.isList (as := as) ?_ (alike_strs (z :: zs)) ?_ fun i v h2 tk bs hv hrd hk => ?_
  · simpa using hr2
  · have e := depth_strs (z :: zs)
    have un := hr.un
    show _ + 1 + PyData.depthAll ((z :: zs).map PyData.str) < cLine
    rw [e]
    omega
  · rw [minD_strs] at hrd
    cases hrd
    exact ⟨.str _, H, I.kept hk, ⟨_, rfl⟩, q⟩
/-! ### max of ints, with a default -/
def greatestI (d : Int) : List Int → Int
  | [] => d
  | n :: r => r.foldl max n
theorem dpAll_ints {K : PySem.W.Frag} {H : Hp} : ∀ ns : List Int, DpAll K H (ns.map V.int) (ns.map PyData.int)
  | [] => .nil
  | n :: r => .cons (.int n) (dpAll_ints r)
theorem depth_ints (ns : List Int) : PyData.depthAll (ns.map PyData.int) = 0 := by
  induction ns with
  | nil => rfl
  | cons z r ih =>
    show max (PyData.depth (.int z)) (PyData.depthAll (r.map PyData.int)) = 0
    rw [ih]
    simp [PyData.depth]
theorem alike_ints (ns : List Int) : PySem.W.AlikeAll (ns.map PyData.int) := by
  refine ⟨fun x hx y hy => ?_, fun x hx => ?_⟩
  · obtain ⟨a, _, rfl⟩ := List.mem_map.mp hx
    obtain ⟨b, _, rfl⟩ := List.mem_map.mp hy
    rfl
  · obtain ⟨a, _, rfl⟩ := List.mem_map.mp hx
    exact fun h => by cases h
def rMaxDf (K : PySem.W.Frag) : List V → List V → Hp → VK → Prop := fun vs zs H Q => ∃ (a : Addr) (ns : List Int) (d : Int), vs = [.ref a] ∧ zs = [.int d] ∧ SqL K H a (ns.map V.int) ∧ Q (.int (greatestI d ns)) H
theorem maxDfK {X : Cx} {k : Nat} (K : PySem.W.Frag) (hc : X.calm = true) (hr : Room k X.A) (h : X.K = K := by rfl) : CallRK X (.builtin "max") [Str.ofString "default"] (rMaxDf K) := by
  subst h
  rintro pins s σ H vs zs us ws Q I r r2 ⟨a, ns, d, rfl, rfl, hs, q⟩
  obtain ⟨its, rv, hl, _⟩ := I.list hs
  rw [Vals.ref1 r]
  cases r2 with
  | cons rd r3 =>
    cases r3
    obtain ⟨t, rfl⟩ := rd
    obtain ⟨as, hr2⟩ := Dp.readsAll I _ _ _ (dpAll_ints ns) rv
    refine PySem.W.max_list_default (xs := ns.map PyData.int) (I.ok.hd hc) hl.isList (as := as) ?_ (alike_ints ns) ?_ (fun e h2 tk hk => ?_) fun y ys i v h2 tk bs e hv hrd hk => ?_
    · simpa using hr2
    · have un := hr.un
      rw [depth_ints]
      omega
    · cases ns with
      | nil => exact ⟨.int d, H, I.kept hk, ⟨_, rfl⟩, q⟩
      | cons n r => cases e
    · cases ns with
      | nil => cases e
      | cons n r =>
        cases e
        rw [PySem.W.maxD_ints] at hrd
        cases hrd
        exact ⟨.int _, H, I.kept hk, ⟨_, rfl⟩, q⟩
/-! ### a class whose __init__ has a parameter by name alone -/
structure MakXK (P : Program) (w : World) (K : PySem.W.Frag) (mg : Str → Option Value) (base : Heap) (k : Nat) (x : Str) (C : Addr) (n : Nat) (ks : List Str) (sp : Sp) : Prop where
  ex : ∃ (f : Addr) (fd : FuncData) (ps : List Str), Mk K C f ∧ FnOk P w K mg base (L2.CX P w) k f fd ps sp ∧ mg x = some (.ref C) ∧ KBn K fd ps (n + 1) ks (fun us ws => us ++ ws) (fun vs zs => vs ++ zs)
def tMakeKS (C : Addr) (n m : Nat) (sp : Sp) (E : L2.St → XK) (t tk : TA) : TE := fun σ H Q => t σ H fun vs G => tk σ G fun zs G2 => vs.length = n ∧ zs.length = m ∧
  ∀ x dx, G2 x = none → G2 dx = none → dx ≠ x → sp ((.ref x :: vs) ++ zs) (upd (upd G2 dx (.own x)) x (.ins C dx [])) (fun v G3 => v = .non ∧ Q (.ref x) G3) (E σ)
section
variable {X : Cx} {k j n : Nat} {C : Addr} {x : Str} {ks : List Str} {sp : Sp} {p pos : Pos} {e : Expr} {es : List Expr} {kws : List Keyword} {t tk : TA}
theorem pe_mkKN (c : MakXK X.prog X.w X.K X.mg X.base k x C n ks sp) (hr : Room j X.A) (hk : k + 1 ≤ j) (ha : PA X (e :: es) t) (hkw : PK X kws tk) (hg : Gl X x := by rfl)
    (hall : (backToKw pos (keywordEach kws X.env)).all (·.1.isSome) = true := by rfl) (hks : (backToKw pos (keywordEach kws X.env)).filterMap (·.1) = ks := by rfl) (hdb : (x == ("__debug__" : Str)) = false := by decide)
    (he : starEach (e :: es) X.env = (false, eval e X.env) :: starEach es X.env := by rfl) (hpl : ((backTo pos (starEach (e :: es) X.env)).any (·.1) || (backToKw pos (keywordEach kws X.env)).any (·.1.isNone)) = false := by rfl) :
    PE X (.Call (.Name x p) (e :: es) kws pos) (tMakeK C n ks.length sp (fun vs zs => vs ++ zs) (fun _ _ _ => False) t tk) := by
  obtain ⟨f, fd, ps, M, F, hm, b⟩ := c.ex
  exact pe_makeK M F (hr.mono hk) hg hm b (passN rfl) ha hkw hall hks hdb he hpl
theorem pe_mkKS (c : MakXK X.prog X.w X.K X.mg X.base k x C n ks sp) (hr : Room j X.A) (hk : k + 1 ≤ j) {E : L2.St → XK} (hx : ∀ σ, PassesAt (L2.CX X.prog X.w) X σ (E σ)) (ha : PA X (e :: es) t) (hkw : PK X kws tk) (hg : Gl X x := by rfl)
    (hall : (backToKw pos (keywordEach kws X.env)).all (·.1.isSome) = true := by rfl) (hks : (backToKw pos (keywordEach kws X.env)).filterMap (·.1) = ks := by rfl) (hdb : (x == ("__debug__" : Str)) = false := by decide)
    (he : starEach (e :: es) X.env = (false, eval e X.env) :: starEach es X.env := by rfl) (hpl : ((backTo pos (starEach (e :: es) X.env)).any (·.1) || (backToKw pos (keywordEach kws X.env)).any (·.1.isNone)) = false := by rfl) :
    PE X (.Call (.Name x p) (e :: es) kws pos) (tMakeKS C n ks.length sp E t tk) := by
  obtain ⟨fI, data, names, M, F, glob, binds⟩ := c.ex
  have room := hr.mono hk
  constructor
  intro pins s σ H Q I w
  refine wpAny_Call_Name_kw (ld_glob I hg glob (PySem.W.callWith_KW (h₀ := X.base) I.ok.mod.kin M.kp hall (thn (ha.run pos pins s σ H _ I w) ?_) hpl he) hdb)
  rintro us s2 ⟨vs, G, J, rel, w2⟩
  refine thn (hkw.run pos pins s2 σ G _ J w2) ?_
  rintro ws s3 ⟨zs, G2, J2, rel2, n1, n2, w3⟩
  refine ⟨J2.kIn, ?_⟩
  rw [hks]
  let m := s3.heap.objs.size
  have sat := w3 (m + 1) m (J2.hok.fresh (Nat.le_succ _)) (J2.hok.fresh (Nat.le_refl _)) (Nat.ne_of_lt (Nat.lt_succ_self _))
  have made := Inv.made (C := C) J2
  have args : Vals (V.ref (m + 1) :: vs) (Value.ref (m + 1) :: us) := .cons rfl rel
  have many : (Value.ref (m + 1) :: us).length = n + 1 := by
    have := rel.length
    rw [List.length_cons, ← this, n1]
  have bound := binds.to _ (Value.ref (m + 1) :: us) ws made.kIn many (rel2.length.symm.trans n2)
  have runs := F.run _ X.stack _ _ ⟨Value.ref (m + 1) :: us, ks.zip ws⟩ _ _ _ (E σ) (room.make C us (ks.zip ws)) (made.env0.make C us (ks.zip ws)) bound (binds.rel args rel2) sat
  refine wpAny_call (make_map (f := fI) J2.kIn M.makes M.init (beq_iff_eq.mp M.fn) (codeAny_mono runs fun out t2 q => ?_))
  match out, q with
  | .error e, q => exact hx σ pins _ _ e t2 made q
  | .ok (.ret u), q =>
    obtain ⟨v, G3, J3, rv, ev, q2⟩ := made.after q
    cases ev
    exact ⟨rv, V.ref (m + 1), G3, J3, rfl, q2⟩
end
/-! ### == of an instance and a value of another class, by the class's own __eq__ -/
section
variable {X : Cx} {n : Nat} {C f : Addr} {fd : FuncData} {ps : List Str} {sp : Sp}
def rEqX (K : PySem.W.Frag) (C : Addr) (sp : Sp) : R2 := fun x y H Q => ∃ (a dx : Addr) (fs : List (Str × V)) (t : Value), x = .ref a ∧ H a = some (.ins C dx fs) ∧ TyX K H y t ∧ PySem.W.notFirst K C t = true ∧ sp [.ref a, y] H (fun v G => ∃ r, v = .bl r ∧ Q (.bl r) G) (fun _ _ _ => False)
theorem op_eqX (K : PySem.W.Frag) (F : FnOk X.prog X.w X.K X.mg X.base C8.CX0 n f fd ps sp) (hb : Binds X.K fd ps []) (T : NeC X.K C f) (hr : Room n X.A) (hK : X.K = K := by rfl) : OpR X (compareOp .Eq) (rEqX K C sp) := by
  subst hK
  rintro pins s σ H x y u v Q I rx ry ⟨a, dx, fs, t, rfl, ha, ty, nf, hs⟩
  cases rx
  obtain ⟨mA, J, _⟩ := ins_get I.hok ha
  obtain ⟨od, J, _⟩ := J.look
  obtain ⟨m, hF⟩ := I.fr
  obtain ⟨P0, kx, hp, _⟩ := kit_of I ry ty
  refine PySem.W.cmp_K (op := .Eq) (tb := t) hr.units0 hF I.ok.mod.kin J (kx.ty _ _ I.kIn hp) nf T.eq T.fn ?_
  have e0 := I.env0
  have hx : Passes C8.CX0 X (fun _ _ _ => False) := C8.pass0
  have r2 : Vals [V.ref a, y] [Value.ref a, v] := .cons rfl (.cons ry .nil)
  have hl := F.len _ _ _ _ hs
  have bb := hb s [.ref a, v] I.kIn (by rw [List.append_nil]; exact hl)
  rw [List.append_nil] at bb
  refine wpAny_call (codeAny_mono (F.run X.A X.stack s H ⟨[.ref a, v], []⟩ _ _ _ _ hr e0 bb r2 hs) fun out s2 hq => ?_)
  match out, hq with
  | .error e, hq => exact hx _ _ _ _ _ _ I hq
  | .ok (.ret w), hq =>
    obtain ⟨z, G, J2, rz, r, rfl, q⟩ := I.after hq
    cases rz
    exact ⟨.bl r, G, J2, rfl, q⟩
end
/-! ### isinstance of a caught error that has a dict of its own -/
structure IsC (K : PySem.W.Frag) (D : Addr) : Prop where
  cl : PySem.W.isClsIn K D = true
  xf : XfC K D
  ca : PySem.W.findIn K (.ref D) "__class__" = some (some (.builtin "object.__class__"))
  cg : PySem.W.specialIn K (.builtin "object.__class__") "__get__" = some (some (.builtin "getset_descriptor.__get__"))
  ct : PySem.W.takesIn K (.builtin "object.__class__") = some true
  cm : PySem.W.mroIn K D (.type "object") = some true
def rIsD (K : PySem.W.Frag) (D : Addr) (cls : Value) (d : Option Addr) (a : Addr) : List V → Hp → VK → Prop := fun xs H Q => ∃ (c : V) (u : Value) (b : Bool) (dd : Addr) (fs : List (Str × V)), xs = [.ref a, c] ∧ ClsV c u ∧ cls = .ref D ∧ d = some dd ∧ H dd = some (.xd fs) ∧ PySem.W.kitOne K (.ref D) u = some b ∧ Q (.bl b) H
theorem call_isD {X : Cx} {a D : Addr} {oe : Obj} {cls : Value} {d : Option Addr} {pn : List (Addr × Obj)} (C : IsC X.K D) (hz : Zc cls d oe) (hf : ∃ vs, oe.data = .fields vs) : CallR (X.suite a ((a, oe) :: pn)) (.builtin "isinstance") (rIsD X.K D cls d a) := by
  rintro pins s σ H xs us Q I r ⟨c, u, b, dd, fs, rfl, hc, rfl, rfl, hd, e, q⟩
  match us, r with
  | [v, w], .cons rv (.cons rw .nil) =>
    cases rv
    have ec := hc.eq rw
    subst ec
    obtain ⟨at1, _⟩ := I.pin (a, oe) (List.mem_append_left _ List.mem_cons_self)
    obtain ⟨vs, hv⟩ := hf
    obtain ⟨mA, hns, _⟩ := (show ObjOk X.prog X.w H s.heap dd (.xd fs) from I.hok dd _ hd)
    obtain ⟨od, ho, _⟩ := lookIn_ns hns
    have J : PySem.W.InstAt s.heap a oe D (some od) := ⟨at1, hz.1, by unfold PySem.W.notCls; rw [hv] <;> rfl, by rw [hz.2]; exact ho⟩
    exact PySem.W.kia_one (PySem.W.kitx_exc C.cl C.xf.ga C.xf.gg C.xf.exC C.ca C.cg C.ct C.cm) I.kIn J e (fun z => nomatch z) fun tk => ⟨.bl b, H, I.kept (t' := tk) fun _ _ z => z, rfl, q⟩
theorem kit_sub {K : PySem.W.Frag} {t : Value} {C : Addr} {r : Bool} (h1 : PySem.W.isClsIn K C = true) (h2 : PySem.W.typeIn K (.ref C) = some (.type "type")) (h3 : PySem.W.subIn K t (.ref C) = some r) (h4 : r = true ∨ t ≠ .ref C) : PySem.W.kitOne K t (.ref C) = some r := by
  unfold PySem.W.kitOne
  by_cases c : (t == Value.ref C) = true
  · rw [if_pos c]
    rcases h4 with h4 | h4
    · rw [h4]
    · exact absurd (beq_iff_eq.mp c) h4
  · rw [if_neg c]
    unfold PySem.W.kitCls
    have e : ((PySem.W.clsIn K C).isSome && PySem.W.typeIn K (.ref C) == some (.type "type")) = true := Bool.and_eq_true_iff.mpr ⟨h1, beq_iff_eq.mpr h2⟩
    show (if _ = true then _ else _) = _
    rw [if_pos e]
    exact h3
theorem nf_of {K : PySem.W.Frag} {t : Value} {C : Addr} (h : PySem.W.subIn K t (.ref C) = some false) : PySem.W.notFirst K C t = true := by
  unfold PySem.W.notFirst
  rw [h]
  exact Bool.or_true _
/-! ### a dict comprehension over any walk -/
theorem dc_it {J : It} {n : Nat} {G : Hp → Prop} {Y : Nat → Hp → V → Hp → Prop} (w : Walk J n G Y) {g : TG} {tt : TT} {tk tv : TE} {vs : List Nat} {σ : L2.St} {H0 : Hp} {D : Addr} {Qd : Hp → Prop} (Pv : Nat → Hp → Prop) (h0 : Pv 0 (upd H0 D (.dK []))) (hG : ∀ i H, i ≤ n → Pv i H → G H)
    (hs : ∀ i x H H2, i < n → Pv i H → Y i H x H2 → g x (wipe σ vs) H2 fun σ2 H3 => wipe σ2 vs = wipe σ vs ∧ tt σ2 H3 fun b H4 =>
      if b = true then tk σ2 H4 fun y H5 => tv σ2 H5 fun z H6 => ∃ kvs k, y = kV k ∧ H6 D = some (.dK kvs) ∧ kvs.length < sizeLine ∧ Pv (i + 1) (upd H6 D (.dK (putK kvs k z))) else Pv (i + 1) H4) (hd : ∀ H, Pv n H → Qd H) :
    ∃ W : Nat → Nat → Hp → Prop, (∃ m, W 0 m (upd H0 D (.dK []))) ∧ ∀ i m H, W i m H →
      (J.stop i H ∧ Qd H) ∨ (J.go i H ∧ ∃ Nx : Hp → Prop, (∀ H2, Nx H2 → ∃ m2, m2 < m ∧ W (i + 1) m2 H2) ∧ ∀ x H2, J.yld i H x H2 → g x (wipe σ vs) H2 fun σ2 H3 => wipe σ2 vs = wipe σ vs ∧ tt σ2 H3 fun b H4 =>
        if b = true then tk σ2 H4 fun y H5 => tv σ2 H5 fun z H6 => ∃ kvs k, y = kV k ∧ H6 D = some (.dK kvs) ∧ kvs.length < sizeLine ∧ Nx (upd H6 D (.dK (putK kvs k z))) else Nx H4) := by
  refine ⟨fun i left H => left = n - i ∧ (i ≤ n ∧ Pv i H), ⟨n, by omega, Nat.zero_le n, h0⟩, ?_⟩
  rintro i m H ⟨rfl, hi, p⟩
  have q := hG i H hi p
  by_cases c : i < n
  · exact .inr ⟨w.goes i H c q, Pv (i + 1), fun H2 p2 => ⟨n - (i + 1), by omega, rfl, c, p2⟩, fun x H2 y => hs i x H H2 c p (w.yields i H x H2 c q y)⟩
  · have e : i = n := by omega
    subst e
    exact .inl ⟨w.stops H q, hd H p⟩
end BF
set_option Elab.async false
set_option linter.all false
set_option maxRecDepth 100000
set_option maxHeartbeats 4000000
/-! sets of texts: made of lists and dicts, joined, sorted -/
namespace BF
open PySem PySem.Spec PyProof.Rows L2
open PySem.Froz (SD sObj TxOk addTx tailTx add_x is_str get_upd)
/-- the payload D holds the texts l and may be walked -/
structure TsOk (P : Program) (w : World) (D : SD) (l : List Str) : Prop where
  tx : TxOk P w D l
  ris : Ris D.2.2.place.toList
  led : w.params.followText "set-order" = true ∨ D.2.2.led = true
  nd : l.Nodup
  few : l.length < 1000
section
variable {P : Program} {w : World} {A : Around} {E : Value → Shared → Prop} {s : Shared}
theorem tail_more {ep : Nat} {es : Array (Int × Value)} {t : SetTable} {wd : Bool} (r : Ris t.place.toList) {b : Bool} (l : b = true ∨ t.led = true) : Ris (tailTx ep es t wd).2.2.place.toList ∧ (b = true ∨ (tailTx ep es t wd).2.2.led = true) := by
  unfold tailTx
  by_cases c : (!wd && t.tooFull) = true
  · rw [if_pos c]
    exact ⟨relayAll_ris t es _, l.imp id fun z => (relayAll_led t es _).trans z⟩
  · rw [if_neg c]
    exact ⟨r, l⟩
theorem TsOk.add {D : SD} {l : List Str} {k : Str} (u : Tok) (F : TsOk P w D l) (hk : k ∉ l) (hl : l.length + 1 < 1000) : TsOk P w (addTx (hashStr w k) (.str k u) D) (k :: l) := by
  obtain ⟨es, ep, t⟩ := D
  have r0 : Ris t.place.toList := F.ris
  have l0 : w.params.followText "set-order" = true ∨ t.led = true := F.led
  have r1 := layNew_ris t es (hashStr w k) (.str k u) r0
  have l1 : w.params.followText "set-order" = true ∨ (layNew t es (hashStr w k) (.str k u)).2.1.led = true := l0.imp id fun z => (layNew_led t es (hashStr w k) (.str k u)).trans z
  have q : ∀ T : SetTable, Ris T.place.toList ∧ (w.params.followText "set-order" = true ∨ T.led = true) → Ris (if T.plain = true then { T with plain := false } else T).place.toList ∧ (w.params.followText "set-order" = true ∨ (if T.plain = true then { T with plain := false } else T).led = true) := fun T h => by
    by_cases c : T.plain = true
    · rw [if_pos c]
      exact h
    · rw [if_neg c]
      exact h
  obtain ⟨r2, l2⟩ := q _ ⟨r1, l1⟩
  obtain ⟨r3, l3⟩ := tail_more (ep := ep) (es := (layNew t es (hashStr w k) (.str k u)).1) (wd := (layNew t es (hashStr w k) (.str k u)).2.2.1) r2 l2
  exact ⟨PySem.Froz.add_ok u F.tx, r3, l3, List.nodup_cons.mpr ⟨hk, F.nd⟩, hl⟩
theorem bound_1000 {n : Nat} (h : n < 1000) : n + 1 < scanBound := by
  unfold scanBound
  omega
/-- a text that is there already -/
theorem add_old {a : Addr} {D : SD} {l : List Str} {k : Str} {u : Tok} {Q : Bool → Shared → Prop} (ho : s.heap.get? a = some (sObj "set" D)) (F : TsOk P w D l) (hk : k ∈ l) (h : Q false s) :
    wpAny (model P w) A (setAddHashed a (.str k u) (hashStr w k)) Q E s := by
  obtain ⟨es, ep, t⟩ := D
  have hf : t.fits es.size = true := F.tx.fit
  have hel : ElemsOf (strKind P w) es.toList := F.tx.el
  have hsz : es.size = l.length := F.tx.sz
  have hb := bound_1000 F.few
  have hn : ∃ j, List.findIdx? (fun e => (strKind P w).is k e.2) es.toList = some j := by
    cases hr : List.findIdx? (fun e => (strKind P w).is k e.2) es.toList with
    | some j => exact ⟨j, rfl⟩
    | none =>
      obtain ⟨e, he, q⟩ := (F.tx.mem k).mp hk
      have c := List.findIdx?_eq_none_iff.mp hr e he
      rw [q] at c
      cases c
  obtain ⟨j, hj⟩ := hn
  unfold setAddHashed setAddHashedIn
  (refine wpAny_holding (wpAny_bind (wpAny_setState_of (es := es) (ep := ep) (t := t) ho rfl hf ?_)))
  (dsimp only; rw [byScan_of (x := .str k u) rfl (by omega) hel]; simp only [↓reduceIte])
  unfold setAddByScan
  (refine wpAny_bind ?_; refine wpAny_bind (wpAny_rule ?_))
  (refine wpAny_bind (wpAny_setScan_of (knd := strKind P w) (k := k) (is_str k u) ho rfl hf hel ?_); rw [hj])
  dsimp only
  exact wpAny_pure (wpAny_pure h)
/-- what a set of texts holds, behind one more -/
def plus (l : List Str) (k : Str) : List Str := if k ∈ l then l else k :: l
theorem plus_nd {l : List Str} {k : Str} (h : l.Nodup) : (plus l k).Nodup := by
  unfold plus
  split
  · exact h
  · exact List.nodup_cons.mpr ⟨by assumption, h⟩
theorem mem_plus {l : List Str} {k x : Str} : x ∈ plus l k ↔ x ∈ l ∨ x = k := by
  unfold plus
  split
  · exact ⟨.inl, fun h => h.elim id fun e => by rw [e]; assumption⟩
  · rw [List.mem_cons]
    exact Or.comm
theorem plus_len {l : List Str} {k : Str} : (plus l k).length ≤ l.length + 1 := by
  unfold plus
  split
  · omega
  · exact Nat.le_refl _
theorem add_any {a : Addr} {D : SD} {l : List Str} {k : Str} {u : Tok} {Q : Bool → Shared → Prop} (ho : s.heap.get? a = some (sObj "set" D)) (F : TsOk P w D l) (hl : l.length + 1 < 1000)
    (h : ∀ (b : Bool) D' h', TsOk P w D' (plus l k) → h'.get? a = some (sObj "set" D') → Heap.SameBut a s.heap h' → Q b { s with heap := h' }) :
    wpAny (model P w) A (setAddHashed a (.str k u) (hashStr w k)) Q E s := by
  by_cases hk : k ∈ l
  · have e : plus l k = l := if_pos hk
    refine add_old ho F hk ?_
    exact h false D s.heap (by rw [e]; exact F) ho (Heap.SameBut.refl a s.heap)
  · have e : plus l k = k :: l := if_neg hk
    refine add_x ho F.tx hk (by unfold scanBound; omega) ?_
    exact h true _ _ (by rw [e]; exact F.add u hk hl) (get_upd _ ho rfl) (Heap.SameBut.update ..)
end
/-! ### laying texts anew in a table of 8 to 128 places -/
def MaskU (m : Nat) : Prop := m = 7 ∨ m = 15 ∨ m = 31 ∨ m = 63 ∨ m = 127
def roundOk (m : Nat) : Bool := ((List.range (m + 1)).all fun j => (List.range (m + 1)).any fun b => lcgN m b == j) && lcgN m (m + 1) == 0
theorem rounds_ok : roundOk 7 = true ∧ roundOk 15 = true ∧ roundOk 31 = true ∧ roundOk 63 = true ∧ roundOk 127 = true := by
  refine ⟨?_, ?_, ?_, ?_, ?_⟩ <;> decide +kernel
theorem MaskU.round {m : Nat} (h : MaskU m) : roundOk m = true := by
  obtain ⟨h1, h2, h3, h4, h5⟩ := rounds_ok
  rcases h with rfl | rfl | rfl | rfl | rfl <;> assumption
theorem round_from {m : Nat} (h : MaskU m) {j : Nat} (hj : j ≤ m) : ∃ b, b ≤ m ∧ lcgN m b = j := by
  have q := (Bool.and_eq_true _ _ ▸ h.round : _ ∧ _).1
  have q1 := List.all_eq_true.mp q j (List.mem_range.mpr (Nat.lt_succ_of_le hj))
  obtain ⟨b, hb, e⟩ := List.any_eq_true.mp q1
  exact ⟨b, Nat.le_of_lt_succ (List.mem_range.mp hb), beq_iff_eq.mp e⟩
theorem round_back {m : Nat} (h : MaskU m) : ∀ k, lcgN m (m + 1 + k) = lcgN m k
  | 0 => beq_iff_eq.mp (Bool.and_eq_true _ _ ▸ h.round : _ ∧ _).2
  | k + 1 => congrArg (fun z => (z * 5 + 1) % (m + 1)) (round_back h k)
theorem round_any {m i j : Nat} (h : MaskU m) (hi : i ≤ m) (hj : j ≤ m) : ∃ k, k ≤ m ∧ lcgI m i k = j := by
  obtain ⟨a, ha, ea⟩ := round_from h hi
  obtain ⟨b, hb, eb⟩ := round_from h hj
  rw [← ea]
  by_cases c : a ≤ b
  · exact ⟨b - a, by omega, (lcgN_add m a (b - a)).trans ((congrArg (lcgN m) (show a + (b - a) = b by omega)).trans eb)⟩
  · refine ⟨b + (m + 1) - a, by omega, (lcgN_add m a _).trans ((congrArg (lcgN m) (show a + (b + (m + 1) - a) = m + 1 + b by omega)).trans ?_)⟩
    exact (round_back h b).trans eb
theorem run_any {m j : Nat} (hm : MaskU m) (h : Int) (hj : j ≤ m) : ∃ n, n ≤ m + 12 ∧ runI m (SetTable.bits h) n = j := by
  obtain ⟨k, hk, e⟩ := round_any hm (runI_le m (SetTable.bits h) 12) hj
  exact ⟨12 + k, by omega, (runI_tail (bits_lt h) k).trans e⟩
theorem nth_le {m : Nat} : ∀ (f i b K : Nat), i ≤ m → K ≤ off m i b f → (nth m (runAt m i b) K).j ≤ m := by
  intro f
  induction f with
  | zero =>
    intro i b K hi hK
    rw [show K = 0 from Nat.le_zero.mp hK]
    exact hi
  | succ f ih =>
    intro i b K hi hK
    have hb := runEnd_bd hi
    by_cases c : K ≤ SetTable.runEnd m i - i
    · rw [nth_run m i b K c]
      show i + K ≤ m
      omega
    · obtain ⟨K', rfl⟩ : ∃ K', K = SetTable.runEnd m i - i + 1 + K' := ⟨K - (SetTable.runEnd m i - i + 1), by omega⟩
      rw [nth_add, nth_leap]
      have hK' : SetTable.runEnd m i - i + 1 + K' ≤ (SetTable.runEnd m i - i + 1) + off m (SetTable.leap m i b).1 (SetTable.leap m i b).2 f := hK
      exact ih _ _ K' (Nat.le_of_lt_succ (Nat.mod_lt _ (Nat.succ_pos _))) (by omega)
theorem free_any {m : Nat} (hm : MaskU m) (owner : Array (Option Nat)) (h : Int) {j : Nat} (hj : j ≤ m) (hf : oAt owner j = none) :
    ∃ i, i ≤ m ∧ SetTable.layClean.free m owner (SetTable.turns m) (SetTable.bits h % (m + 1)) (SetTable.bits h) = some i ∧ oAt owner i = none := by
  obtain ⟨n, hn, e⟩ := run_any hm h hj
  obtain ⟨p, hp⟩ : ∃ p : Nat → Prop, p = fun k => oAt owner (nth m (runAt m (SetTable.bits h % (m + 1)) (SetTable.bits h)) k).j = none := ⟨_, rfl⟩
  have at0 : p (off m (SetTable.bits h % (m + 1)) (SetTable.bits h) n) := by
    rw [hp]
    show oAt owner (nth m _ _).j = none
    rw [nth_off, itL_run]
    show oAt owner (runI m (SetTable.bits h) n) = none
    rw [e]
    exact hf
  obtain ⟨K, k1, k2, k3⟩ := st_least _ at0
  rw [hp] at k2 k3
  have i0 : SetTable.bits h % (m + 1) ≤ m := Nat.le_of_lt_succ (Nat.mod_lt _ (Nat.succ_pos _))
  refine ⟨_, nth_le n _ _ K i0 k1, free_spec m owner _ n _ _ K (by unfold SetTable.turns; omega) k1 (fun k hk => ?_) ?_, k2⟩
  · have q := k3 k hk
    cases z : oAt owner (nth m (runAt m (SetTable.bits h % (m + 1)) (SetTable.bits h)) k).j with
    | none => exact (q z).elim
    | some _ => rfl
  · have q : oAt owner (nth m (runAt m (SetTable.bits h % (m + 1)) (SetTable.bits h)) K).j = none := k2
    rw [q]
    rfl
/-- n hashes are laid -/
structure Laid (m n : Nat) (owner : Array (Option Nat)) : Prop where
  sz : owner.size = m + 1
  all : ∀ k, k < n → ∃ j, j ≤ m ∧ oAt owner j = some k
  ps : ∃ ps : List Nat, ps.length = n ∧ ∀ j, j ≤ m → oAt owner j ≠ none → j ∈ ps
theorem Laid.none (m : Nat) : Laid m 0 (Array.replicate (m + 1) .none) :=
  ⟨Array.size_replicate, fun k hk => absurd hk (Nat.not_lt_zero _), ⟨[], rfl, fun j hj e => absurd (oAt_init hj) e⟩⟩
theorem Laid.more {m n : Nat} {owner : Array (Option Nat)} (hm : MaskU m) (L : Laid m n owner) (hn : n ≤ m) (h : Int) :
    ∃ j, SetTable.layClean.free m owner (SetTable.turns m) (SetTable.bits h % (m + 1)) (SetTable.bits h) = some j ∧ Laid m (n + 1) (owner.setIfInBounds j (some n)) := by
  obtain ⟨ps, hps, hin⟩ := L.ps
  obtain ⟨j0, h0, hn0⟩ := st_missing ps (m + 1) (by omega)
  have hj0 : oAt owner j0 = .none := by
    cases z : oAt owner j0 with
    | none => rfl
    | some k => exact absurd (hin j0 (Nat.le_of_lt_succ h0) (by rw [z]; simp)) hn0
  obtain ⟨i, hi, e1, e2⟩ := free_any hm owner h (Nat.le_of_lt_succ h0) hj0
  have his : i < owner.size := by rw [L.sz]; omega
  refine ⟨i, e1, (Array.size_setIfInBounds ..).trans L.sz, fun k hk => ?_, ⟨i :: ps, by rw [List.length_cons, hps], fun j hj e => ?_⟩⟩
  · by_cases c : k < n
    · obtain ⟨j, hj, e⟩ := L.all k c
      exact ⟨j, hj, (oAt_set_ne _ (fun z => by rw [z, e2] at e; cases e)).trans e⟩
    · exact ⟨i, hi, (oAt_set_self _ his).trans (congrArg some (by omega))⟩
  · by_cases c : j = i
    · rw [c]; exact List.mem_cons_self
    · exact List.mem_cons_of_mem _ (hin j hj (by rw [oAt_set_ne _ c] at e; exact e))
theorem lay_fold {m : Nat} (hm : MaskU m) : ∀ (hs : List Int) (n : Nat) (owner : Array (Option Nat)), Laid m n owner → n + hs.length ≤ m + 1 →
    ∃ o', hs.foldl (stepF m) (some (owner, n)) = some (o', n + hs.length) ∧ Laid m (n + hs.length) o'
  | [], n, owner, L, _ => ⟨owner, rfl, L⟩
  | h :: hs, n, owner, L, hl => by
    have hl' : n + (hs.length + 1) ≤ m + 1 := hl
    obtain ⟨j, e, L'⟩ := L.more hm (by omega) h
    obtain ⟨o', f, L2⟩ := lay_fold hm hs (n + 1) _ L' (by omega)
    have en : n + 1 + hs.length = n + (h :: hs).length := by rw [List.length_cons]; omega
    rw [en] at f L2
    exact ⟨o', by rw [List.foldl_cons, stepF_some e]; exact f, L2⟩
theorem lay_ok {m : Nat} (hm : MaskU m) {hs : Array Int} (hn : hs.size ≤ m + 1) : ∃ owner, SetTable.layClean m hs = some owner ∧ Laid m hs.size owner := by
  obtain ⟨o', f, L⟩ := lay_fold hm hs.toList 0 _ (Laid.none m) (by rw [Nat.zero_add]; exact hn)
  rw [Nat.zero_add] at L
  exact ⟨o', by rw [layClean_eq, f]; rfl, L⟩
/-- the table that is laid, and the order -/
theorem laid_ok {m : Nat} (hm : MaskU m) (finger moves : Nat) (led plain : Bool) {hs : Array Int} (hn : hs.size ≤ m) :
    ∃ t order, SetTable.laid m finger moves led plain hs = some (t, order) ∧ order.toList.Perm (List.range hs.size) ∧ Ris t.place.toList ∧ t.place.size = hs.size ∧ t.led = led ∧ t.mask = m ∧ t.dummies = #[] := by
  obtain ⟨owner, e, L⟩ := lay_ok hm (hs := hs) (by omega)
  obtain ⟨live, hlive⟩ : ∃ live, live = liveOf m owner := ⟨_, rfl⟩
  have ris : Ris (live.map (·.1)) ∧ ∀ x ∈ live.map (·.1), x ∈ List.range (m + 1) := by
    rw [hlive]
    refine ris_live (fun j => owner.getD j none) (List.range (m + 1)) ?_
    unfold Ris
    first | exact List.pairwise_lt_range | exact List.pairwise_lt_range _
  have inl : ∀ j k, (j, k) ∈ live ↔ j ≤ m ∧ oAt owner j = some k := fun j k => by
    rw [hlive]
    exact mem_live L.sz
  have len : live.length = hs.size := by
    obtain ⟨ps, p1, p2⟩ := L.ps
    have nd : (live.map (·.1)).Nodup := List.Pairwise.imp (fun h => Nat.ne_of_lt h) ris.1
    have a := nat_nodup_len (live.map (·.1)) ps nd fun x hx => by
      obtain ⟨⟨y, k⟩, hq, rfl⟩ := List.mem_map.mp hx
      obtain ⟨b1, b2⟩ := (inl y k).mp hq
      exact p2 y b1 (by rw [b2]; simp)
    have b := nat_nodup_len (List.range hs.size) (live.map (·.2)) List.nodup_range fun k hk => by
      obtain ⟨j, b1, b2⟩ := L.all k (List.mem_range.mp hk)
      exact List.mem_map.mpr ⟨(j, k), (inl j k).mpr ⟨b1, b2⟩, rfl⟩
    rw [List.length_map, p1] at a
    rw [List.length_map, List.length_range] at b
    omega
  refine ⟨{ mask := m, place := (live.map (·.1)).toArray, dummies := #[], finger, led, moves, plain }, (live.map (·.2)).toArray, ?_, ?_, ris.1, ?_, rfl, rfl, rfl⟩
  · unfold SetTable.laid
    rw [e, hlive]
    rfl
  · refine perm_range _ _ ?_ fun k hk => ?_
    · show (live.map (·.2)).length = _
      rw [List.length_map, len]
    · obtain ⟨j, b1, b2⟩ := L.all k hk
      exact List.mem_map.mpr ⟨(j, k), (inl j k).mpr ⟨b1, b2⟩, rfl⟩
  · show (live.map (·.1)).toArray.size = _
    rw [List.size_toArray, List.length_map, len]
/-! ### a set's payload is stored, laid anew, filled from another one's -/
theorem range_at {α : Type} : ∀ l : List α, (List.range l.length).filterMap (l[·]?) = l
  | [] => rfl
  | x :: r => by
    rw [List.length_cons, List.range_succ_eq_map, List.filterMap_cons, List.filterMap_map]
    exact congrArg (x :: ·) (range_at r)
theorem order_perm {α : Type} {es : Array α} {order : Array Nat} {n : Nat} (hn : n = es.size) (p : order.toList.Perm (List.range n)) : (order.filterMap (es[·]?)).toList.Perm es.toList := by
  subst hn
  have q := p.filterMap (es.toList[·]?)
  rw [show es.size = es.toList.length from rfl, range_at] at q
  rw [Array.toList_filterMap]
  simpa only [Array.getElem?_toList] using q
section
variable {P : Program} {w : World} {A : Around} {E : Value → Shared → Prop} {s : Shared}
theorem store_x {a : Addr} {D : SD} {es : Array (Int × Value)} {t : SetTable} {Q : Unit → Shared → Prop} (ho : s.heap.get? a = some (sObj "set" D)) (hb : es.size < 1000)
    (h : Q () { s with heap := s.heap.update a fun _ => sObj "set" (es, D.2.1 + 1, t) }) : wpAny (model P w) A (storeSet a es t) Q E s := by
  have e : s.heap.update a (Obj.putSet es t) = s.heap.update a fun _ => sObj "set" (es, D.2.1 + 1, t) := (PySem.Froz.upd_const _ ho).trans rfl
  refine wpAny_storeSet_of (es := D.1) (ep := D.2.1) (t := D.2.2) ho rfl ?_ (by rw [sizeLine_eq]; omega)
  rw [e]
  exact h
theorem state_x {a : Addr} {D : SD} {l : List Str} {Q : (Array (Int × Value) × Nat × SetTable) → Shared → Prop} (ho : s.heap.get? a = some (sObj "set" D)) (F : TsOk P w D l) (h : Q (D.1, D.2.1, D.2.2) s) : wpAny (model P w) A (setState a) Q E s :=
  wpAny_setState_of ho rfl F.tx.fit h
def sizeOk (n : Nat) : Bool := [7, 15, 31, 63, 127].any fun m => SetTable.sizeAbove n == m + 1 && decide (n ≤ m)
theorem sizes_ok : ((List.range 128).all sizeOk) = true := by decide +kernel
theorem size_above {n : Nat} (h : n < 128) : ∃ m, SetTable.sizeAbove n = m + 1 ∧ MaskU m ∧ n ≤ m := by
  obtain ⟨m, hm, e⟩ := List.any_eq_true.mp (List.all_eq_true.mp sizes_ok n (List.mem_range.mpr h))
  rw [Bool.and_eq_true, beq_iff_eq, decide_eq_true_eq] at e
  refine ⟨m, e.1, ?_, e.2⟩
  simp only [List.mem_cons, List.not_mem_nil, or_false] at hm
  exact hm
theorem MaskU.le {m : Nat} (h : MaskU m) : m ≤ 127 := by
  rcases h with rfl | rfl | rfl | rfl | rfl <;> decide
theorem relay_x {a : Addr} {D : SD} {l : List Str} {wanted m : Nat} {Q : Unit → Shared → Prop} (ho : s.heap.get? a = some (sObj "set" D)) (F : TsOk P w D l) (hw : SetTable.sizeAbove wanted = m + 1) (hm : MaskU m) (hl : l.length ≤ m)
    (h : ∀ D' h', TsOk P w D' l → D'.2.2.mask = m → (D'.2.2.dummies = #[]) → h'.get? a = some (sObj "set" D') → Heap.SameBut a s.heap h' → Q () { s with heap := h' }) : wpAny (model P w) A (setRelay a wanted) Q E s := by
  obtain ⟨es, ep, t⟩ := D
  have hsz : es.size = l.length := F.tx.sz
  obtain ⟨t', order, e, hp, r, hs, hled, hmask, hdum⟩ := laid_ok hm t.finger (t.movedTo m) t.led t.plain (hs := es.map (·.1)) (by rw [Array.size_map, hsz]; exact hl)
  rw [Array.size_map] at hp hs
  have hr : t.relaid (es.map (·.1)) wanted = some (t', order) := by
    unfold SetTable.relaid
    rw [show SetTable.sizeAbove wanted - 1 = m by omega]
    exact e
  have pm := order_perm rfl hp
  have hs2 : (order.filterMap (es[·]?)).size = es.size := pm.length_eq
  have hml := hm.le
  rw [setRelay_eq]
  refine wpAny_bind (state_x ho F ?_)
  dsimp only
  refine wp_if_neg (by rw [hw, sizeLine_eq]; omega) ?_
  try refine wpAny_bind (wpAny_pure ?_)
  rw [hr]
  dsimp only
  refine wpAny_bind ?_
  refine wp_if_neg (by rw [hs2]; simp) ?_
  try refine wpAny_bind (wpAny_pure ?_)
  refine wpAny_pure ?_
  dsimp only
  refine store_x ho (by rw [hs2, hsz]; exact F.few) ?_
  have hfit : t'.fits (order.filterMap (es[·]?)).size = true := by
    unfold SetTable.fits SetTable.fill
    rw [hs2, hdum, Bool.and_eq_true, beq_iff_eq, decide_eq_true_eq]
    refine ⟨hs, ?_⟩
    show t'.place.size + 0 ≤ t'.mask
    omega
  refine h _ _ ⟨F.tx.perm pm hfit, r, F.led.imp id fun z => hled.trans z, F.nd, F.few⟩ hmask hdum (get_upd _ ho rfl) (Heap.SameBut.update ..)
theorem merge_eq (a o : Addr) (each : Sem Unit) : setMerge a o each = (do
    if a == o then return ()
    let (eo, ep, to) ← setState o
    if eo.isEmpty then return ()
    setRoomFor a eo.size; let (_, _, ts) ← setState a
    match ts.road to with
    | .slotForSlot =>
      storeSet a eo { to with finger := ts.finger, led := ts.led && to.led, moves := ts.moves, plain := ts.plain && to.plain }
    | .clean =>
      let (es, t) ← (do
        let some (t, order) := SetTable.laid ts.mask ts.finger ts.moves (ts.led && to.led) (ts.plain && to.plain) (eo.map (·.1)) | unsupported "internal:set-table-without-room"
        let es2 := order.filterMap (eo[·]?)
        if es2.size != eo.size then unsupported "internal:set-table-lost-an-element"
        pure (es2, t) : Sem (Array (Int × Value) × SetTable))
      storeSet a es t
    | .oneByOne =>
      for (h, x) in ← setWalkUnseen o [a] (some a) do
        let _ ← holding [x] (setAddHashed a x h)
        each; if (← setState o).2.1 != ep then unsupported "set.changed-during-merge") := by rfl
theorem texts_of {D : SD} {l : List Str} (F : TsOk P w D l) : ∀ e ∈ D.1.toList, ∃ k u, e = (hashStr w k, Value.str k u) ∧ k ∈ l := fun e he => by
  obtain ⟨⟨k, hk, eh⟩, _⟩ := F.tx.el e he
  obtain ⟨h, v⟩ := e
  have hs : Value.isStrOf k v = true := hk
  cases v with
  | str x u =>
    have ex : x = k := by simpa [Value.isStrOf] using hs
    subst ex
    exact ⟨x, u, congrArg (·, Value.str x u) eh, (F.tx.mem x).mpr ⟨_, he, hk⟩⟩
  | _ => simp [Value.isStrOf] at hs
theorem room_x {a : Addr} {D : SD} {l : List Str} {n : Nat} {Q : Unit → Shared → Prop} (ho : s.heap.get? a = some (sObj "set" D)) (F : TsOk P w D l) (hl : l.length + n ≤ 63)
    (h : ∀ D' h', TsOk P w D' l → (D' = D ∧ n ≤ D.2.2.mask ∨ MaskU D'.2.2.mask ∧ n ≤ D'.2.2.mask ∧ D'.2.2.dummies = #[]) → h'.get? a = some (sObj "set" D') → Heap.SameBut a s.heap h' → Q () { s with heap := h' }) : wpAny (model P w) A (setRoomFor a n) Q E s := by
  obtain ⟨es, ep, t⟩ := D
  have hsz : es.size = l.length := F.tx.sz
  have hfit : t.fits es.size = true := F.tx.fit
  have hpl : t.place.size = l.length := by
    unfold SetTable.fits at hfit
    rw [Bool.and_eq_true, beq_iff_eq] at hfit
    exact hfit.1.trans hsz
  unfold setRoomFor
  refine wpAny_bind (state_x ho F ?_)
  dsimp only
  unfold SetTable.roomFor
  by_cases c : (t.fill + n) * 5 ≥ t.mask * 3
  · rw [if_pos c]
    dsimp only
    obtain ⟨m, hw, hm, hle⟩ := size_above (n := (t.place.size + n) * 2) (by omega)
    refine relay_x ho F hw hm (by omega) fun D' h' F' em ed hg sb => ?_
    exact h D' h' F' (.inr ⟨by rw [em]; exact hm, by rw [em]; omega, ed⟩) hg sb
  · rw [if_neg c]
    dsimp only
    refine wpAny_pure (h _ s.heap F (.inl ⟨rfl, ?_⟩) ho (Heap.SameBut.refl a s.heap))
    show n ≤ t.mask
    omega
theorem walk_x {o : Addr} {D : SD} {l : List Str} {Q : Array (Int × Value) → Shared → Prop} (ho : s.heap.get? o = some (sObj "set" D)) (F : TsOk P w D l) (hd : w.params.followText "set-order" = true ∨ D.2.2.plain = true ∨ D.1.size ≤ 1)
    (h : ∀ xs : Array (Int × Value), xs.toList.Perm D.1.toList → Q xs s) : wpAny (model P w) A (setWalk o) Q E s := by
  obtain ⟨es, ep, t⟩ := D
  unfold setWalk
  refine wpAny_bind (state_x ho F ?_)
  dsimp only
  refine wpAny_bind (wpAny_byText ?_)
  by_cases hb : w.params.followText "set-order" = true
  · (refine wp_if_pos hb ?_; refine wpAny_bind (wpAny_askSetting (wpAny_pure ?_)))
    exact h _ (pick_perm _ _)
  · have hd2 : t.plain = true ∨ es.size ≤ 1 := hd.resolve_left hb
    have hled : t.led = true := F.led.resolve_left hb
    have hq : ¬ ((!t.plain && decide (es.size > 1)) = true) := fun e => by
      rw [Bool.and_eq_true, decide_eq_true_eq] at e
      rcases hd2 with z | z
      · rw [z] at e
        exact absurd e.1 (by decide)
      · omega
    (refine wp_if_neg hb ?_; refine wp_if_neg hq ?_; refine wpAny_bind ?_)
    show wpAny (model P w) A (if (!t.led && decide (es.size > 1)) = true then unsupported "set:maker-not-led" else pure ()) _ _ _
    refine wp_if_neg (by rw [hled]; simp) ?_
    exact wpAny_pure (wpAny_pure (h es (.refl _)))
theorem quiet_x {Q : Bool → Shared → Prop} (h : Q true s) : ∀ sets : List Addr, (∀ a ∈ sets, ∃ D l, s.heap.get? a = some (sObj "set" D) ∧ TsOk P w D l) → wpAny (model P w) A (setsQuiet sets) Q E s := by
  intro sets hs
  unfold setsQuiet
  refine wpAny_bind (wpAny_forIn_list _ (fun rest b s' => s' = s ∧ b.1 = none ∧ ∀ a ∈ rest, a ∈ sets) _ ?_ ?_ _ _ ⟨rfl, rfl, fun a ha => ha⟩)
  · rintro a rest b s' ⟨rfl, _, hr⟩
    obtain ⟨D, l, ho, F⟩ := hs a (hr a List.mem_cons_self)
    refine wpAny_bind ?_
    unfold setEntries
    refine wpAny_bind (state_x ho F (wpAny_pure ?_))
    refine wpAny_bind (wpAny_forIn_array' _ (fun es b s2 => s2 = s' ∧ b.1 = none ∧ ∀ e ∈ es, e ∈ D.1.toList) _ ?_ ?_ _ _ ⟨rfl, rfl, fun e he => he⟩)
    · rintro e es b2 s2 ⟨rfl, _, he⟩
      obtain ⟨k, u, rfl, _⟩ := texts_of F e (he e List.mem_cons_self)
      dsimp only
      exact wpAny_pure ⟨rfl, rfl, fun x hx => he x (List.mem_cons_of_mem _ hx)⟩
    · rintro ⟨b1, b2⟩ s2 ⟨rfl, e, _⟩
      have e : b1 = none := e
      subst e
      dsimp only
      exact wpAny_pure ⟨rfl, rfl, fun x hx => hr x (List.mem_cons_of_mem _ hx)⟩
  · rintro ⟨b1, b2⟩ s' ⟨rfl, e, _⟩
    have e : b1 = none := e
    subst e
    dsimp only
    exact wpAny_pure h
theorem unseen_x {a o : Addr} {D E' : SD} {l m : List Str} {Q : Array (Int × Value) → Shared → Prop} (ne : o ≠ a) (ho : s.heap.get? o = some (sObj "set" E')) (FO : TsOk P w E' m) (ha : s.heap.get? a = some (sObj "set" D)) (F : TsOk P w D l)
    (h : ∀ (xs : Array (Int × Value)) D' h', xs.toList.Perm E'.1.toList → TsOk P w D' l → h'.get? a = some (sObj "set" D') → Heap.SameBut a s.heap h' → Q xs { s with heap := h' }) : wpAny (model P w) A (setWalkUnseen o [a] (some a)) Q E s := by
  obtain ⟨es, ep, t⟩ := E'
  unfold setWalkUnseen
  refine wpAny_bind (state_x ho FO ?_)
  dsimp only
  refine wpAny_bind (wpAny_byText ?_)
  by_cases c : (w.params.followText "set-order" || t.led && t.plain || decide (es.size ≤ 1)) = true
  · refine wp_if_pos c (walk_x ho FO ?_ fun xs hx => h xs D s.heap hx F ha (Heap.SameBut.refl a s.heap))
    rw [Bool.or_eq_true, Bool.or_eq_true, Bool.and_eq_true, decide_eq_true_eq] at c
    rcases c with (c | c) | c
    · exact .inl c
    · exact .inr (.inl c.2)
    · exact .inr (.inr c)
  · have hb : ¬ w.params.followText "set-order" = true := fun z => c (by rw [z]; rfl)
    have hled : t.led = true := FO.led.resolve_left hb
    refine wp_if_neg c ?_
    refine wpAny_bind (quiet_x ?_ [o, a] fun x hx => ?_)
    · refine wp_if_neg (by simp) (wpAny_bind (wpAny_rule ?_))
      try dsimp only
      refine wpAny_bind (state_x ha F ?_)
      try dsimp only
      by_cases c2 : (D.2.2.led && !t.led || D.2.2.plain && !t.plain) = true
      · rw [if_pos c2]
        refine wpAny_bind (store_x ha (by rw [F.tx.sz]; exact F.few) (wpAny_pure ?_))
        have hfit : D.2.2.fits D.1.size = true := F.tx.fit
        refine h es (D.1, D.2.1 + 1, { D.2.2 with led := D.2.2.led && t.led, plain := D.2.2.plain && t.plain }) _ (.refl _) ⟨F.tx.perm (.refl _) hfit, F.ris, F.led.imp id fun z => ?_, F.nd, F.few⟩ (get_upd _ ha rfl) (Heap.SameBut.update ..)
        show (D.2.2.led && t.led) = true
        rw [z, hled]
        rfl
      · rw [if_neg c2]
        exact wpAny_pure (h es D s.heap (.refl _) F ha (Heap.SameBut.refl a s.heap))
    · rcases List.mem_cons.mp hx with e | e
      · exact ⟨_, _, by rw [e]; exact ho, FO⟩
      · exact ⟨D, l, by rw [List.mem_singleton.mp e]; exact ha, F⟩
/-- a fresh set takes another one's texts over -/
theorem merge_new {a o : Addr} {ep : Nat} {mv : Nat} {ld : Bool} {E' : SD} {m : List Str} {each : Sem Unit} {Q : Unit → Shared → Prop} (ne : o ≠ a) (ho : s.heap.get? o = some (sObj "set" E')) (FO : TsOk P w E' m) (hm : m.length ≤ 63)
    (ha : s.heap.get? a = some (sObj "set" (#[], ep, SetTable.fresh 0 mv ld))) (hl : w.params.followText "set-order" = true ∨ ld = true)
    (h : ∀ D' h', TsOk P w D' m → h'.get? a = some (sObj "set" D') → Heap.SameBut a s.heap h' → Q () { s with heap := h' }) : wpAny (model P w) A (setMerge a o each) Q E s := by
  obtain ⟨eo, eq, to⟩ := E'
  have hsz : eo.size = m.length := FO.tx.sz
  have F0 : TsOk P w (#[], ep, SetTable.fresh 0 mv ld) [] := ⟨TxOk.nil rfl, .nil, hl, .nil, by decide⟩
  rw [merge_eq]
  refine wp_if_neg (by rw [beq_iff_eq]; exact fun e => ne e.symm) ?_
  try refine wpAny_bind (wpAny_pure ?_)
  refine wpAny_bind (state_x ho FO ?_)
  dsimp only
  by_cases c : eo.isEmpty = true
  · refine wp_if_pos c (wpAny_pure ?_)
    have e0 : m = [] := List.eq_nil_of_length_eq_zero (by rw [← hsz]; simpa using c)
    subst e0
    exact h _ s.heap F0 ha (Heap.SameBut.refl a s.heap)
  · refine wp_if_neg c ?_
    try refine wpAny_bind (wpAny_pure ?_)
    refine wpAny_bind (room_x (n := eo.size) ha F0 (by rw [hsz]; simpa using hm) fun D1 h1 F1 hD hg sb => ?_)
    have hmask : MaskU D1.2.2.mask ∧ eo.size ≤ D1.2.2.mask := by
      rcases hD with ⟨e, hn⟩ | ⟨h1, h2, _⟩
      · rw [e]
        exact ⟨.inl rfl, hn⟩
      · exact ⟨h1, h2⟩
    have hg2 : h1.get? o = some (sObj "set" (eo, eq, to)) := (sb.2 o ne).trans ho
    obtain ⟨e1, q1, t1⟩ := D1
    have hz1 : e1.size = 0 := F1.tx.sz
    refine wpAny_bind (state_x (s := { s with heap := h1 }) hg F1 ?_)
    dsimp only
    have hled : w.params.followText "set-order" = true ∨ (t1.led && to.led) = true := by
      rcases F1.led with z | z
      · exact .inl z
      · rcases FO.led with y | y
        · exact .inl y
        · right
          rw [show t1.led = true from z, show to.led = true from y]
          rfl
    cases hr : t1.road to with
    | slotForSlot =>
      dsimp only
      refine store_x (s := { s with heap := h1 }) hg (by rw [hsz]; omega) ?_
      have hfit : to.fits eo.size = true := FO.tx.fit
      refine h (eo, q1 + 1, { to with finger := t1.finger, led := t1.led && to.led, moves := t1.moves, plain := t1.plain && to.plain }) _ ⟨FO.tx.perm (.refl _) hfit, FO.ris, hled, FO.nd, FO.few⟩ (get_upd _ hg rfl) (sb.trans (Heap.SameBut.update ..))
    | clean =>
      dsimp only
      obtain ⟨t', order, e, hp, r, hs, hled', hmask', hdum⟩ := laid_ok hmask.1 t1.finger t1.moves (t1.led && to.led) (t1.plain && to.plain) (hs := eo.map (·.1)) (by rw [Array.size_map]; exact hmask.2)
      rw [Array.size_map] at hp hs
      have pm := order_perm rfl hp
      have hs2 : (order.filterMap (eo[·]?)).size = eo.size := pm.length_eq
      rw [e]
      dsimp only
      refine wpAny_bind ?_
      refine wp_if_neg (by rw [hs2]; simp) ?_
      try refine wpAny_bind (wpAny_pure ?_)
      refine wpAny_pure ?_
      dsimp only
      refine store_x (s := { s with heap := h1 }) hg (by rw [hs2, hsz]; omega) ?_
      have hfit : t'.fits (order.filterMap (eo[·]?)).size = true := by
        unfold SetTable.fits SetTable.fill
        rw [hs2, hdum, Bool.and_eq_true, beq_iff_eq, decide_eq_true_eq]
        refine ⟨hs, ?_⟩
        show t'.place.size + 0 ≤ t'.mask
        have := hmask.2
        omega
      refine h _ _ ⟨FO.tx.perm pm hfit, r, hled.imp id fun z => hled'.trans z, FO.nd, FO.few⟩ (get_upd _ hg rfl) (sb.trans (Heap.SameBut.update ..))
    | oneByOne =>
      exfalso
      have hfit : t1.fits e1.size = true := F1.tx.fit
      unfold SetTable.fits at hfit
      rw [hz1, Bool.and_eq_true, beq_iff_eq] at hfit
      have hd1 : t1.dummies.size = 0 := by
        rcases hD with ⟨e, _⟩ | ⟨_, _, e⟩
        · have e : t1 = SetTable.fresh 0 mv ld := congrArg (fun z : SD => z.2.2) e
          rw [e]
          rfl
        · rw [show t1.dummies = #[] from e]
          rfl
      unfold SetTable.road SetTable.fill at hr
      rw [hfit.1, hd1] at hr
      simp only [Nat.add_zero, bne_self_eq_false, Bool.false_eq_true, if_false] at hr
      split at hr <;> cases hr
/-- a set with texts takes another one's in, one by one -/
theorem merge_old {a o : Addr} {D E' : SD} {l m : List Str} {each : Sem Unit} {Q : Unit → Shared → Prop} (ne : o ≠ a) (ho : s.heap.get? o = some (sObj "set" E')) (FO : TsOk P w E' m) (hlm : l.length + m.length ≤ 63) (hl0 : l ≠ [])
    (ha : s.heap.get? a = some (sObj "set" D)) (F : TsOk P w D l) (he : ∀ (s' : Shared) (R : Unit → Shared → Prop), s'.heap.get? o = some (sObj "set" E') → R () s' → wpAny (model P w) A each R E s')
    (h : ∀ D' u h', TsOk P w D' u → (∀ x, x ∈ u ↔ x ∈ l ∨ x ∈ m) → h'.get? a = some (sObj "set" D') → Heap.SameBut a s.heap h' → Q () { s with heap := h' }) : wpAny (model P w) A (setMerge a o each) Q E s := by
  obtain ⟨eo, eq, to⟩ := E'
  have hsz : eo.size = m.length := FO.tx.sz
  rw [merge_eq]
  refine wp_if_neg (by rw [beq_iff_eq]; exact fun e => ne e.symm) ?_
  try refine wpAny_bind (wpAny_pure ?_)
  refine wpAny_bind (state_x ho FO ?_)
  dsimp only
  by_cases c : eo.isEmpty = true
  · refine wp_if_pos c (wpAny_pure ?_)
    have e0 : m = [] := List.eq_nil_of_length_eq_zero (by rw [← hsz]; simpa using c)
    subst e0
    exact h _ l s.heap F (fun x => by simp) ha (Heap.SameBut.refl a s.heap)
  · refine wp_if_neg c ?_
    try refine wpAny_bind (wpAny_pure ?_)
    refine wpAny_bind (room_x (n := eo.size) ha F (by rw [hsz]; exact hlm) fun D1 h1 F1 _ hg sb => ?_)
    have hg2 : h1.get? o = some (sObj "set" (eo, eq, to)) := (sb.2 o ne).trans ho
    obtain ⟨e1, q1, t1⟩ := D1
    have hz1 : e1.size = l.length := F1.tx.sz
    refine wpAny_bind (state_x (s := { s with heap := h1 }) hg F1 ?_)
    dsimp only
    have hfit1 : t1.fits e1.size = true := F1.tx.fit
    have hroad : t1.road to = .oneByOne := by
      unfold SetTable.fits at hfit1
      rw [Bool.and_eq_true, beq_iff_eq] at hfit1
      have hl1 : 0 < l.length := List.length_pos_iff.mpr hl0
      unfold SetTable.road SetTable.fill
      rw [if_pos (by rw [bne_iff_ne]; omega)]
    rw [hroad]
    dsimp only
    refine wpAny_bind (unseen_x (s := { s with heap := h1 }) ne hg2 FO hg F1 fun xs D2 h2 hx F2 hg3 sb2 => ?_)
    have hlen : xs.toList.length = m.length := by rw [hx.length_eq]; exact hsz
    have hmem : ∀ x, (∃ e ∈ xs.toList, (strKind P w).is x e.2 = true) ↔ x ∈ m := fun x => by
      rw [FO.tx.mem x]
      exact ⟨fun ⟨e, he, q⟩ => ⟨e, hx.mem_iff.mp he, q⟩, fun ⟨e, he, q⟩ => ⟨e, hx.mem_iff.mpr he, q⟩⟩
    refine wpAny_bind (wpAny_forIn_array' _ (fun rest _ s' => ∃ D3 u h3, s' = { s with heap := h3 } ∧ TsOk P w D3 u ∧ u.length + rest.length ≤ 63 ∧ h3.get? a = some (sObj "set" D3) ∧ Heap.SameBut a s.heap h3 ∧ (∀ e ∈ rest, e ∈ xs.toList) ∧
        (∀ x, (x ∈ u ∨ ∃ e ∈ rest, (strKind P w).is x e.2 = true) ↔ x ∈ l ∨ x ∈ m)) _ ?_ ?_ _ _ ⟨D2, l, h2, rfl, F2, by omega, hg3, sb.trans sb2, fun e he => he, fun x => by rw [hmem x]⟩)
    · rintro e rest b s' ⟨D3, u, h3, rfl, F3, hb, hg4, sb3, hin, hmm⟩
      obtain ⟨k, tk, rfl, _⟩ := texts_of FO e (hx.mem_iff.mp (hin e List.mem_cons_self))
      have hb' : u.length + (rest.length + 1) ≤ 63 := hb
      dsimp only
      refine wpAny_bind (wpAny_holding (add_any (s := { s with heap := h3 }) hg4 F3 (by omega) fun b4 D4 h4 F4 hg5 sb4 => ?_))
      have sb5 := sb3.trans sb4
      have ho4 : h4.get? o = some (sObj "set" (eo, eq, to)) := (sb5.2 o ne).trans ho
      refine wpAny_bind (he _ _ ho4 ?_)
      refine wpAny_bind (state_x (s := { s with heap := h4 }) ho4 FO ?_)
      dsimp only
      refine wp_if_neg (by simp) ?_
      try refine wpAny_bind (wpAny_pure ?_)
      refine wpAny_pure ?_
      have hpl := plus_len (l := u) (k := k)
      refine ⟨D4, _, h4, rfl, F4, by omega, hg5, sb5, fun e he => hin e (List.mem_cons_of_mem _ he), fun x => ?_⟩
      rw [← hmm x, mem_plus]
      have hk : (strKind P w).is x (Value.str k tk) = true ↔ x = k := ⟨fun q => (strKind P w).inj _ x k q (is_str k tk), fun q => by rw [q]; exact is_str k tk⟩
      constructor
      · rintro ((q | q) | ⟨e, he, q⟩)
        · exact .inl q
        · exact .inr ⟨_, List.mem_cons_self, hk.mpr q⟩
        · exact .inr ⟨e, List.mem_cons_of_mem _ he, q⟩
      · rintro (q | ⟨e, he, q⟩)
        · exact .inl (.inl q)
        · rcases List.mem_cons.mp he with rfl | he
          · exact .inl (.inr (hk.mp q))
          · exact .inr ⟨e, he, q⟩
    · rintro b s' ⟨D3, u, h3, rfl, F3, hb, hg4, sb3, _, hmm⟩
      exact wpAny_pure (h D3 u h3 F3 (fun x => by rw [← hmm x]; simp) hg4 sb3)
end
end BF
set_option Elab.async false
set_option linter.all false
set_option maxRecDepth 100000
set_option maxHeartbeats 4000000
/-! `|` of sets of texts, sorted(set of texts), set(texts) -/
namespace BF
open PySem PySem.Spec PyProof.Rows L2
open PySem.Froz (SD sObj TxOk addTx tailTx add_x is_str get_upd)
section
variable {P : Program} {w : World} {A : Around} {E : Value → Shared → Prop} {s : Shared}
theorem entry_s_or : entryFor table "set.__or__" = some Builtin.«frozenset.__or__» := entryFor_alias (id' := "frozenset.__or__") (by kernel_rfl) rfl (by decide +kernel) (by kernel_rfl)
theorem set_type {a : Addr} {D : SD} (ho : s.heap.get? a = some (sObj "set" D)) : s.TypeIs (.ref a) "set" := ⟨_, ho, rfl⟩
theorem any_x {a : Addr} {D : SD} {Q : Bool → Shared → Prop} (ho : s.heap.get? a = some (sObj "set" D)) (h : Q true s) : wpAny (model P w) A (Builtin.Frozenset.isAnySet (.ref a)) Q E s := by
  unfold Builtin.Frozenset.isAnySet orM
  refine wpAny_bind (wpAny_isInstance (b := true) (set_type ho) sub_set_self ?_)
  exact wpAny_pure h
theorem new_x {Q : Value → Shared → Prop} (h : Q (.ref s.heap.objs.size) { s with heap := s.heap.push (sObj "set" (#[], 0, SetTable.fresh 0 0 (!w.params.followText "set-order"))) }) : wpAny (model P w) A (newSet (.type "set")) Q E s := by
  unfold newSet
  refine wpAny_bind (wpAny_byText ?_)
  dsimp only
  exact wpAny_newObj_type h
theorem fresh_led (w : World) : w.params.followText "set-order" = true ∨ (!w.params.followText "set-order") = true := by
  cases w.params.followText "set-order"
  · exact .inr rfl
  · exact .inl rfl
theorem copy_x {a : Addr} {D : SD} {l : List Str} {Q : Value → Shared → Prop} (ha : s.heap.get? a = some (sObj "set" D)) (F : TsOk P w D l) (hl : l.length ≤ 63)
    (h : ∀ D' h', (l = [] → D' = (#[], 0, SetTable.fresh 0 0 (!w.params.followText "set-order"))) → TsOk P w D' l → h'.get? s.heap.objs.size = some (sObj "set" D') → (∀ b o, s.heap.get? b = some o → h'.get? b = some o) → Q (.ref s.heap.objs.size) { s with heap := h' }) :
    wpAny (model P w) A (Builtin.Frozenset.copyOf a) Q E s := by
  unfold Builtin.Frozenset.copyOf
  refine wpAny_bind ?_
  unfold Builtin.Frozenset.baseOf
  refine wpAny_bind (wpAny_isInstance (b := true) (set_type ha) sub_set_self ?_)
  simp only [↓reduceIte]
  refine wpAny_pure ?_
  refine wpAny_bind (new_x ?_)
  have hne : a ≠ s.heap.objs.size := Nat.ne_of_lt (Heap.lt_size ha)
  have hr : (s.heap.push (sObj "set" (#[], 0, SetTable.fresh 0 0 (!w.params.followText "set-order")))).get? s.heap.objs.size = some (sObj "set" (#[], 0, SetTable.fresh 0 0 (!w.params.followText "set-order"))) := Heap.get?_push_size _ rfl
  have ha2 : (s.heap.push (sObj "set" (#[], 0, SetTable.fresh 0 0 (!w.params.followText "set-order")))).get? a = some (sObj "set" D) := Heap.get?_push_of_some _ ha
  have old : ∀ {h' : Heap}, Heap.SameBut s.heap.objs.size (s.heap.push (sObj "set" (#[], 0, SetTable.fresh 0 0 (!w.params.followText "set-order")))) h' → ∀ b o, s.heap.get? b = some o → h'.get? b = some o := fun sb b o e =>
    (sb.2 b (Nat.ne_of_lt (Heap.lt_size e))).trans (Heap.get?_push_of_some _ e)
  unfold Builtin.Frozenset.addrOf
  refine wpAny_bind (wpAny_pure ?_)
  cases hl0 : l with
  | nil =>
    subst hl0
    rw [merge_eq]
    (refine wpAny_bind ?_; refine wp_if_neg (by rw [beq_iff_eq]; exact fun e => hne e.symm) ?_)
    try refine wpAny_bind (wpAny_pure ?_)
    obtain ⟨es, ep, t⟩ := D
    have hz : es.size = 0 := F.tx.sz
    refine wpAny_bind (state_x (s := { s with heap := _ }) ha2 F ?_)
    dsimp only
    refine wp_if_pos (by simpa using hz) (wpAny_pure ?_)
    exact wpAny_pure (h _ _ (fun _ => rfl) ⟨TxOk.nil rfl, .nil, fresh_led w, .nil, by decide⟩ hr (old (Heap.SameBut.refl _ _)))
  | cons x r =>
    rw [hl0] at F hl
    refine wpAny_bind (merge_new (s := { s with heap := _ }) hne ha2 F hl hr (fresh_led w) fun D' h' F' hg sb => ?_)
    refine wpAny_pure ?_
    rw [hl0] at h
    exact h D' h' (fun e => by cases e) F' hg (old sb)
theorem epoch_x {o : Addr} {D : SD} {l : List Str} {Q : Nat → Shared → Prop} (ho : s.heap.get? o = some (sObj "set" D)) (F : TsOk P w D l) (h : Q D.2.1 s) : wpAny (model P w) A (setEpoch o) Q E s := by
  unfold setEpoch
  exact wpAny_bind (state_x ho F (wpAny_pure h))
theorem same_x {o : Addr} {D : SD} {l : List Str} {id : String} {Q : Unit → Shared → Prop} (ho : s.heap.get? o = some (sObj "set" D)) (F : TsOk P w D l) (h : Q () s) : wpAny (model P w) A (Builtin.Frozenset.unchanged id o D.2.1) Q E s := by
  unfold Builtin.Frozenset.unchanged
  refine wpAny_bind (epoch_x ho F ?_)
  exact wp_if_neg (by simp) (wpAny_pure h)
/-- a | b -/
theorem or_x {a b : Addr} {D E' : SD} {l m : List Str} {Q : Value → Shared → Prop} (ha : s.heap.get? a = some (sObj "set" D)) (FA : TsOk P w D l) (hb : s.heap.get? b = some (sObj "set" E')) (FB : TsOk P w E' m) (ab : b ≠ a) (hlm : l.length + m.length ≤ 63)
    (h : ∀ D' u h', TsOk P w D' u → (∀ x, x ∈ u ↔ x ∈ l ∨ x ∈ m) → h'.get? s.heap.objs.size = some (sObj "set" D') → (∀ c o, s.heap.get? c = some o → h'.get? c = some o) → Q (.ref s.heap.objs.size) { s with heap := h' }) :
    wpAny (model P w) A (binaryOp .BitOr (.ref a) (.ref b)) Q E s := by
  refine wpAny_binaryOp_same (T := "set") (set_type ha) (set_type hb) PySem.F.fills_set_or PySem.F.slot_set_or ?_
  refine wpAny_call_entry PySem.F.slot_set_or (set_type ha) entry_s_or ?_ (PySem.F.args_set_or_2 _ _)
  unfold Builtin.«frozenset.__or__»
  refine wpAny_bind (m := Builtin.Frozenset.slot1 "__or__" _) (wpAny_of_eq (a := (Value.ref a, Value.ref b)) (by rfl) ?_)
  dsimp only
  simp only [Bool.false_eq_true, ↓reduceIte]
  refine wpAny_bind ?_
  unfold andM
  refine wpAny_bind (any_x ha ?_)
  try simp only [↓reduceIte]
  try dsimp only
  refine any_x hb ?_
  refine wp_if_neg (by simp) ?_
  unfold Builtin.Frozenset.addrOf
  refine wpAny_bind (wpAny_pure ?_)
  refine wpAny_bind ?_
  refine wpAny_bind (m := Builtin.Frozenset.copyOf a) (copy_x ha FA (by omega) fun D1 h1 e0 F1 hg old => ?_)
  dsimp only
  refine wp_if_pos (by simp [ab]) ?_
  unfold Builtin.Frozenset.addrOf
  refine wpAny_bind (wpAny_pure ?_)
  refine wpAny_bind (wpAny_holding ?_)
  unfold Builtin.Frozenset.updateFrom
  have hb1 : h1.get? b = some (sObj "set" E') := old b _ hb
  have bn : b ≠ s.heap.objs.size := Nat.ne_of_lt (Heap.lt_size hb)
  refine wpAny_bind (any_x (s := { s with heap := h1 }) hb1 ?_)
  refine wp_if_pos rfl ?_
  unfold Builtin.Frozenset.addrOf Builtin.Frozenset.merge
  refine wpAny_bind (wpAny_pure ?_)
  refine wpAny_bind ?_
  have tail : ∀ {D' : SD} {u : List Str} {h' : Heap}, TsOk P w D' u → (∀ x, x ∈ u ↔ x ∈ l ∨ x ∈ m) → h'.get? s.heap.objs.size = some (sObj "set" D') → Heap.SameBut s.heap.objs.size h1 h' → ∀ c o, s.heap.get? c = some o → h'.get? c = some o := fun _ _ _ sb c o e =>
    (sb.2 c (Nat.ne_of_lt (Heap.lt_size e))).trans (old c o e)
  refine epoch_x (s := { s with heap := h1 }) hb1 FB ?_
  cases hl0 : l with
  | nil =>
    have e1 := e0 hl0
    subst e1
    refine merge_new (s := { s with heap := h1 }) bn hb1 FB (by omega) hg (fresh_led w) fun D' h' F' hg' sb => ?_
    have hm : ∀ x, x ∈ m ↔ x ∈ l ∨ x ∈ m := fun x => by rw [hl0]; simp
    exact wpAny_pure (wpAny_pure ⟨_, rfl, by simp, h D' m h' F' hm hg' (tail F' hm hg' sb)⟩)
  | cons x r =>
    refine merge_old (s := { s with heap := h1 }) bn hb1 FB hlm (by rw [hl0]; simp) hg F1 (fun s' R ho' hr => same_x ho' FB hr) fun D' u h' F' hm hg' sb => ?_
    exact wpAny_pure (wpAny_pure ⟨_, rfl, by simp, h D' u h' F' hm hg' (tail F' hm hg' sb)⟩)
/-- the texts of a set's payload, in its order -/
theorem strs_of : ∀ (l : List Value) (ks : List Str), (∀ v ∈ l, ∃ k u, v = Value.str k u) → ∃ ks : List Str, StrsAre l ks
  | [], _, _ => ⟨[], .nil⟩
  | v :: l, _, h => by
    obtain ⟨k, u, rfl⟩ := h v List.mem_cons_self
    obtain ⟨ks, q⟩ := strs_of l [] fun x hx => h x (List.mem_cons_of_mem _ hx)
    exact ⟨k :: ks, .cons k u q⟩
theorem strs_mem : ∀ {l : List Value} {ks : List Str}, StrsAre l ks → ∀ k, k ∈ ks ↔ ∃ v ∈ l, (strKind P w).is k v = true
  | _, _, .nil, k => ⟨fun h => (by cases h), fun h => (by obtain ⟨_, h, _⟩ := h; cases h)⟩
  | _, _, .cons x u h, k => by
    rw [List.mem_cons, strs_mem h k]
    constructor
    · rintro (e | ⟨v, hv, q⟩)
      · exact ⟨_, List.mem_cons_self, by rw [e]; exact is_str x u⟩
      · exact ⟨v, List.mem_cons_of_mem _ hv, q⟩
    · rintro ⟨v, hv, q⟩
      rcases List.mem_cons.mp hv with e | hv
      · rw [e] at q
        exact .inl ((strKind P w).inj _ k x q (is_str x u))
      · exact .inr ⟨v, hv, q⟩
theorem nodup_of_len {α : Type} [DecidableEq α] : ∀ {xs ys : List α}, xs.Nodup → (∀ x, x ∈ ys ↔ x ∈ xs) → ys.length = xs.length → ys.Perm xs
  | [], ys, _, _, h => by rw [List.eq_nil_of_length_eq_zero h]
  | x :: xs, ys, nd, hm, h => by
    have hx : x ∈ ys := (hm x).mpr List.mem_cons_self
    obtain ⟨n1, n2⟩ := List.nodup_cons.mp nd
    have hp := List.perm_cons_erase hx
    have hl : (ys.erase x).length = xs.length := by
      have := hp.length_eq
      rw [List.length_cons] at this
      rw [List.length_cons] at h
      omega
    by_cases c : x ∈ ys.erase x
    · exfalso
      have sub : ∀ y ∈ x :: xs, y ∈ ys.erase x := fun y hy => by
        by_cases e : y = x
        · rw [e]; exact c
        · exact (List.mem_erase_of_ne e).mpr ((hm y).mpr hy)
      have := nd.length_le_of_subset sub
      rw [List.length_cons] at this
      omega
    · refine hp.trans ((nodup_of_len n2 (fun y => ?_) hl).cons x)
      constructor
      · intro hy
        have h1 := (hm y).mp (List.mem_of_mem_erase hy)
        rcases List.mem_cons.mp h1 with e | h1
        · rw [e] at hy
          exact (c hy).elim
        · exact h1
      · intro hy
        have e : y ≠ x := fun e => n1 (by rw [← e]; exact hy)
        exact (List.mem_erase_of_ne e).mpr ((hm y).mpr (List.mem_cons_of_mem _ hy))
theorem strs_len : ∀ {l : List Value} {ks : List Str}, StrsAre l ks → ks.length = l.length
  | _, _, .nil => rfl
  | _, _, .cons _ _ h => congrArg (· + 1) (strs_len h)
/-- sorted(a) -/
theorem sorted_x {a : Addr} {D : SD} {l : List Str} {Q : Value → Shared → Prop} (ha : s.heap.get? a = some (sObj "set" D)) (FA : TsOk P w D l) (hh : A.handled = none) (hl : l.length < 64)
    (h : ∀ (s' : Shared) (p : Addr) (out : Array Value) (c : Nat), (∀ b o, s.heap.get? b = some o → s'.heap.get? b = some o) → s'.gens = s.gens → s'.os = s.os → s.heap.objs.size ≤ p → s'.heap.get? p = some (seqObj "list" out c) → StrsAre out.toList (sortS l) → Q (.ref p) s') :
    wpAny (model P w) A (call (.builtin "sorted") [.ref a]) Q E s := by
  obtain ⟨es, ep, t⟩ := D
  have hsz : es.size = l.length := FA.tx.sz
  refine Calls.call_function_entry kind_sorted plain_sorted entry_sorted (args_sorted1 _) ?_
  unfold Builtin.«sorted»
  refine wpAny_bind (m := checkCount "sorted" 1 1 _) (wpAny_pure ?_)
  refine wpAny_bind (collect_set (A := A.in1) (a := a) (es := es) (ep := ep) (t := t) hh ⟨_, ha, rfl, rfl⟩ FA.tx.fit (by have := bound_1000 FA.few; omega) FA.ris FA.led fun s1 vs k1 hz g1 o1 pm => ?_)
  have hvs : ∀ v ∈ vs, ∃ k u, v = Value.str k u := fun v hv => by
    obtain ⟨e, he, rfl⟩ := List.mem_map.mp (pm.mem_iff.mp hv)
    obtain ⟨k, u, rfl, _⟩ := texts_of FA e he
    exact ⟨k, u, rfl⟩
  obtain ⟨ks, hks⟩ := strs_of vs [] hvs
  have hvl : vs.length = l.length := by rw [pm.length_eq, List.length_map, Array.length_toList, hsz]
  have pl : ks.Perm l := nodup_of_len FA.nd (fun x => by
    rw [strs_mem (P := P) (w := w) hks x, FA.tx.mem x]
    constructor
    · rintro ⟨v, hv, q⟩
      obtain ⟨e, he, rfl⟩ := List.mem_map.mp (pm.mem_iff.mp hv)
      exact ⟨e, he, q⟩
    · rintro ⟨e, he, q⟩
      exact ⟨e.2, pm.mem_iff.mpr (List.mem_map.mpr ⟨e, he, rfl⟩), q⟩) (by rw [strs_len hks, hvl])
  refine wpAny_bind (wpAny_newList ?_ (by rw [hvl, sizeLine_eq]; omega))
  have hoL : (s1.heap.push (seqObj "list" vs.toArray 0)).get? s1.heap.objs.size = some (seqObj "list" vs.toArray 0) := Heap.get?_push_size _ rfl
  refine wpAny_bind (wpAny_holding (wpAny_call_entry slot_list_sort ⟨_, hoL, rfl⟩ entry_list_sort (list_sort_treeK strKind_oneLt hoL hks.keysOf (fun v1 v2 rest e => keyKind_strs (by rw [← e]; exact hks)) (by rw [hvl]; exact hl) fun st' hp hs => ⟨_, rfl, ?_⟩) (args_list_sort _)))
  obtain ⟨ys, y1, y2, y3⟩ := sorted_out_str hks hp hs
  have ey : ys = sortS l := (sortS_eq y2 y3).trans (sortS_of_perm pl)
  obtain ⟨c, hc⟩ := sortedHeap_at (vs := vs) (out := (arrOf st').map (·.2)) hoL
  refine wpAny_pure ⟨_, rfl, h _ s1.heap.objs.size ((arrOf st').map (·.2)) c (fun b u e => ?_) g1 o1 hz hc (by rw [← ey]; exact y1)⟩
  have q := k1 b u e
  have hlt := Heap.lt_size q
  show (sortedHeap (s1.heap.push (seqObj "list" vs.toArray 0)) s1.heap.objs.size vs _).get? b = some u
  rw [sortedHeap_old (Nat.ne_of_lt hlt) (by rw [size_push']; exact Nat.lt_succ_of_lt hlt)]
  exact Heap.get?_push_of_some _ q
end
end BF
set_option Elab.async false
set_option linter.all false
set_option maxRecDepth 100000
set_option maxHeartbeats 4000000
/-! set(a list of texts), set(a dict of texts) -/
namespace BF
open PySem PySem.Spec PyProof.Rows L2
open PySem.Froz (SD sObj TxOk addTx tailTx add_x is_str get_upd)
def newD (w : World) : SD := (#[], 0, SetTable.fresh 0 0 (!w.params.followText "set-order"))
section
variable {P : Program} {w : World} {A : Around} {E : Value → Shared → Prop} {s : Shared}
theorem newD_ok : TsOk P w (newD w) [] := ⟨TxOk.nil rfl, .nil, fresh_led w, .nil, by decide⟩
/-- set(x), when what fills the new set is known -/
theorem call_set_x {x : Value} {Q : Value → Shared → Prop} (hh : A.handled = none)
    (h : ∀ A' : Around, A'.handled = none → wpAny (model P w) A' (Builtin.Frozenset.updateFrom "set.__init__" s.heap.objs.size x) (fun _ s2 => Q (.ref s.heap.objs.size) s2) E { s with heap := s.heap.push (sObj "set" (newD w)) }) :
    wpAny (model P w) A (call (.type "set") [x]) Q E s := by
  obtain ⟨c, tl, hmro⟩ := PySem.F.called_set.mro
  (have hmade := PySem.F.called_set.made; have hsub := PySem.F.called_set.sub)
  (refine wpAny_call (codeAny_of_tree ?_); show wpAny _ _ (callAny (.type "set") _) _ _ _)
  refine wpAny_pure ⟨Code.quiet_builtin _ (by decide +kernel), codeAny_builtin PySem.F.entry_type_call ?_⟩ -- made
  rw [Around.under_plain (weight_type_call_type "set" [x] []) rfl]
  (have c1 := PySem.F.called_set.notType; have c2 := PySem.F.called_set.canCreate; have c3 := PySem.F.typeCall_set_1 x)
  repeat (any_goals (first | assumption | wp_step))
  refine codeAny_mono (code_set_led1 x (E := E) (Q₁ := fun v s1 => v = .ref s.heap.objs.size ∧ s1 = { s with heap := s.heap.push (sObj "set" (newD w)) }) ⟨rfl, rfl⟩) fun r s1 hr => ?_
  cases r with
  | error e => exact hr
  | ok fl =>
    cases fl with
    | ret v =>
      obtain ⟨rfl, rfl⟩ := hr
      have hS : (s.heap.push (sObj "set" (newD w))).get? s.heap.objs.size = some (sObj "set" (newD w)) := Heap.get?_push_size _ rfl
      have hT : Shared.TypeIs { s with heap := s.heap.push (sObj "set" (newD w)) } (.ref s.heap.objs.size) "set" := ⟨_, hS, rfl⟩
      (have c4 := PySem.F.called_set.init.lookup; have c5 := PySem.F.called_set.init.bind (.ref s.heap.objs.size))
      repeat (any_goals (first | assumption | wp_step))
      refine codeAny_mono (codeAny_call_builtin (R := wants (fun r s2 => r = .none ∧ Q (.ref s.heap.objs.size) s2) E) PySem.F.called_set.init.plain PySem.F.entry_set_init (check_set_init_1 hT ?_)) fun r2 s2 hr2 => ?_
      · unfold Builtin.«set.__init__» noKeywords
        generalize hU : Builtin.Frozenset.updateFrom = U
        wp_walk
        subst hU
        refine wpAny_mono (h A.in1.in1 (by simp [hh])) (fun _ s3 q => ?_) fun _ _ q => q
        (show wpAny _ _ (ret Value.none) _ _ _; exact wpAny_pure ⟨rfl, q⟩)
      · cases r2 with
        | error e => exact hr2
        | ok f2 =>
          cases f2 with
          | ret r =>
            obtain ⟨rfl, hq⟩ := hr2
            repeat (any_goals (first | assumption | wp_step))
          | _ => exact hr2.elim
    | _ => exact hr.elim
end
end BF
set_option Elab.async false
set_option linter.all false
set_option maxRecDepth 100000
set_option maxHeartbeats 4000000
namespace BF
open PySem PySem.Spec PyProof.Rows L2
open PySem.Froz (SD sObj TxOk addTx tailTx add_x is_str get_upd)
theorem strs_get : ∀ {l : List Value} {ks : List Str} {i : Nat} {v : Value}, StrsAre l ks → l[i]? = some v → ∃ y t, ks[i]? = some y ∧ v = .str y t
  | _, _, i, _, .nil, h => by cases i <;> cases h
  | _, _, 0, _, .cons x u _, h => ⟨x, u, rfl, (Option.some.inj h).symm⟩
  | _, _, i + 1, _, .cons _ _ r, h => strs_get (i := i) r h
theorem take_mem {xs : List Str} {i : Nat} {y : Str} (h : xs[i]? = some y) (x : Str) : x ∈ xs.take (i + 1) ↔ x ∈ xs.take i ∨ x = y := by
  rw [List.take_succ, h, List.mem_append]
  simp
theorem len_le {u xs : List Str} (nd : u.Nodup) (h : ∀ x, x ∈ u → x ∈ xs) : u.length ≤ xs.length := nd.length_le_of_subset h
section
variable {P : Program} {w : World} {A : Around} {E : Value → Shared → Prop} {s : Shared}
/-- a set holds the first i texts -/
def Holds (P : Program) (w : World) (h : Heap) (S : Addr) (ks : List Str) : Prop := ∃ D u, h.get? S = some (sObj "set" D) ∧ TsOk P w D u ∧ ∀ x, x ∈ u ↔ x ∈ ks
theorem loop_x {I S : Addr} {fp wr : List Addr} {G : Array GenState → Array GenState → Prop} {n : Nat} {Pv : Nat → Value → Prop} {St : Nat → Shared → Prop} {R : Result → Shared → Prop} (W : WalksS P w A.in1 I fp wr G n Pv St) (hSf : S ∉ fp) (xs : List Str) (hn : n = xs.length) (hn9 : n ≤ 900)
    (hval : ∀ i v, Pv i v → ∃ y t, xs[i]? = some y ∧ v = .str y t) : ∀ (k i : Nat) (s : Shared), n - i = k → i ≤ n → St i s → Holds P w s.heap S (xs.take i) →
      (∀ s', Moved (S :: wr) G s s' → Holds P w s'.heap S xs → R (.ok (.ret .none)) s') → codeAny (model P w) A (.builtin "set.update.loop" ⟨[.ref S, .ref I], []⟩) R s := by
  have nS : S ∉ wr := fun z => hSf (W.sub _ z)
  have up : ∀ b ∈ wr, b ∈ S :: wr := fun b z => List.mem_cons_of_mem _ z
  have mv : ∀ {s s' : Shared} {ks : List Str}, Moved wr G s s' → Holds P w s.heap S ks → Holds P w s'.heap S ks := fun hm ⟨D, u, h1, h2⟩ => ⟨D, u, hm.heap S _ nS h1, h2⟩
  intro k
  induction k with
  | zero =>
    intro i s hk hi hst hS hR
    obtain rfl : i = n := by omega
    (refine codeAny_builtin PyProof.Rows.F.entry_set_update_loop ?_; rw [Around.under_plainId PyProof.Rows.F.plain_set_update_loop _])
    (show wpAny _ A.in1 (pyNext (.ref I) >>= _) _ _ s; refine wpAny_bind (W.done s _ _ hst fun s2 hm => ?_))
    (show wpAny _ A.in1 (ret Value.none) _ _ s2; refine wpAny_pure (hR s2 (hm.mono up) ?_))
    have q := mv hm hS
    rw [hn, List.take_of_length_le (Nat.le_refl _)] at q
    exact q
  | succ k ih =>
    intro i s hk hi hst hS hR
    have hlt : i < n := by omega
    (refine codeAny_builtin PyProof.Rows.F.entry_set_update_loop ?_; rw [Around.under_plainId PyProof.Rows.F.plain_set_update_loop _])
    (show wpAny _ A.in1 (pyNext (.ref I) >>= _) _ _ s; refine wpAny_bind (W.item i s _ _ hlt hst fun v s2 hP hst2 hm => ?_))
    obtain ⟨y, t, hy, rfl⟩ := hval i v hP
    obtain ⟨D, u, hD, F, hu⟩ := mv hm hS
    have hul : u.length ≤ i := Nat.le_trans (len_le F.nd fun x hx => (hu x).mp hx) (List.length_take_le _ _)
    (show wpAny _ A.in1 (holding [Value.str y t] (setAdd S (.str y t)) >>= _) _ _ s2; refine wpAny_bind (wpAny_holding ?_))
    (unfold setAdd; refine wpAny_holding ?_)
    refine wpAny_bind ((strKind P w).pyHash (k := y) (is_str y t) ?_)
    refine add_any (s := { s2 with toks := s2.toks + 1 }) hD F (by omega) fun b D' h' F' hg sb => ?_
    refine wpAny_pure ⟨plainId_quiet PyProof.Rows.F.plain_set_update_loop _, ih (i + 1) _ (by omega) hlt (W.frame _ s2 _ _ hst2 (Nat.le_succ _) fun c hc o e => (sb.2 c (fun z => hSf (by rw [← z]; exact hc))).trans e) ⟨D', _, hg, F', fun x => ?_⟩ fun s3 hm3 hS3 => ?_⟩
    · rw [mem_plus, take_mem hy x, hu x]
    · refine hR s3 (Moved.trans W.gtrans ((hm.mono up).then_heap (Nat.le_succ _) fun c o hc e => ?_) hm3) hS3
      exact (sb.2 c (fun z => hc (by rw [z]; exact List.mem_cons_self))).trans e
/-- filled from a list -/
theorem fill_list {l S : Addr} {items : Array Value} {xs : List Str} {Q : Unit → Shared → Prop} (hh : A.handled = none) (hl : s.heap.IsList l items) (hi : StrsAre items.toList xs) (hx : xs.length ≤ 900) (hS : Holds P w s.heap S []) (ne : l ≠ S)
    (h : ∀ h' tk, Holds P w h' S xs → (∀ b o, b ≠ S → s.heap.get? b = some o → h'.get? b = some o) → Q () { s with heap := h', toks := tk }) : wpAny (model P w) A (Builtin.Frozenset.updateFrom "set.__init__" S (.ref l)) Q E s := by
  obtain ⟨D0, u0, hD0, F0, hu0⟩ := hS
  have f1 := PySem.F.sub_list_set
  have f2 := PySem.F.sub_list_frozenset
  have f3 : (Value.type "list" == Value.type "dict") = false := by decide
  have hlt : l < s.heap.objs.size := let ⟨_, e, _⟩ := hl; Heap.lt_size e
  have hSt : S < s.heap.objs.size := Heap.lt_size hD0
  unfold Builtin.Frozenset.updateFrom Builtin.Frozenset.isAnySet orM
  refine wpAny_bind (wpAny_bind (wpAny_isInstance (b := false) hl.typeIs f1 ?_))
  (try dsimp only; refine wpAny_isInstance (b := false) hl.typeIs f2 ?_)
  refine wp_if_neg (by decide) ?_
  refine wpAny_bind (wpAny_typeOf hl.typeIs ?_)
  refine wp_if_neg (by rw [f3]; decide) ?_
  refine wpAny_bind (wpAny_pyIter_list hl ?_)
  refine wpAny_bind (wpAny_runValue ?_)
  have hsz : items.size = xs.length := by rw [strs_len hi, Array.length_toList]
  have nI : l ≠ s.heap.objs.size := Nat.ne_of_lt hlt
  have nS : S ∉ [s.heap.objs.size, l] := fun z => by
    rcases List.mem_cons.mp z with z | z
    · exact absurd hSt (by rw [← z]; exact Nat.lt_irrefl _)
    · exact ne (List.mem_singleton.mp z).symm
  refine loop_x ((Walks.list (A := A.in1) hh s.heap.objs.size l nI items).toS) nS xs hsz (by omega) (fun i v hv => ?_) (items.size - 0) 0 _ rfl (Nat.zero_le _) ⟨⟨_, Heap.get?_push_size _ rfl, rfl, rfl⟩, hl.push _⟩ ⟨D0, u0, Heap.get?_push_of_some _ hD0, F0, hu0⟩ fun s2 hm hS2 => ?_
  · exact strs_get hi (by rw [Array.getElem?_toList]; exact hv)
  · obtain ⟨h', g2, d2, tk2, os2⟩ := s2
    have e1 : g2 = s.gens := hm.gens
    have e2 : d2 = s.drawn := hm.drawn
    have e3 : os2 = s.os := hm.os
    subst e1 e2 e3
    refine wpAny_pure (h h' tk2 hS2 fun b o nb e => hm.heap b o (fun z => ?_) (Heap.get?_push_of_some _ e))
    rcases List.mem_cons.mp z with z | z
    · exact nb z
    · exact absurd (Heap.lt_size e) (by rw [List.mem_singleton.mp z]; exact Nat.lt_irrefl _)
theorem keys_at : ∀ {a : List DictEntry} {b : List (Key × Value)} {ks : List Str}, Pairs (mixKind P w) a b → (∀ e ∈ a, ∃ k, (mixKind P w).is k e.key = true ∧ e.hash = (mixKind P w).hash k) → b.map (·.1) = ks.map Sum.inr → ∀ (i : Nat) (e : DictEntry), a[i]? = some e → ∃ y t, e.key = .str y t ∧ e.hash = hashStr w y ∧ ks[i]? = some y
  | _, _, _, .nil, _, _, i, e, h => by cases i <;> cases h
  | _, _, [], .cons _ _ _, _, hk, _, _, _ => by cases hk
  | e0 :: a, kv :: b, k0 :: ks, .cons h1 h2 p, g, hk, i, e, h => by
    obtain ⟨q1, q2⟩ := List.cons.inj hk
    cases i with
    | zero =>
      have e1 : e0 = e := Option.some.inj h
      subst e1
      obtain ⟨k, g1, g2⟩ := g e0 List.mem_cons_self
      have ek : k = Sum.inr k0 := ((mixKind P w).inj _ k kv.1 g1 h1).trans q1
      subst ek
      rcases keyIs_shape (k := Sum.inr k0) (v := e0.key) g1 with ⟨_, _, z, _⟩ | ⟨x, t, z, z2⟩
      · cases z
      · cases z
        exact ⟨k0, t, z2, g2, rfl⟩
    | succ i => exact keys_at (ks := ks) p (fun e he => g e (List.mem_cons_of_mem _ he)) q2 i e h
/-- filled from a dict's keys -/
theorem fill_dict {d S : Addr} {kvs : List (Key × Value)} {ks : List Str} {Q : Unit → Shared → Prop} (hd : s.heap.DictOf (mixKind P w) d kvs) (hm : (d == sysModules) = false) (hk : kvs.map (·.1) = ks.map Sum.inr) (hx : ks.length ≤ 63) (hS : Holds P w s.heap S []) (ne : d ≠ S)
    (h : ∀ h', Holds P w h' S ks → Heap.SameBut S s.heap h' → Q () { s with heap := h' }) : wpAny (model P w) A (Builtin.Frozenset.updateFrom "set.__init__" S (.ref d)) Q E s := by
  obtain ⟨D0, u0, hD0, F0, hu0⟩ := hS
  have e0 : u0 = [] := List.eq_nil_iff_forall_not_mem.mpr fun x hx => by cases (hu0 x).mp hx
  subst e0
  obtain ⟨o, es, ep, ho, ex, hdat, keys, prs, nd⟩ := hd
  have hT : s.TypeIs (.ref d) "dict" := ⟨o, ho, ex.1⟩
  have f1 := PySem.F.sub_dict_set
  have f2 := PySem.F.sub_dict_frozenset
  unfold Builtin.Frozenset.updateFrom Builtin.Frozenset.isAnySet orM
  refine wpAny_bind (wpAny_bind (wpAny_isInstance (b := false) hT f1 ?_))
  (try dsimp only; refine wpAny_isInstance (b := false) hT f2 ?_)
  refine wp_if_neg (by decide) ?_
  refine wpAny_bind (wpAny_typeOf hT ?_)
  refine wp_if_pos (by decide) ?_
  refine wpAny_bind (wpAny_rule ?_)
  unfold Builtin.Frozenset.addrOf
  refine wpAny_bind (wpAny_pure ?_)
  refine wp_if_neg (by rw [hm]; decide) ?_
  have ent : ∀ {h' : Heap} {R : Array DictEntry → Shared → Prop}, Heap.SameBut S s.heap h' → R es { s with heap := h' } → wpAny (model P w) A (dictEntries d) R E { s with heap := h' } := fun sb r => wpAny_dictEntries ((sb.2 d ne).trans ho) hdat r
  have epo : ∀ {h' : Heap} {R : Nat → Shared → Prop}, Heap.SameBut S s.heap h' → R ep { s with heap := h' } → wpAny (model P w) A (dictEpoch d) R E { s with heap := h' } := fun sb r => wpAny_dictEpoch ((sb.2 d ne).trans ho) hdat r
  have sb0 : Heap.SameBut S s.heap s.heap := .refl S s.heap
  have hlen : es.size = ks.length := by
    have h1 : ∀ {a : List DictEntry} {b : List (Key × Value)}, Pairs (mixKind P w) a b → a.length = b.length := fun p => by
      induction p with
      | nil => rfl
      | cons _ _ _ ih => exact congrArg (· + 1) ih
    have h2 := congrArg List.length hk
    rw [List.length_map, List.length_map] at h2
    rw [← h2, ← h1 prs]
    rfl
  have at_ : ∀ i (hi : i < es.size), ∃ e y t, es[i]? = some e ∧ e.key = .str y t ∧ e.hash = hashStr w y ∧ ks[i]? = some y := fun i hi => by
    obtain ⟨y, t, h1, h2, h3⟩ := keys_at prs (fun e he => keys e (Array.mem_toList_iff.mp he)) hk i es[i] (by rw [Array.getElem?_toList]; exact Array.getElem?_eq_getElem hi)
    exact ⟨_, y, t, Array.getElem?_eq_getElem hi, h1, h2, h3⟩
  refine wpAny_bind (epo sb0 ?_)
  refine wpAny_bind (ent sb0 ?_)
  refine wpAny_bind (room_x (n := es.size) hD0 F0 (by rw [hlen]; simpa using hx) fun D1 h1 F1 _ hg sb => ?_)
  refine wpAny_bind (ent sb ?_)
  have sb1 : Heap.SameBut S s.heap h1 := sb
  refine wpAny_bind (PySem.SeqAt.wpAny_forIn_span 0 es.size _ (fun i _ s' => ∃ h2, s' = { s with heap := h2 } ∧ Heap.SameBut S s.heap h2 ∧ Holds P w h2 S (ks.take i)) _ ?_ ?_ _ ⟨h1, rfl, sb1, D1, [], hg, F1, fun x => Iff.rfl⟩)
  · rintro i _ s' _ hi ⟨h2, rfl, sb2, D2, u2, hg2, F2, hu2⟩
    obtain ⟨e, y, t, he, hkey, hhash, hy⟩ := at_ i hi
    have hul : u2.length ≤ i := Nat.le_trans (len_le F2.nd fun x hx => (hu2 x).mp hx) (List.length_take_le _ _)
    refine wpAny_bind (ent sb2 ?_)
    rw [he]
    dsimp only
    rw [hkey, hhash]
    refine wpAny_bind (wpAny_holding (add_any (s := { s with heap := h2 }) hg2 F2 (by omega) fun b D3 h3 F3 hg3 sb3 => ?_))
    have sb4 : Heap.SameBut S s.heap h3 := sb2.trans sb3
    refine wpAny_bind (epo sb4 ?_)
    refine wp_if_neg (by simp) ?_
    refine wpAny_pure ⟨h3, rfl, sb4, D3, _, hg3, F3, fun x => ?_⟩
    rw [mem_plus, take_mem hy x, hu2 x]
  · rintro _ s' ⟨h2, rfl, sb2, hh⟩
    rw [Nat.zero_max, hlen, List.take_of_length_le (Nat.le_refl _)] at hh
    exact wpAny_pure (h h2 hh sb2)
end
end BF
set_option Elab.async false
set_option linter.all false
set_option maxRecDepth 100000
set_option maxHeartbeats 4000000
/-! the rules: sets of texts -/
namespace BF
open PySem PySem.Spec PyProof.Rows L2
open PySem.Froz (SD sObj TxOk addTx tailTx add_x is_str get_upd)
def SetL (P : Program) (w : World) (a : Addr) (ks : List Str) : HO := .ext fun h => Holds P w h a ks
section
variable {X : Cx} {pins : List (Addr × Obj)} {σ : L2.St} {H : Hp} {s : Shared} {a : Addr} {ks : List Str}
theorem holds_new {P : Program} {w : World} {h : Heap} (R : Holds P w h a ks) : ObjOk P w H h a (SetL P w a ks) := by
  have ⟨D, u, ho, _⟩ := R
  exact ⟨R, ⟨_, ho⟩, fun _ _ ⟨D, u, e, r⟩ k => ⟨D, u, k _ e, r⟩⟩
theorem holds_at (I : Inv X pins σ H s) (e : H a = some (SetL X.prog X.w a ks)) : Holds X.prog X.w s.heap a ks := (I.hok a _ e).1
/-- set(texts) -/
def rSetL (K : PySem.W.Frag) (P : Program) (w : World) : List V → Hp → VK → Prop := fun xs H Q => ∃ (l : Addr) (ks : List Str), xs = [.ref l] ∧ SqL K H l (ks.map V.str) ∧ ks.length ≤ 60 ∧ ∀ p, H p = none → Q (.ref p) (upd H p (SetL P w p ks))
theorem cr_setL (hc : X.calm = true) : CallR X (.type "set") (rSetL X.K X.prog X.w) := by
  intro pins s σ H xs us Q I r h
  obtain ⟨l, ks, rfl, hl, hk, q⟩ := h
  rw [Vals.ref1 r]
  obtain ⟨its, rv, pl, _⟩ := I.list hl
  have hn : H s.heap.objs.size = none := I.hok.fresh (Nat.le_refl _)
  have pi := pl.isList
  have hlt : l < s.heap.objs.size := let ⟨_, e, _⟩ := pi; Heap.lt_size e
  refine call_set_x (I.ok.hd hc) fun A' hA => ?_
  have pn : (s.heap.push (sObj "set" (newD X.w))).get? s.heap.objs.size = some (sObj "set" (newD X.w)) := Heap.get?_push_size _ rfl
  refine fill_list (s := { s with heap := s.heap.push (sObj "set" (newD X.w)) }) hA (pi.push _) rv.strs (by omega) ⟨_, [], pn, newD_ok, fun x => Iff.rfl⟩ (Nat.ne_of_lt hlt) fun h' tk R k => ?_
  exact ⟨.ref _, upd H s.heap.objs.size (SetL X.prog X.w s.heap.objs.size ks), I.laid (t' := tk) (fun b o e => k b o (Nat.ne_of_lt (Heap.lt_size e)) (Heap.get?_push_of_some _ e)) (Nat.le_refl _) (holds_new R), rfl, q _ hn⟩
/-- set(d), d's keys texts -/
def rSetD (P : Program) (w : World) : List V → Hp → VK → Prop := fun xs H Q => ∃ (d : Addr) (kvs : List (Key × V)) (ks : List Str), xs = [.ref d] ∧ H d = some (.dK kvs) ∧ kvs.map (·.1) = ks.map Sum.inr ∧ ks.length ≤ 60 ∧ ∀ p, H p = none → Q (.ref p) (upd H p (SetL P w p ks))
theorem cr_setD (hc : X.calm = true) : CallR X (.type "set") (rSetD X.prog X.w) := by
  intro pins s σ H xs us Q I r h
  obtain ⟨d, kvs, ks, rfl, hd, hks, hk, q⟩ := h
  rw [Vals.ref1 r]
  obtain ⟨hz0, hm, vs, kv, dd⟩ := dk_of I.hok hd
  have hn : H s.heap.objs.size = none := I.hok.fresh (Nat.le_refl _)
  have hlt : d < s.heap.objs.size := let ⟨_, _, _, e, _⟩ := dd; Heap.lt_size e
  have hvs : vs.map (·.1) = ks.map Sum.inr := by
    rw [← hks]
    clear hks dd hd hz0
    induction kv with
    | nil => rfl
    | cons p _ ih => rw [List.map_cons, List.map_cons, ih, p.1]
  refine call_set_x (I.ok.hd hc) fun A' hA => ?_
  have pn : (s.heap.push (sObj "set" (newD X.w))).get? s.heap.objs.size = some (sObj "set" (newD X.w)) := Heap.get?_push_size _ rfl
  have dd2 : (s.heap.push (sObj "set" (newD X.w))).DictOf (mixKind X.prog X.w) d vs := by
    obtain ⟨o, es, ep, ho, r⟩ := dd
    exact ⟨o, es, ep, Heap.get?_push_of_some _ ho, r⟩
  refine fill_dict (s := { s with heap := s.heap.push (sObj "set" (newD X.w)) }) dd2 hm hvs (by omega) ⟨_, [], pn, newD_ok, fun x => Iff.rfl⟩ (Nat.ne_of_lt hlt) fun h' R sb => ?_
  exact ⟨.ref _, upd H s.heap.objs.size (SetL X.prog X.w s.heap.objs.size ks), I.laid (t' := s.toks) (fun b o e => (sb.2 b (Nat.ne_of_lt (Heap.lt_size e))).trans (Heap.get?_push_of_some _ e)) (Nat.le_refl _) (holds_new R), rfl, q _ hn⟩
/-- x | y -/
def rOrL (P : Program) (w : World) : R2 := fun x y H Q => ∃ (a b : Addr) (ks ms : List Str), x = .ref a ∧ y = .ref b ∧ H a = some (SetL P w a ks) ∧ H b = some (SetL P w b ms) ∧ b ≠ a ∧ ks.length + ms.length ≤ 63 ∧ ∀ p us, (∀ x, x ∈ us ↔ x ∈ ks ∨ x ∈ ms) → us.length ≤ ks.length + ms.length → H p = none → Q (.ref p) (upd H p (SetL P w p us))
theorem op_orL : OpR X (binaryOp .BitOr) (rOrL X.prog X.w) := by
  intro pins s σ H x y v u Q I rx ry h
  obtain ⟨a, b, ks, ms, rfl, rfl, ha, hb, ab, hl, q⟩ := h
  cases rx
  cases ry
  obtain ⟨D, u1, h1, F1, m1⟩ := holds_at I ha
  obtain ⟨D2, u2, h2, F2, m2⟩ := holds_at I hb
  have l1 := len_le F1.nd fun x hx => (m1 x).mp hx
  have l2 := len_le F2.nd fun x hx => (m2 x).mp hx
  refine or_x h1 F1 h2 F2 ab (by omega) fun D' us h' F' hm hg k => ?_
  have l3 : us.length ≤ ks.length + ms.length := by
    have := len_le F'.nd (xs := u1 ++ u2) fun x hx => List.mem_append.mpr ((hm x).mp hx)
    rw [List.length_append] at this
    omega
  have hn : H s.heap.objs.size = none := I.hok.fresh (Nat.le_refl _)
  exact ⟨.ref _, upd H s.heap.objs.size (SetL X.prog X.w s.heap.objs.size us), I.laid (t' := s.toks) k (Nat.le_refl _) (holds_new ⟨D', us, hg, F', fun x => Iff.rfl⟩), rfl, q _ us (fun x => by rw [hm x, m1 x, m2 x]) l3 hn⟩
/-- sorted(x) -/
def rSortL (P : Program) (w : World) : List V → Hp → VK → Prop := fun xs H Q => ∃ (a : Addr) (ks : List Str), xs = [.ref a] ∧ H a = some (SetL P w a ks) ∧ ks.length < 64 ∧ ∀ (us : List Str) p, us.Nodup → (∀ x, x ∈ us ↔ x ∈ ks) → H p = none → Q (.ref p) (upd H p (.lst ((sortS us).map V.str)))
theorem cr_sortL (hc : X.calm = true) : CallR X (.builtin "sorted") (rSortL X.prog X.w) := by
  intro pins s σ H vs us Q I r h
  obtain ⟨a, ks, rfl, ha, hk, q⟩ := h
  rw [Vals.ref1 r]
  obtain ⟨D, u, h1, F1, m1⟩ := holds_at I ha
  have l1 := len_le F1.nd fun x hx => (m1 x).mp hx
  refine sorted_x h1 F1 (I.ok.hd hc) (by omega) fun s' p out c k g o hp hg hst => ?_
  have hlen : ((sortS u).map V.str).length ≤ sizeLine := by
    rw [List.length_map, sortS_length, sizeLine_eq]
    omega
  have hn : H p = none := I.hok.fresh hp
  have J : Inv X pins σ (upd H p (.lst ((sortS u).map V.str))) { s with heap := s'.heap, gens := s'.gens, drawn := s'.drawn, toks := s'.toks } :=
    I.call (ch := []) (Un.laid k hp hn) (I.hok.laid k hp ⟨hlen, out.toList, c, vals_of_strs hst, hg⟩) (by rw [g]; exact I.bare) fun _ z => by cases z
  have es : s' = { s with heap := s'.heap, gens := s'.gens, drawn := s'.drawn, toks := s'.toks } := by
    obtain ⟨_, _, _, _, _⟩ := s'
    obtain ⟨_, _, _, _, _⟩ := s
    cases o
    rfl
  rw [es]
  exact ⟨.ref p, _, J, rfl, q u p F1.nd m1 hn⟩
end
end BF
set_option Elab.async false
set_option linter.all false
set_option maxRecDepth 100000
set_option maxHeartbeats 4000000
/-! list(reversed(a list)) -/
namespace BF
open PySem PySem.Spec PyProof.Rows L2
section
variable {P : Program} {w : World} {A : Around} {E : Value → Shared → Prop} {s : Shared} {S it l : Addr} {xs : Array Value} {c0 : Nat}
/-- an empty list takes in what walks a list backward -/
theorem fill_back {R : Result → Shared → Prop} {res : Value} (hh : A.handled = none) (bi : s.heap.IsRevIter it l ((xs.size : Int) - 1)) (bl : s.heap.IsList l xs) (li : l ≠ it) (hz : xs.size ≤ sizeLine)
    (hS : s.heap.get? S = some { cls := .type "list", data := .seq #[] c0 }) (Si : S ≠ it) (Sl : S ≠ l)
    (q : ∀ (h' : Heap) (tk : Nat) (ys : Array Value) (c : Nat), h'.get? S = some { cls := .type "list", data := .seq ys c } → (∀ b o, b ≠ it → b ≠ S → s.heap.get? b = some o → h'.get? b = some o) →
      ItemsOf (fun i v => xs[xs.size - 1 - i]? = some v) ys xs.size → R (.ok (.ret res)) { s with heap := h', toks := tk }) :
    wpAny (model P w) A.in1 (Builtin.List.listExtendWith (.ref S) (.ref it) res) (fun fin s' => match fin with | .done f => R (.ok f) s' | .again c' => c'.quiet = true ∧ codeAny (model P w) A c' R s') (fun e s' => R (.error e) s') s := by
  have WB := (Walks.listRev (prog := P) (w := w) (A := A.in1) hh it l li xs).toS
  have tyB : s.TypeIs (.ref it) "list_reverseiterator" := bi.typeIs
  have offS : S ∉ [it, l] := by simp [Si, Sl]
  have same : Builtin.List.listSameRef (.ref S) (.ref it) = false := by simp [Builtin.List.listSameRef, Si]
  have z0 : ((xs.size : Nat) : Int) - 1 - ((0 : Nat) : Int) = (xs.size : Int) - 1 := by omega
  unfold Builtin.List.listExtendWith
  refine wpAny_bind (wpAny_typeOf tyB ?_)
  rw [if_neg (by rw [same]; decide)]
  refine wpAny_bind (wpAny_pyIter_revIter bi ?_)
  refine wpAny_bind (wpAny_holding ?_)
  unfold Builtin.List.listLengthHint
  refine wpAny_bind (wpAny_specialOf tyB RT.nolen_lri ?_)
  (show wpAny _ A.in1 (specialOf (Value.ref it) (Str.ofString "__length_hint__") >>= _) _ _ s; refine wpAny_bind (wpAny_specialOf tyB RT.hint_lri ?_))
  generalize hnm : ("list_reverseiterator.__length_hint__" : String) = nm
  wp_delta
  rw [show splitId nm = some ("list_reverseiterator", "__length_hint__") by subst hnm; decide +kernel]
  subst hnm
  refine wpAny_bind (wpAny_isInstance (b := true) tyB (by rw [isSubtype_type]; kernel_rfl) (wpAny_pure ?_))
  rw [if_neg (by decide)]
  refine wpAny_pure ⟨plainId_quiet F.plain_extend_loop _, codeAny_extend_loopS WB hz S offS res xs.size 0 s #[] c0 rfl (Nat.zero_le _) ⟨Nat.zero_le _, by rw [z0]; exact bi, bl⟩ hS (ItemsOf.nil _) fun s2 ys c mv e y => ?_⟩
  rw [Moved.eq_with mv]
  exact q _ _ ys c e (fun b o b1 b2 eb => mv.heap b o (by simp [b1, b2]) eb) y
/-- list(b), b walks a list backward -/
theorem call_list_back {Q : Value → Shared → Prop} (hh : A.handled = none) (bi : s.heap.IsRevIter it l ((xs.size : Int) - 1)) (bl : s.heap.IsList l xs) (li : l ≠ it) (hz : xs.size ≤ sizeLine)
    (q : ∀ (h' : Heap) (tk : Nat) (ys : Array Value) (c : Nat), h'.get? s.heap.objs.size = some { cls := .type "list", data := .seq ys c } → (∀ b o, b ≠ it → s.heap.get? b = some o → h'.get? b = some o) →
      ItemsOf (fun i v => xs[xs.size - 1 - i]? = some v) ys xs.size → Q (.ref s.heap.objs.size) { s with heap := h', toks := tk }) :
    wpAny (model P w) A (call (.type "list") [.ref it]) Q E s := by
  have oldI : it < s.heap.objs.size := let ⟨_, e, _⟩ := bi; Heap.lt_size e
  have oldL : l < s.heap.objs.size := let ⟨_, e, _⟩ := bl; Heap.lt_size e
  refine callType_codes (Q₁ := fun v s1 => v = .ref s.heap.objs.size ∧ s1 = { s with heap := s.heap.push { cls := .type "list", data := .seq #[] } }) F.called_list (F.typeCall_list_1 _) F.entry_list_init (code_list_new _ ⟨rfl, rfl⟩) ?_
  rintro v s1 ⟨rfl, rfl⟩
  have hS : (s.heap.push { cls := .type "list", data := .seq #[] }).get? s.heap.objs.size = some { cls := .type "list", data := .seq #[] } := Heap.get?_push_size _ rfl
  refine ⟨⟨_, hS, rfl⟩, F.args_list_init_2 _ _, ?_⟩
  generalize hg : s.heap.push { cls := .type "list", data := .seq #[] } = g at hS ⊢
  have gk : ∀ b o, s.heap.get? b = some o → g.get? b = some o := fun b o e => by rw [← hg]; exact Heap.get?_push_of_some _ e
  show wpAny _ _ (Builtin.List.listItems (.ref s.heap.objs.size) >>= _) _ _ _
  unfold Builtin.List.listItems
  refine wpAny_bind (wpAny_bind (wpAny_seqItems hS rfl (wpAny_pure ?_)))
  show wpAny _ _ (updateSeq s.heap.objs.size (fun _ => #[]) >>= _) _ _ _
  refine wpAny_bind (wpAny_updateSeq hS rfl ?_)
  have hS2 := Heap.get?_update_self (Obj.mapSeq (fun _ => (#[] : Array Value))) hS rfl
  have k2 : ∀ b o, s.heap.get? b = some o → (g.update s.heap.objs.size (Obj.mapSeq (fun _ => (#[] : Array Value)))).get? b = some o :=
    fun b o e => (Heap.get?_update_other _ _ (Nat.ne_of_gt (Heap.lt_size e))).trans (gk b o e)
  refine wpAny_bind (wpAny_letGo ?_)
  refine fill_back (A := A.in1) (S := s.heap.objs.size) hh (bi.at fun o e => k2 it o e) ?_ li hz hS2 (Nat.ne_of_gt oldI) (Nat.ne_of_gt oldL) fun h' tk ys c e k y => ?_
  · obtain ⟨o, e, r⟩ := bl
    exact ⟨o, k2 l o e, r⟩
  · exact ⟨rfl, q h' tk ys c e (fun b o b1 eb => k b o b1 (Nat.ne_of_lt (Heap.lt_size eb)) (k2 b o eb)) y⟩
end
section
variable {X : Cx}
/-- list(reversed(x)), x a list -/
def tLstRev (K : PySem.W.Frag) (te : TE) : TE := fun σ H Q => te σ H fun v H1 => ∃ (a : Addr) (xs : List V), v = .ref a ∧ SqL K H1 a xs ∧ ∀ q, H1 q = none → Q (.ref q) (upd H1 q (.lst xs.reverse))
theorem pe_lstRev {e : Expr} {te : TE} {p p2 pos pos2 : Pos} (K : PySem.W.Frag) (hc : X.calm = true) (gl : Gl X "list") (ml : X.mg "list" = none) (gr : Gl X "reversed") (mr : X.mg "reversed" = none) (he : PE X e te) (hK : X.K = K := by rfl)
    (h1 : starEach [e] X.env = (false, eval e X.env) :: starEach [] X.env := by rfl)
    (h2 : starEach [.Call (.Name "reversed" p2) [e] [] pos2] X.env = (false, eval (.Call (.Name "reversed" p2) [e] [] pos2) X.env) :: starEach [] X.env := by rfl) :
    PE X (.Call (.Name "list" p) [.Call (.Name "reversed" p2) [e] [] pos2] [] pos) (tLstRev K te) := by
  subst hK
  refine ⟨fun pins s σ H Q I h => ?_⟩
  have bl : bootBuiltins "list" = some (.type "list") := by decide +kernel
  refine Call_ (ld_blt I gl ml bl (callWith_type1 (args_cons (Call_ (ld_blt I gr mr boot_reversed (callWith_type1 (args_cons (thn (he.run pins s σ H _ I h) fun u s1 ⟨v, H1, I1, r1, q1⟩ => args_nil ?_) h1) h1 rfl))) h2) h2 rfl))
  obtain ⟨a, ys, rfl, hq, q⟩ := q1
  cases r1
  obtain ⟨its, rv, pl, hz⟩ := I1.list hq
  have hz2 : its.toArray.size ≤ sizeLine := by rw [List.size_toArray, ← rv.length]; exact hz
  have la := pl.isList
  have lt : a < s1.heap.objs.size := let ⟨_, e, _⟩ := la; Heap.lt_size e
  refine call_reversed_list la (args_nil ?_)
  refine call_list_back (s := { s1 with heap := s1.heap.push (revObj a ((its.toArray.size : Int) - 1)) }) (I1.ok.hd hc) ⟨_, Heap.get?_push_size _ rfl, rfl, rfl⟩ (la.push _) (Nat.ne_of_lt lt) hz2 fun h' tk zs c e k y => ?_
  generalize hp : (s1.heap.push (revObj a ((its.toArray.size : Int) - 1))).objs.size = p at e ⊢
  have up : s1.heap.objs.size ≤ p := by rw [← hp]; simp [Heap.push]
  refine ⟨.ref p, upd H1 p (.lst ys.reverse), I1.laid (t' := tk) (fun b o eb => k b o (Nat.ne_of_lt (Heap.lt_size eb)) (Heap.get?_push_of_some _ eb)) up ?_, rfl, q p (I1.hok.fresh up)⟩
  exact ⟨by rw [List.length_reverse]; exact hz, zs.toList, c, RT.vals_rev rv y, by simpa using e⟩
end
end BF
namespace BF
open PySem PySem.Spec PyProof.Rows L2
/-- a place that is never reached -/
theorem pe_no {X : Cx} {e : Expr} : PE X e (fun _ _ _ => False) := ⟨fun _ _ _ _ _ _ h => False.elim h⟩
end BF
set_option Elab.async false
set_option linter.all false
set_option maxRecDepth 100000
set_option maxHeartbeats 4000000
/-! d.update(a dict) -/
namespace BF
open PySem PySem.Spec PyProof.Rows L2
/-- d.update(e): two dicts of int and text keys that stand apart -/
def tDUpd (td te : TE) : TE := fun σ H Q => td σ H fun x H1 => ∃ a, x = .ref a ∧ IsD H1 a ∧ te σ H1 fun y H2 => ∃ (b : Addr) (kvs more : List (Key × V)), y = .ref b ∧ H2 a = some (.dK kvs) ∧ H2 b = some (.dK more) ∧ a ≠ b ∧ kvs.length + more.length ≤ sizeLine ∧
  Q .non (upd H2 a (.dK (mergeK kvs more)))
section
variable {X : Cx} {o e : Expr} {apos cpos : Pos} {td te : TE}
theorem pe_dupd (ho : PE X o td) (he : PE X e te) (m : M1 X o "update" apos e cpos) : PE X (.Call (.Attribute o "update" apos) [e] [] cpos) (tDUpd td te) := by
  refine ⟨fun pins s σ H Q I h => ?_⟩
  refine wpAny_Call_method m.base m.few m.line F.plainAttrs_dict F.slot_dict_update F.type_dict_update (thn (ho.run pins s σ H _ I h) fun v s1 ⟨x, H1, I1, rx, a, ea, hd, q1⟩ => ?_)
  subst ea
  cases rx
  have tys := isD_at I1 hd
  refine ⟨tys.1, tys.2.1, ?_⟩
  rw [m.trees]
  refine Calls.callWith_builtin rfl (Calls.evalArgs_plain (Calls.spliced_cons (thn (he.run pins s1 σ H1 _ I1 q1) fun v2 s2 ⟨y, H2, I2, ry, b, kvs, more, eb, ha, hb, ne, hz, q2⟩ => Calls.spliced_nil ?_)))
  subst eb
  cases ry
  obtain ⟨za, ma, vs, ra, da⟩ := dk_of I2.hok ha
  obtain ⟨zb, mb, ws, rb, db⟩ := dk_of I2.hok hb
  refine call_meetsIn F.slot_dict_update da.typeIs F.entry_dict_update (F.args_dict_update_2 _ _) (meets_dict_update (mixKind X.prog X.w) a b ne mb) ⟨vs, ws, da, db, by rw [← ra.length, ← rb.length]; exact hz, fun h' dd _ sb => ?_⟩
  refine ⟨.non, _, ?_, rfl, q2⟩
  exact d_write (t' := s2.toks) I2 (by rw [ha]; exact True.intro) sb (let ⟨u, _, _, e, _⟩ := dd; ⟨u, e⟩) (dk_new (Nat.le_trans (length_mergeK more kvs) hz) ma (KV.merge rb ra) dd)
end
end BF
set_option Elab.async false
set_option linter.all false
set_option maxRecDepth 100000
set_option maxHeartbeats 4000000
/-! repr((a list of texts, a dict from texts to lists of texts)), where the guards are known -/
namespace BF
open PySem PySem.Spec PyProof.Rows L2
/-- a dict's rows: names and the texts of their lists -/
def RowsOk (H : Hp) (kvs : List (Key × V)) (rows : List (Str × List Str)) : Prop :=
  Paired (fun (p : Key × V) (r : Str × List Str) => p.1 = .inr r.1 ∧ ∃ l, p.2 = .ref l ∧ H l = some (.lst (r.2.map V.str))) kvs rows
def dTxts (us : List Str) : PyData := .list (us.map .str)
def dRows (rows : List (Str × List Str)) : List (PyData × PyData) := rows.map fun r => (.str r.1, dTxts r.2)
def dBoth (us : List Str) (rows : List (Str × List Str)) : PyData := .tuple [dTxts us, .dict (dRows rows)]
def shownBoth (us : List Str) (rows : List (Str × List Str)) : Str := (dBoth us rows).shown
/-- texts of no great length -/
def Small (x : Str) : Prop := x.length ≤ 9 ∧ ∀ c ∈ x.cps.toList, c < 16 ^ 8
structure SmallBoth (us : List Str) (rows : List (Str × List Str)) : Prop where
  us : us.length ≤ 100 ∧ ∀ x ∈ us, Small x
  rows : rows.length ≤ 60 ∧ ∀ r ∈ rows, Small r.1 ∧ r.2.length ≤ 100 ∧ ∀ x ∈ r.2, Small x
theorem sum_le {α : Type} (f : α → Nat) (n : Nat) : ∀ l : List α, (∀ x ∈ l, f x ≤ n) → (l.map f).sum ≤ n * l.length
  | [], _ => by simp
  | x :: l, h => by
    have h1 := h x (List.mem_cons_self ..)
    have h2 := sum_le f n l fun y hy => h y (List.mem_cons_of_mem _ hy)
    simp only [List.map_cons, List.sum_cons, List.length_cons, Nat.mul_succ]
    omega
theorem shownAll_map : ∀ ds : List PyData, PyData.shownAll ds = ds.map PyData.shown
  | [] => by simp only [PyData.shownAll, List.map_nil]
  | d :: ds => by simp only [PyData.shownAll, List.map_cons, shownAll_map ds]
theorem shown_small {x : Str} (h : Small x) : (PyData.str x).shown.length ≤ 92 := by
  have := StrLaws.reprText_len x h.2
  have h1 := h.1
  simp only [PyData.shown]
  omega
theorem shown_txts {us : List Str} (n : us.length ≤ 100) (h : ∀ x ∈ us, Small x) : (dTxts us).shown.length ≤ 9403 := by
  have e : (dTxts us).shown = listText ((us.map PyData.str).map PyData.shown) := by simp only [dTxts, PyData.shown, shownAll_map]
  rw [e]
  have z := listText_len_le ((us.map PyData.str).map PyData.shown)
  have z2 := sum_le (fun t : Str => t.length) 92 ((us.map PyData.str).map PyData.shown) fun t ht => by
    simp only [List.map_map, List.mem_map, Function.comp] at ht
    obtain ⟨x, hx, e⟩ := ht
    subst e
    exact shown_small (h x hx)
  simp only [List.length_map] at z z2
  omega
theorem shownKv_map : ∀ rows : List (Str × List Str), PyData.shownKv (dRows rows) = rows.map fun r => (PyData.str r.1).shown ++ ": " ++ (dTxts r.2).shown
  | [] => by simp only [dRows, List.map_nil, PyData.shownKv]
  | r :: rows => by
    have ih := shownKv_map rows
    simp only [dRows] at ih
    simp only [dRows, List.map_cons, PyData.shownKv, ih]
theorem shown_both {us : List Str} {rows : List (Str × List Str)} (S : SmallBoth us rows) : (shownBoth us rows).length ≤ sizeLine := by
  have e : shownBoth us rows = tupleText [(dTxts us).shown, dictText (rows.map fun r => (PyData.str r.1).shown ++ ": " ++ (dTxts r.2).shown)] := by
    rw [← shownKv_map]
    simp only [shownBoth, dBoth, PyData.shown, PyData.shownAll]
  rw [e]
  have z := tupleText_len_le [(dTxts us).shown, dictText (rows.map fun r => (PyData.str r.1).shown ++ ": " ++ (dTxts r.2).shown)]
  have z1 := dictText_len_le (rows.map fun r => (PyData.str r.1).shown ++ ": " ++ (dTxts r.2).shown)
  have z2 := sum_le (fun t : Str => t.length) 9497 (rows.map fun r => (PyData.str r.1).shown ++ ": " ++ (dTxts r.2).shown) fun t ht => by
    obtain ⟨r, hr, e⟩ := List.mem_map.mp ht
    subst e
    obtain ⟨s1, n, s2⟩ := S.rows.2 r hr
    have a := shown_small s1
    have b := shown_txts n s2
    have c : ((": " : String) : Str).length = 2 := rfl
    rw [strLen_append, strLen_append]
    omega
  have z3 := shown_txts S.us.1 S.us.2
  have z4 := S.rows.1
  simp only [List.length_map, List.map_cons, List.map_nil, List.sum_cons, List.sum_nil, List.length_cons, List.length_nil] at z z1 z2
  have e9 : sizeLine = 16777216 := sizeLine_eq
  omega
section
variable {P : Program} {w : World} {H : Hp} {h : Heap} {a : Addr}
theorem reads_txts : ∀ {us : List Str} {its : List Value}, Vals (us.map V.str) its → ReadsAll h its (us.map PyData.str) []
  | [], _, .nil => .nil
  | x :: us, _, .cons r t => by
    obtain ⟨k, e⟩ := r
    subst e
    exact .cons (as := []) (bs := []) (.str x k) (reads_txts t)
theorem reads_lst {us : List Str} (ok : HOk P w H h) (e : H a = some (.lst (us.map V.str))) : Reads h (.ref a) (dTxts us) [a] := by
  obtain ⟨_, its, n, r, g⟩ := ok a _ e
  exact .list g rfl rfl (by simpa using reads_txts r)
theorem reads_rows (ok : HOk P w H h) {kvs : List (Key × V)} {rows : List (Str × List Str)} (R : RowsOk H kvs rows) : ∀ {vs : List (Key × Value)} {es : List DictEntry}, KV kvs vs → Pairs (mixKind P w) es vs →
    ReadsAll h (es.map (·.key)) ((dRows rows).map (·.1)) [] ∧ ∃ bs, ReadsAll h (es.map (·.val)) ((dRows rows).map (·.2)) bs := by
  induction R with
  | nil =>
    intro vs es k p
    cases k
    cases p
    exact ⟨.nil, [], .nil⟩
  | @cons p r kvs rows hpr _ ih =>
    intro vs es k q
    obtain ⟨e1, l, e2, hl⟩ := hpr
    cases k with
    | @cons _ v _ vs kv kt =>
      cases q with
      | @cons en _ es _ qk qv qt =>
        obtain ⟨i1, bs, i2⟩ := ih kt qt
        obtain ⟨k1, k2⟩ := kv
        rw [e1] at k1
        rw [e2] at k2
        have z : en.val = .ref l := qv.trans k2
        have y : keyIs v.1 en.key = true := qk
        rw [← k1] at y
        obtain ⟨t, ek⟩ := Value.isStrOf_shape (x := r.1) (v := en.key) y
        have a1 : Reads h en.key (.str r.1) [] := by rw [ek]; exact .str _ _
        have a2 : Reads h en.val (dTxts r.2) [l] := by rw [z]; exact reads_lst ok hl
        exact ⟨.cons (as := []) (bs := []) a1 i1, _, .cons a2 i2⟩
theorem plain_txts : ∀ us : List Str, PyData.showableAll (us.map PyData.str) = true ∧ PyData.hasDictAll (us.map PyData.str) = false
  | [] => by simp only [List.map_nil, PyData.showableAll, PyData.hasDictAll, and_self]
  | x :: us => by simp only [List.map_cons, PyData.showableAll, PyData.hasDictAll, PyData.showable, PyData.hasDict, plain_txts us, Bool.and_self, Bool.or_self, and_self]
theorem plain_lst (us : List Str) : (dTxts us).showable = true ∧ (dTxts us).hasDict = false := by
  simp only [dTxts, PyData.showable, PyData.hasDict, plain_txts us, and_self]
theorem plain_rows : ∀ rows : List (Str × List Str), (PyData.showableAll ((dRows rows).map (·.1)) = true ∧ PyData.hasDictAll ((dRows rows).map (·.1)) = false) ∧ PyData.showableAll ((dRows rows).map (·.2)) = true ∧ PyData.hasDictAll ((dRows rows).map (·.2)) = false
  | [] => by simp only [dRows, List.map_nil, PyData.showableAll, PyData.hasDictAll, and_self]
  | r :: rows => by
    have ih := plain_rows rows
    simp only [dRows] at ih
    simp only [dRows, List.map_cons, PyData.showableAll, PyData.hasDictAll, PyData.showable, PyData.hasDict, plain_lst r.2, ih, Bool.and_self, Bool.or_self, and_self]
theorem no_of {b : Bool} {T : Prop} (e : b = false) : b = true → T := fun z => by rw [e] at z; cases z
theorem reads_dct {d : Addr} {kvs : List (Key × V)} {rows : List (Str × List Str)} (ok : HOk P w H h) (e : H d = some (.dK kvs)) (R : RowsOk H kvs rows) (S : rows.length ≤ 60 ∧ ∀ r ∈ rows, Small r.1 ∧ r.2.length ≤ 100 ∧ ∀ x ∈ r.2, Small x) :
    ∃ as bs, Reads h (.ref d) (.dict (dRows rows)) as ∧ ReadAtMost h (PyData.dict (dRows rows)).depth bs ∧ ReprK P w bs h (PyData.dict (dRows rows)).depth (.ref d) (PyData.dict (dRows rows)).shown := by
  obtain ⟨_, m, vs, kv, o, es, ep, g, x, dd, _, pr, _⟩ := dk_of ok e
  obtain ⟨r1, bs, r2⟩ := reads_rows ok R kv pr
  have rd : Reads h (.ref d) (.dict (dRows rows)) _ := .dict g x.1 dd r1 r2
  obtain ⟨⟨p1, p2⟩, p3, p4⟩ := plain_rows rows
  obtain ⟨b1, hb1, k1⟩ := ReprAllK.of_readsAll (prog := P) (w := w) r1 p1 (no_of p2) fun t ht => by
    rw [shownAll_map] at ht
    obtain ⟨y, hy, et⟩ := List.mem_map.mp ht
    simp only [dRows, List.map_map, List.mem_map, Function.comp] at hy
    obtain ⟨r, hr, ey⟩ := hy
    subst ey et
    have := shown_small (S.2 r hr).1
    rw [sizeLine_eq]
    omega
  obtain ⟨b2, hb2, k2⟩ := ReprAllK.of_readsAll (prog := P) (w := w) r2 p3 (no_of p4) fun t ht => by
    rw [shownAll_map] at ht
    obtain ⟨y, hy, et⟩ := List.mem_map.mp ht
    simp only [dRows, List.map_map, List.mem_map, Function.comp] at hy
    obtain ⟨r, hr, ey⟩ := hy
    subst ey et
    have := shown_txts (S.2 r hr).2.1 (S.2 r hr).2.2
    rw [sizeLine_eq]
    omega
  have hb : ReadAtMost h (PyData.depthKv (dRows rows)) (b1 ++ b2) := (hb1.mono (PyData.depthAll_keys_le _)).append (hb2.mono (PyData.depthAll_vals_le _))
  refine ⟨_, d :: (b1 ++ b2), rd, ReadAtMost.cons rd (by simp only [PyData.depth]; omega) hb, ?_⟩
  have nd : d ∉ b1 ++ b2 := not_mem_of_deeper rd (by simp only [PyData.depth]; omega) hb
  simp only [PyData.depth, PyData.shown, PyData.shownKv_eq]
  have q1 := k1.more_le (fun b hb => List.mem_append_left b2 hb) (PyData.depthAll_keys_le (dRows rows))
  have q2 := k2.more_le (fun b hb => List.mem_append_right b1 hb) (PyData.depthAll_vals_le (dRows rows))
  exact ReprK.dict g x.1 dd m nd (ReprEntriesK.of_two es.toList _ _ q1 q2)
theorem depth_lst (us : List Str) : (dTxts us).depth ≤ 1 := by
  have z : ∀ us : List Str, PyData.depthAll (us.map PyData.str) = 0 := fun us => by
    induction us with
    | nil => simp only [List.map_nil, PyData.depthAll]
    | cons x us ih => simp only [List.map_cons, PyData.depthAll, PyData.depth, ih, Nat.max_self]
  simp only [dTxts, PyData.depth, z]
  omega
theorem depth_rows : ∀ rows : List (Str × List Str), PyData.depthKv (dRows rows) ≤ 1
  | [] => by simp only [dRows, List.map_nil, PyData.depthKv]; omega
  | r :: rows => by
    have ih := depth_rows rows
    have d := depth_lst r.2
    simp only [dRows] at ih
    simp only [dRows, List.map_cons, PyData.depthKv, PyData.depth]
    omega
theorem repr_both {A : Around} {E : Value → Shared → Prop} {Q : Value → Shared → Prop} {s : Shared} {p d : Addr} {us : List Str} {kvs : List (Key × V)} {rows : List (Str × List Str)} (ok : HOk P w H s.heap) (hp : H p = some (.tup [.ref a, .ref d])) (ha : H a = some (.lst (us.map V.str)))
    (hd : H d = some (.dK kvs)) (R : RowsOk H kvs rows) (S : SmallBoth us rows) (hg : A.guards = some []) (hu : A.units + 8 < cLine)
    (q : ∀ h' u tk, (∀ b o, s.heap.get? b = some o → h'.get? b = some o) → Q (.str (shownBoth us rows) u) { s with heap := h', toks := tk }) :
    wpAny (model P w) A (call (.builtin "repr") [.ref p]) Q E s := by
  obtain ⟨_, its, ri, o, g, cl, n, dt⟩ := ok p _ hp
  cases ri with
  | cons x1 t1 =>
    cases t1 with
    | cons x2 t2 =>
      cases t2
      cases x1
      cases x2
      have rl := reads_lst ok ha
      obtain ⟨as, bs, rd, hbs, kd⟩ := reads_dct ok hd R S.rows
      have wh : Reads s.heap (.ref p) (dBoth us rows) _ := .tuple g cl dt (.cons rl (.cons rd .nil))
      obtain ⟨b0, hb0, k0⟩ := ReprK.of_reads (prog := P) (w := w) rl (plain_lst us).1 (no_of (plain_lst us).2) (by have := shown_txts S.us.1 S.us.2; rw [sizeLine_eq]; omega)
      have d1 := depth_lst us
      have d2 := depth_rows rows
      have dd : (PyData.dict (dRows rows)).depth ≤ 2 := by simp only [PyData.depth]; omega
      have hb : ReadAtMost s.heap (PyData.depthAll [dTxts us, .dict (dRows rows)]) (b0 ++ bs) :=
        (hb0.mono (by simp only [PyData.depthAll]; omega)).append (hbs.mono (by simp only [PyData.depthAll]; omega))
      have np : p ∉ b0 ++ bs := not_mem_of_deeper wh (by simp only [dBoth, PyData.depth]; omega) hb
      refine call_repr_slot (by omega) ⟨o, g, cl⟩ F.slot_tuple_repr ?_
      refine call_tuple_reprK (as := b0 ++ bs) (d := 2) (ts := [(dTxts us).shown, (PyData.dict (dRows rows)).shown]) g cl dt np (.cons ((k0.more fun b hb => List.mem_append_left _ hb).level_le (by omega)) (.cons ((kd.more fun b hb => List.mem_append_right _ hb).level_le dd) .nil)) (show A.in1.guards = some [] from hg) (fun b _ => Clear.nil b)
        (show A.units + 1 + (2 + 1) < cLine by omega) (fun _ _ e => e) (fun h' u tk k => ⟨_, _, rfl, ?_⟩) ?_
      · have z := q h' u tk k
        simpa only [shownBoth, dBoth, PyData.shown, PyData.shownAll] using z
      · have z := shown_both S
        simpa only [shownBoth, dBoth, PyData.shown, PyData.shownAll] using z
end
/-- repr(x), x such a pair, where the guards are known -/
def rReprB : List V → Hp → VK → Prop := fun xs H Q => ∃ (p a d : Addr) (us : List Str) (kvs : List (Key × V)) (rows : List (Str × List Str)), xs = [.ref p] ∧ H p = some (.tup [.ref a, .ref d]) ∧ H a = some (.lst (us.map V.str)) ∧ H d = some (.dK kvs) ∧
  RowsOk H kvs rows ∧ SmallBoth us rows ∧ Q (.str (shownBoth us rows)) H
theorem cr_reprB {X : Cx} (hg : X.A.guards = some []) (hu : X.A.units + 8 < cLine) : CallR X (.builtin "repr") rReprB := by
  intro pins s σ H xs us Q I r h
  obtain ⟨p, a, d, ts, kvs, rows, rfl, hp, ha, hd, R, S, q⟩ := h
  rw [Vals.ref1 r]
  exact repr_both I.hok hp ha hd R S hg hu fun h' u tk k => ⟨.str _, H, I.kept (t' := tk) k, ⟨u, rfl⟩, q⟩
end BF
namespace BF
open PySem PySem.Spec PyProof.Rows L2
/-- isinstance(e, C), e one of several own errors -/
def rIsE (K : PySem.W.Frag) (Ds : Addr → Prop) (cls : Value) (d : Option Addr) (a : Addr) : List V → Hp → VK → Prop := fun xs H Q => ∃ D, Ds D ∧ rIsD K D cls d a xs H Q
theorem call_isE {X : Cx} {a : Addr} {Ds : Addr → Prop} {oe : Obj} {cls : Value} {d : Option Addr} {pn : List (Addr × Obj)} (C : ∀ D, Ds D → IsC X.K D) (hz : Zc cls d oe) (hf : ∃ vs, oe.data = .fields vs) : CallR (X.suite a ((a, oe) :: pn)) (.builtin "isinstance") (rIsE X.K Ds cls d a) := by
  intro pins s σ H xs us Q I r h
  obtain ⟨D, hD, q⟩ := h
  exact call_isD (C D hD) hz hf pins s σ H xs us Q I r q
theorem kit_ne {K : PySem.W.Frag} {t : Value} {C : Addr} (h1 : PySem.W.subIn K (.ref C) (.ref C) = some true) (h2 : PySem.W.subIn K t (.ref C) = some false) : t ≠ .ref C := fun e => by
  rw [e, h1] at h2
  cases h2
theorem hu8_of {k : Nat} {A : Around} (r : Room k A) : A.units + 8 < cLine := by
  have := r.un
  omega
end BF
set_option Elab.async false
set_option linter.all false
set_option maxRecDepth 100000
set_option maxHeartbeats 4000000
/-! a law's def run for the caller of all: there the guards are known, so repr may be read -/
namespace BF
open PySem PySem.Spec PyProof.Rows L2
section
variable {P : Program} {w : World} {K : PySem.W.Frag} {mg : Str → Option Value} {base : Heap}
/-- a def's body, read for the caller alone -/
theorem run_top {x ql : Str} {st : Stmt} {f : Addr} {fd : FuncData} {N ps : List Str} {k : Nat} {sp : Sp} (F : C8.Fun K x ql st f fd) (S : FnScope N ps (C8.fnScope st)) (R : Room (k + 1) callerA) {s : Shared} {H : Hp} {us : List Value} {vs : List V} {Q : VK} {E : XK}
    (read : ∀ cd : Value, Room k (callerA.deeper (envOfC ql (C8.fnScope st) s.heap.objs.size f cd)) → ∃ t, PSs (cxOf C8.CX0 P w K mg base N ql (C8.fnScope st) f cd callerA [] s H E).nox (C8.fnBody st) t ∧ t { nx := fun _ G => Q .non G, rt := Q } (start N vs) H)
    (e0 : Env0 P w K mg base callerA [] s H) (bnd : BindsTo s fd ⟨us, []⟩ (ps.zip us)) (rv : Vals vs us) (nv : vs.length = ps.length) :
    codeAny (model P w) callerA (.call (.ref f) ⟨us, []⟩) (CR C8.CX0 [] P w H s Q E) s := by
  obtain ⟨oc, od, dV, kV, doc, pm, an, cd, ct, osl, rfl, look, cin⟩ := F.ex
  have inS : K.In s.heap := e0.mod.kin.keeps fun c u z => (e0.bs c u z).1
  have noL : s.heap.NoLimit := e0.mod.nolimit.keeps fun c u z => (e0.bs c u z).1
  refine codeAny_call_function R.depth (inS f _ look) rfl S.co S.gen rfl (PySem.W.codeRec_of inS cin) (bnd _ _ _ _ ?_)
  refine wpAny_newFunctionEnv_cells S.kind (fun y hy => ?_) fun env ee s1 st1 => ?_
  · obtain ⟨n, v⟩ := y
    cases S.par n (List.of_mem_zip hy).1 with
    | inl q => exact .inl q
    | inr q => exact .inr ⟨q, PySem.W.cellsFrom_some _ _ _ (.inl q)⟩
  subst ee
  obtain ⟨t, d, q⟩ := read cd (R.deeper _)
  refine ⟨noL.keeps st1.toInCall.keep, codeAny_func (wpAny_mono (d.nox.run [] s1 (start N vs) H _ (inv_start S R.hd e0 nv rv st1) q) ?_ fun _ _ z => z)⟩
  intro fl s2 z
  cases fl with
  | ret u => exact (let ⟨v, _, G, J, r, y⟩ := z; ⟨v, G, J.os, J.bare, J.base, J.hok, r, y⟩)
  | next => exact (let ⟨_, G, J, y⟩ := z; ⟨.non, G, J.os, J.bare, J.base, J.hok, rfl, y⟩)
  | brk => exact (let ⟨_, _, _, y⟩ := z; False.elim y)
  | cont => exact (let ⟨_, _, _, y⟩ := z; False.elim y)
/-- what is wanted of a law's def at the caller -/
def TopOk (P : Program) (w : World) (K : PySem.W.Frag) (mg : Str → Option Value) (base : Heap) (n : Nat) (f : Addr) : Prop :=
  ∀ (s : Shared) (H : Hp) (a : Addr) (ns : List Int), Env0 P w K mg base callerA [] s H → SqL K H a (ns.map V.int) → ns.length ≤ n →
    codeAny (model P w) callerA (.call (.ref f) ⟨[.ref a], []⟩) (CR C8.CX0 [] P w H s (fun v _ => v = .bl true) fun _ _ _ => False) s
theorem law_top {mb : Str → Option Value} {n : Nat} {f a : Addr} {s : Shared} {vs : List Value} {ns : List Int} (kin : K.In s.heap) (gn : s.heap.Ns mainGlobals mg) (bn : s.heap.Ns builtinsNs mb) (bb : ∀ y : Str, y ≠ "__name__" → mb y = bootBuiltins y)
    (lm : s.heap.NoLimit) (g0 : s.gens = #[]) (oa : s.heap.get? a = some { cls := .type "list", data := .seq vs.toArray }) (iv : IntsAre vs ns) (ln : ns.length ≤ n) (n2 : n ≤ sizeLine) (F : ∀ base : Heap, K.In base → base.Ns mainGlobals mg → TopOk P w K mg base n f) :
    codeAny (model P w) callerA (.call (.ref f) ⟨[.ref a], []⟩) (fun r s' => r = .ok (.ret (.bool true)) ∧ OldK s.heap s'.heap ∧ s'.os = s.os ∧ AllBare s'.gens) s := by
  have nope : ∀ {c : Addr}, c ∈ ([] : List Addr) → False := fun {c} z => by simp at z
  have rv := vals_ints iv
  have zl : ns.length ≤ sizeLine := Nat.le_trans ln n2
  have go : ∀ (H : Hp) (u : Option HO), (∀ c, H c = if c = a then u else none) → (u = none ∨ ∃ o xs, u = some (.frz o (.lst xs))) → SqL K H a (ns.map V.int) → HOk P w H s.heap → (u ≠ none → K.lookup a = none) →
      codeAny (model P w) callerA (.call (.ref f) ⟨[.ref a], []⟩) (fun r s' => r = .ok (.ret (.bool true)) ∧ OldK s.heap s'.heap ∧ s'.os = s.os ∧ AllBare s'.gens) s := by
    intro H u hH hu hS ok hk
    have only : ∀ c, H c ≠ none → c = a := fun c z => by
      rw [hH] at z
      by_cases e : c = a
      · exact e
      · rw [if_neg e] at z; exact absurd rfl z
    have un : u ≠ none → H a ≠ none := fun z => by rw [hH, if_pos rfl]; exact z
    have nd : ∀ {c : Addr} {o : Obj} {es : Array DictEntry} {ep : Nat}, s.heap.get? c = some o → o.data = .dict es ep → H c = none := fun {c o es ep} e d => by
      by_cases z : H c = none
      · exact z
      · have ec := only c z
        rw [ec, oa] at e
        cases e
        cases (show Data.seq vs.toArray _ = Data.dict es ep from d)
    have nsH : ∀ {c : Addr} {m : Str → Option Value}, s.heap.Ns c m → (hidT s.heap H).Ns c m := fun {c m} z => let ⟨o, es, ep, e, d, r⟩ := z; ⟨o, es, ep, hidT_get e (nd e d), d, r⟩
    have kinH : K.In (hidT s.heap H) := fun c o e => hidT_get (kin c o e) (by
      by_cases z : H c = none
      · exact z
      · have ec := only c z
        rw [ec] at e
        have nu : u ≠ none := fun q => by rw [hH, if_pos ec] at z; exact z q
        rw [hk nu] at e
        cases e)
    have md : L2.Mod K mg (hidT s.heap H) := ⟨kinH, nsH gn, ⟨mb, nsH bn, bb⟩, let ⟨mc, z1, z2⟩ := lm; ⟨mc, nsH z1, z2⟩⟩
    have e0 : Env0 P w K mg (hidT s.heap H) callerA [] s H := ⟨rfl, md, fun c o e => of_hidT e, Nat.le_of_eq (hidT_size _ _), trivial, fun c z => (nope z).elim, ok, .of_eq g0⟩
    refine codeAny_mono (F _ kinH (nsH gn) s H a ns e0 hS ln) fun r s2 z => ?_
    match r, z with
    | .error e, z => exact False.elim z
    | .ok .next, z => exact False.elim z
    | .ok .brk, z => exact False.elim z
    | .ok .cont, z => exact False.elim z
    | .ok (.ret v), z =>
      obtain ⟨x, G, os, bare, un2, ok2, rx, ex⟩ := z
      cases (show x = V.bl true from ex)
      cases (show v = Value.bool true from rx)
      refine ⟨rfl, OldK.of_keep fun c o e => ?_, os, bare⟩
      by_cases hc : H c = none
      · exact un2.keep c o e hc (fun q => nope q) (by simp)
      · have ec := only c hc
        rcases hu with q | ⟨o2, xs, q⟩
        · rw [hH, if_pos ec] at hc; exact absurd q hc
        · have y : H c = some (.frz o2 (.lst xs)) := by rw [hH, if_pos ec]; exact q
          have y2 := (ok2 c _ (un2.frzs c o2 _ y)).1
          have y1 := (ok c _ y).1
          rw [e] at y1
          cases y1
          exact y2
  cases look : K.lookup a with
  | none =>
    refine go (fun c => if c = a then some (.frz { cls := .type "list", data := .seq vs.toArray } (.lst (ns.map V.int))) else none) _ (fun _ => rfl) (.inr ⟨_, _, rfl⟩) (.inl (.inr ⟨_, if_pos rfl⟩)) (fun c u z => ?_) fun _ => look
    by_cases ec : c = a
    · cases (if_pos ec).symm.trans z
      rw [ec]
      exact ⟨oa, by rw [List.length_map]; exact zl, vs, _, rv, oa⟩
    · cases (if_neg ec).symm.trans z
  | some o =>
    have e := kin a o look
    rw [oa] at e
    cases e
    refine go (fun _ => none) none (fun c => by split <;> rfl) (.inl rfl) (.inr ⟨_, vs.toArray, _, look, rfl, rfl, rfl, by rw [List.size_toArray, iv.length]; exact zl, by simpa using rv⟩) (fun c u z => ?_) fun z => absurd rfl z
    cases (show (none : Option HO) = some u from z)
end
/-- the head's last goal, from a law's def at the caller -/
theorem walk_top {l : PySem.W.OpenLaw} {n : Nat} {q : Program} {loose : List Str} {XP : (Str → Option Value) → Heap → Prop} {YP : World → Heap → Prop} {d : DefRec} {K : Params → PySem.W.Frag} (hn : l.most = some n) (n2 : n ≤ sizeLine) (hdf : d.params.defaults = [])
    (hY : ∀ (w : World) (h : Heap), YP w h → (K w.params).In h)
    (F : ∀ (w : World) (mg : Str → Option Value) (f : Addr) (h : Heap), (K w.params).In h → h.Ns mainGlobals mg → mg d.name = some (.ref f) → ∀ base : Heap, (K w.params).In base → base.Ns mainGlobals mg → TopOk l.prog w (K w.params) mg base n f) :
    PySem.W.WalkO q loose XP YP l.row.toRowW d [] (fun f vs => PySem.call f vs) := by
  refine Att.attach_call hn hdf fun w s0 s1 mg mb f o pm cd doc a vs ns G Y ho hd hc hm oa iv ln g0 => ?_
  have kin := hY w _ Y
  exact law_top kin G.T.g G.T.b G.T.builtins G.T.nolimit g0 oa iv ln n2 (F w mg f _ kin G.T.g hm)
end BF
set_option Elab.async false
set_option linter.all false
set_option maxRecDepth 100000
set_option maxHeartbeats 4000000
/-! hires: dicts from texts to lists of texts, what is due -/
namespace BF
open PySem PySem.Spec PyProof.Rows L2
abbrev Rw := Str × List Str
/-- a dict's rows; their lists lie where N says -/
def RowsN (N : Addr → Prop) (H : Hp) (kvs : List (Key × V)) (rows : List Rw) : Prop :=
  Paired (fun (p : Key × V) (r : Rw) => p.1 = .inr r.1 ∧ ∃ l, p.2 = .ref l ∧ N l ∧ H l = some (.lst (r.2.map V.str))) kvs rows
theorem RowsN.ok {N : Addr → Prop} {H : Hp} {kvs : List (Key × V)} {rows : List Rw} (R : RowsN N H kvs rows) : RowsOk H kvs rows := Paired.mapP R fun _ _ z => ⟨z.1, let ⟨l, a, _, b⟩ := z.2; ⟨l, a, b⟩⟩
theorem RowsN.mv {N M : Addr → Prop} {H G : Hp} {kvs : List (Key × V)} {rows : List Rw} (R : RowsN N H kvs rows) (m : ∀ l xs, N l → H l = some (.lst xs) → M l ∧ G l = some (.lst xs)) : RowsN M G kvs rows :=
  Paired.mapP R fun _ _ z => ⟨z.1, let ⟨l, a, n, b⟩ := z.2; ⟨l, a, (m l _ n b).1, (m l _ n b).2⟩⟩
theorem RowsN.same {N : Addr → Prop} {H G : Hp} {kvs : List (Key × V)} {rows : List Rw} (R : RowsN N H kvs rows) (s : Same H G) : RowsN N G kvs rows := R.mv fun l xs n e => ⟨n, s l _ e⟩
theorem RowsN.keys {N : Addr → Prop} {H : Hp} {kvs : List (Key × V)} {rows : List Rw} (R : RowsN N H kvs rows) : kvs.map (·.1) = (rows.map (·.1)).map Sum.inr := by
  induction R with
  | nil => rfl
  | cons h _ ih => rw [List.map_cons, List.map_cons, List.map_cons, ih, h.1]
theorem RowsN.get {N : Addr → Prop} {H : Hp} {kvs : List (Key × V)} {rows : List Rw} (R : RowsN N H kvs rows) (n : Str) :
    match rows.lookup n with | some ws => ∃ l, valV kvs (.inr n) = some (.ref l) ∧ N l ∧ H l = some (.lst (ws.map V.str)) | none => valV kvs (.inr n) = none := by
  induction R with
  | nil => exact rfl
  | @cons p r kvs rows h _ ih =>
    obtain ⟨e1, l, e2, nl, hl⟩ := h
    obtain ⟨rn, rw_⟩ := r
    by_cases c : rn = n
    · rw [List.lookup_cons, show (n == rn) = true by simp [c]]
      refine ⟨l, ?_, nl, hl⟩
      unfold valV
      rw [List.find?_cons, show decide (p.1 = .inr n) = true by rw [e1, c]; simp]
      rw [Option.map_some, e2]
    · rw [List.lookup_cons, show (n == rn) = false by simp [Ne.symm c]]
      have e : valV (p :: kvs) (.inr n) = valV kvs (.inr n) := by
        unfold valV
        rw [List.find?_cons, show decide (p.1 = .inr n) = false by rw [e1]; simp [c]]
      rw [e]
      exact ih
/-- d[n] = ws -/
def putR (rows : List Rw) (n : Str) (ws : List Str) : List Rw := if n ∈ rows.map (·.1) then rows.map (fun r => if r.1 = n then (r.1, ws) else r) else rows ++ [(n, ws)]
theorem RowsN.any {N : Addr → Prop} {H : Hp} {kvs : List (Key × V)} {rows : List Rw} (R : RowsN N H kvs rows) (n : Str) : (kvs.any fun kv => decide (kv.1 = (.inr n : Key))) = decide (n ∈ rows.map (·.1)) := by
  induction R with
  | nil => simp
  | @cons p r kvs rows h _ ih =>
    rw [List.any_cons, ih, h.1]
    by_cases c : r.1 = n
    · simp [c]
    · simp [c, Ne.symm c]
theorem RowsN.put {N : Addr → Prop} {H : Hp} {kvs : List (Key × V)} {rows : List Rw} (R : RowsN N H kvs rows) {n : Str} {ws : List Str} {l : Addr} (nl : N l) (hl : H l = some (.lst (ws.map V.str))) : RowsN N H (putK kvs (.inr n) (.ref l)) (putR rows n ws) := by
  unfold putK putR
  rw [R.any]
  by_cases c : n ∈ rows.map (·.1)
  · rw [if_pos (decide_eq_true c), if_pos c]
    clear c
    induction R with
    | nil => exact .nil
    | @cons p r kvs rows h _ ih =>
      rw [List.map_cons, List.map_cons]
      refine .cons ?_ ih
      by_cases e : r.1 = n
      · rw [if_pos (by rw [h.1, e]), if_pos e]
        exact ⟨h.1, l, rfl, nl, hl⟩
      · rw [if_neg (by rw [h.1]; exact fun z => e (Sum.inr.inj z)), if_neg e]
        exact h
  · rw [if_neg (by simp [c]), if_neg c]
    exact Paired.snoc (b := ((n, ws) : Rw)) ⟨rfl, l, rfl, nl, hl⟩ R
def dropR (rows : List Rw) (n : Str) : List Rw := rows.filter fun r => decide (r.1 ≠ n)
theorem RowsN.drop {N : Addr → Prop} {H : Hp} {kvs : List (Key × V)} {rows : List Rw} (R : RowsN N H kvs rows) {n : Str} : RowsN N H (dropK kvs (.inr n)) (dropR rows n) := by
  unfold dropK dropR
  induction R with
  | nil => exact .nil
  | @cons p r kvs rows h _ ih =>
    rw [List.filter_cons, List.filter_cons]
    by_cases e : r.1 = n
    · rw [if_neg (by rw [h.1, e]; simp), if_neg (by simp [e])]
      exact ih
    · rw [if_pos (by rw [h.1]; simp [e]), if_pos (by simp [e])]
      exact .cons h ih
theorem put_keys (rows : List Rw) (n : Str) (ws : List Str) : (putR rows n ws).map (·.1) = if n ∈ rows.map (·.1) then rows.map (·.1) else rows.map (·.1) ++ [n] := by
  unfold putR
  by_cases c : n ∈ rows.map (·.1)
  · rw [if_pos c, if_pos c, List.map_map]
    refine List.map_congr_left fun r _ => ?_
    show (if r.1 = n then (r.1, ws) else r).1 = r.1
    split <;> rfl
  · rw [if_neg c, if_neg c, List.map_append]
    rfl
theorem put_nodup {rows : List Rw} (n : Str) (ws : List Str) (h : (rows.map (·.1)).Nodup) : ((putR rows n ws).map (·.1)).Nodup := by
  rw [put_keys]
  by_cases c : n ∈ rows.map (·.1)
  · rw [if_pos c]; exact h
  · rw [if_neg c]
    exact List.nodup_append.mpr ⟨h, by simp, fun a ha b hb e => c (by rw [List.mem_singleton.mp hb] at e; rw [← e]; exact ha)⟩
theorem put_length (rows : List Rw) (n : Str) (ws : List Str) : (putR rows n ws).length ≤ rows.length + 1 := by
  unfold putR
  split
  · rw [List.length_map]; omega
  · rw [List.length_append]; simp
theorem put_mem {rows : List Rw} {n : Str} {ws : List Str} {r : Rw} (h : r ∈ putR rows n ws) : r = (n, ws) ∨ r ∈ rows := by
  unfold putR at h
  by_cases c : n ∈ rows.map (·.1)
  · rw [if_pos c] at h
    obtain ⟨q, hq, e⟩ := List.mem_map.mp h
    by_cases z : q.1 = n
    · rw [if_pos z] at e
      exact .inl (by rw [← e, z])
    · rw [if_neg z] at e
      exact .inr (e ▸ hq)
  · rw [if_neg c] at h
    rcases List.mem_append.mp h with h | h
    · exact .inr h
    · exact .inl (List.mem_singleton.mp h)
theorem lookup_append {n m : Str} {ws : List Str} : ∀ {rows : List Rw}, (rows ++ [(n, ws)]).lookup m = match rows.lookup m with | some v => some v | none => if m = n then some ws else none
  | [] => by
    rw [List.nil_append, List.lookup_cons]
    by_cases c : m = n
    · simp [c]
    · rw [show (m == n) = false by simp [c]]
      simp [c]
  | r :: rows => by
    obtain ⟨a, b⟩ := r
    rw [List.cons_append, List.lookup_cons, List.lookup_cons]
    cases h : m == a with
    | true => rfl
    | false => exact lookup_append
theorem lookup_mem {n : Str} : ∀ {rows : List Rw}, (rows.lookup n).isSome = decide (n ∈ rows.map (·.1))
  | [] => by simp
  | (a, b) :: rows => by
    rw [List.lookup_cons]
    by_cases c : n = a
    · simp [c]
    · rw [show (n == a) = false by simp [c]]
      simp [c, lookup_mem (rows := rows)]
theorem lookup_none {n : Str} {rows : List Rw} : rows.lookup n = none ↔ n ∉ rows.map (·.1) := by
  have h := lookup_mem (n := n) (rows := rows)
  constructor
  · intro e
    rw [e] at h
    exact of_decide_eq_false h.symm
  · intro c
    rw [decide_eq_false c] at h
    cases e : rows.lookup n with
    | none => rfl
    | some v => rw [e] at h; cases h
theorem lookup_some {n : Str} {rows : List Rw} (h : n ∈ rows.map (·.1)) : ∃ ws, rows.lookup n = some ws := by
  cases e : rows.lookup n with
  | some v => exact ⟨v, rfl⟩
  | none => exact absurd h (lookup_none.mp e)
theorem mem_of_look {n : Str} {ws : List Str} : ∀ {rows : List Rw}, rows.lookup n = some ws → (n, ws) ∈ rows
  | [], h => nomatch h
  | (a, b) :: rows, h => by
    rw [List.lookup_cons] at h
    by_cases c : n = a
    · rw [show (n == a) = true by simp [c]] at h
      cases h
      rw [c]
      exact List.mem_cons_self ..
    · rw [show (n == a) = false by simp [c]] at h
      exact List.mem_cons_of_mem _ (mem_of_look h)
theorem look_of_mem {n : Str} {ws : List Str} : ∀ {rows : List Rw}, (rows.map (·.1)).Nodup → (n, ws) ∈ rows → rows.lookup n = some ws
  | [], _, h => nomatch h
  | (a, b) :: rows, nd, h => by
    rw [List.map_cons, List.nodup_cons] at nd
    rw [List.lookup_cons]
    rcases List.mem_cons.mp h with e | h
    · cases e
      simp
    · have : n ≠ a := fun e => nd.1 (by rw [← e]; exact List.mem_map.mpr ⟨_, h, rfl⟩)
      rw [show (n == a) = false by simp [this]]
      exact look_of_mem nd.2 h
theorem put_look {rows : List Rw} {n m : Str} {ws : List Str} : (putR rows n ws).lookup m = if m = n then some ws else rows.lookup m := by
  unfold putR
  by_cases c : n ∈ rows.map (·.1)
  · rw [if_pos c]
    induction rows with
    | nil => simp at c
    | cons r rows ih =>
      obtain ⟨a, b⟩ := r
      rw [List.map_cons]
      by_cases e : a = n
      · rw [if_pos e]
        show List.lookup m ((a, ws) :: _) = _
        rw [List.lookup_cons, List.lookup_cons]
        by_cases z : m = n
        · rw [if_pos z, show (m == a) = true by simp [z, e]]
        · rw [if_neg z, show (m == a) = false by simp [e, z]]
          by_cases c2 : n ∈ rows.map (·.1)
          · rw [ih c2, if_neg z]
          · have : rows.map (fun r => if r.1 = n then (r.1, ws) else r) = rows := by
              refine (List.map_congr_left fun r hr => ?_).trans (List.map_id _)
              show (if r.1 = n then (r.1, ws) else r) = r
              rw [if_neg fun e => c2 (List.mem_map.mpr ⟨r, hr, e⟩)]
            rw [this]
      · rw [if_neg e, List.lookup_cons, List.lookup_cons]
        have c2 : n ∈ rows.map (·.1) := by
          rcases List.mem_cons.mp (show n ∈ a :: rows.map (·.1) from c) with z | z
          · exact absurd z.symm e
          · exact z
        by_cases z : m = a
        · rw [show (m == a) = true by simp [z], if_neg (by rw [z]; exact e)]
        · rw [show (m == a) = false by simp [z]]
          exact ih c2
  · rw [if_neg c, lookup_append]
    by_cases z : m = n
    · rw [z, lookup_none.mpr c, if_pos rfl]
    · rw [if_neg z]
      cases rows.lookup m <;> simp [z]
/-! ### what is due -/
def badH (ps : List Str) (rows : List Rw) (n : Str) : Bool := !decide (n ∈ ps) || match rows.lookup n with | none => true | some ws => decide (24 < ws.length) || (fwF ws).isSome
def namesH (ps : List Str) (rows : List Rw) : List Str := sortS (ps ++ (rows.map (·.1)).filter fun k => !decide (k ∈ ps))
def joF (ps : List Str) (rows : List Rw) : Option Str := (namesH ps rows).find? (badH ps rows)
theorem same_perm {xs ys : List Str} (a : xs.Nodup) (b : ys.Nodup) (h : ∀ x, x ∈ xs ↔ x ∈ ys) : xs.Perm ys := by
  classical
  rw [List.perm_iff_count]
  intro x
  rw [a.count, b.count]
  by_cases c : x ∈ xs
  · rw [if_pos c, if_pos ((h x).mp c)]
  · rw [if_neg c, if_neg fun z => c ((h x).mpr z)]
theorem names_nodup {ps : List Str} {rows : List Rw} (a : ps.Nodup) (b : (rows.map (·.1)).Nodup) : (ps ++ (rows.map (·.1)).filter fun k => !decide (k ∈ ps)).Nodup := by
  refine List.nodup_append.mpr ⟨a, b.filter _, fun x hx y hy e => ?_⟩
  have := (List.mem_filter.mp hy).2
  rw [← e] at this
  simp [hx] at this
theorem mem_names {ps : List Str} {rows : List Rw} {x : Str} : x ∈ ps ++ (rows.map (·.1)).filter (fun k => !decide (k ∈ ps)) ↔ x ∈ ps ∨ x ∈ rows.map (·.1) := by
  rw [List.mem_append, List.mem_filter]
  by_cases c : x ∈ ps
  · simp [c]
  · simp [c]
theorem names_eq {ps us : List Str} {rows : List Rw} (a : ps.Nodup) (b : (rows.map (·.1)).Nodup) (u : us.Nodup) (h : ∀ x, x ∈ us ↔ x ∈ rows.map (·.1) ∨ x ∈ ps) : sortS us = namesH ps rows :=
  sortS_of_perm (same_perm u (names_nodup a b) fun x => (h x).trans (Or.comm.trans mem_names.symm))
theorem names_perm {ps qs : List Str} {rows : List Rw} (a : ps.Nodup) (b : (rows.map (·.1)).Nodup) (p : qs.Perm ps) : namesH qs rows = namesH ps rows := by
  refine names_eq a b (names_nodup (p.nodup_iff.mpr a) b) fun x => mem_names.trans ?_
  rw [p.mem_iff]
  exact Or.comm
theorem bad_perm {ps qs : List Str} {rows : List Rw} (p : qs.Perm ps) : badH qs rows = badH ps rows := by
  funext n
  unfold badH
  have : decide (n ∈ qs) = decide (n ∈ ps) := decide_eq_decide.mpr p.mem_iff
  rw [this]
theorem jo_perm {ps qs : List Str} {rows : List Rw} (a : ps.Nodup) (b : (rows.map (·.1)).Nodup) (p : qs.Perm ps) : joF qs rows = joF ps rows := by
  unfold joF
  rw [names_perm a b p, bad_perm p]
theorem jo_some {ps : List Str} {rows : List Rw} {i : Nat} {n : Str} (h : (namesH ps rows)[i]? = some n) (hb : badH ps rows n = true) (ok : ∀ j, j < i → ∀ m, (namesH ps rows)[j]? = some m → badH ps rows m = false) : joF ps rows = some n := by
  unfold joF
  obtain ⟨hi, e⟩ := List.getElem?_eq_some_iff.mp h
  refine List.find?_eq_some_iff_getElem.mpr ⟨hb, i, hi, e, fun j hj => ?_⟩
  rw [ok j hj _ (List.getElem?_eq_getElem (by omega))]
  rfl
theorem jo_none {ps : List Str} {rows : List Rw} (ok : ∀ m, m ∈ namesH ps rows → badH ps rows m = false) : joF ps rows = none := by
  unfold joF
  exact List.find?_eq_none.mpr fun m hm => by rw [ok m hm]; simp
theorem jo_none_of {ps : List Str} {rows : List Rw} (h : joF ps rows = none) : ∀ m, m ∈ namesH ps rows → badH ps rows m = false := by
  unfold joF at h
  intro m hm
  have := List.find?_eq_none.mp h m hm
  simpa using this
theorem mem_namesH {ps : List Str} {rows : List Rw} {x : Str} : x ∈ namesH ps rows ↔ x ∈ ps ∨ x ∈ rows.map (·.1) := (mem_sortS _ _).trans mem_names
/-- nothing is bad: the names are the people -/
theorem names_good {ps : List Str} {rows : List Rw} (a : ps.Nodup) (b : (rows.map (·.1)).Nodup) (h : joF ps rows = none) : namesH ps rows = sortS ps := by
  refine sortS_of_perm (same_perm (names_nodup a b) a fun x => mem_names.trans ⟨fun q => ?_, .inl⟩)
  have := jo_none_of h x (mem_namesH.mpr q)
  by_cases c : x ∈ ps
  · exact c
  · unfold badH at this
    simp [c] at this
def rowG (rows : List Rw) (n : Str) : List Str := (rows.lookup n).getD []
/-- the rows that are told: people and jobs sorted -/
def toldR (ps : List Str) (rows : List Rw) : List Rw := (sortS ps).map fun n => (n, sortS (rowG rows n))
end BF
set_option Elab.async false
set_option linter.all false
set_option maxRecDepth 100000
set_option maxHeartbeats 4000000
/-! hires as objects, and their == -/
namespace BF
open PySem PySem.Spec PyProof.Rows L2
theorem fw_nms {ps : List Str} (h : fwF ps = none) : ∀ p ∈ ps, isNm p = true := by
  intro p hp
  obtain ⟨i, hi, e⟩ := List.mem_iff_getElem.mp hp
  have := fw_ok h hi
  unfold okAt at this
  rw [List.getElem?_eq_getElem hi, e] at this
  simp only [Bool.and_eq_true] at this
  exact this.1
theorem fw_nd {ps : List Str} (h : fwF ps = none) : ps.Nodup := by
  rw [List.nodup_iff_pairwise_ne, List.pairwise_iff_getElem]
  intro i j hi hj hij e
  have := fw_ok h hj
  unfold okAt at this
  rw [List.getElem?_eq_getElem hj] at this
  simp only [Bool.and_eq_true, Bool.not_eq_true', decide_eq_false_iff_not] at this
  refine this.2 (List.mem_iff_getElem.mpr ⟨i, by rw [List.length_take]; omega, ?_⟩)
  rw [List.getElem_take]
  exact e
/-- all but x stands -/
def FrH (x : Addr) (H H' : Hp) : Prop := ∀ b o, b ≠ x → H b = some o → H' b = some o
theorem pj_ne : ¬ (("_people" : Str) = "_jobs") := by decide +kernel
def hfl (lp td : Addr) : List (Str × V) := putF "_jobs" (.ref td) (putF "_people" (.ref lp) [])
theorem hfl_people (lp td : Addr) : (hfl lp td).lookup ("_people" : Str) = some (.ref lp) := by
  unfold hfl
  rw [lookup_putF, if_neg pj_ne, lookup_putF, if_pos rfl]
theorem hfl_jobs (lp td : Addr) : (hfl lp td).lookup ("_jobs" : Str) = some (.ref td) := by
  unfold hfl
  rw [lookup_putF, if_pos rfl]
theorem hfl_no (lp td : Addr) {m : Str} (h1 : ¬ m = "_jobs") (h2 : ¬ m = "_people") : (hfl lp td).lookup m = none := by
  unfold hfl
  rw [lookup_putF, if_neg h1, lookup_putF, if_neg h2]
  rfl
/-- a hires at x; all of it stands at places of N -/
structure HireO (C : Addr) (N : Addr → Prop) (H : Hp) (x : Addr) (ps : List Str) (rows : List Rw) : Prop where
  ex : ∃ dx lp td kvs, N x ∧ N lp ∧ N td ∧ H x = some (.ins C dx (hfl lp td)) ∧ H lp = some (.lst (ps.map V.str)) ∧ H td = some (.dK kvs) ∧ RowsN N H kvs rows
theorem HireO.mv {C : Addr} {N M : Addr → Prop} {H G : Hp} {x : Addr} {ps : List Str} {rows : List Rw} (h : HireO C N H x ps rows) (k : ∀ a o, N a → H a = some o → M a ∧ G a = some o) : HireO C M G x ps rows := by
  obtain ⟨dx, lp, td, kvs, a1, a2, a3, e1, e2, e3, r⟩ := h
  exact ⟨dx, lp, td, kvs, (k _ _ a1 e1).1, (k _ _ a2 e2).1, (k _ _ a3 e3).1, (k _ _ a1 e1).2, (k _ _ a2 e2).2, (k _ _ a3 e3).2, r.mv fun l xs n e => k l _ n e⟩
theorem HireO.same {C : Addr} {N : Addr → Prop} {H G : Hp} {x : Addr} {ps : List Str} {rows : List Rw} (h : HireO C N H x ps rows) (s : Same H G) : HireO C N G x ps rows := h.mv fun a o n e => ⟨n, s _ _ e⟩
def rowP (r : Rw) : Key × PyData := (.inr r.1, .list (r.2.map PyData.str))
/-- texts that may be compared -/
def TxtR (rows : List Rw) : Prop := ∀ r ∈ rows, ∀ x ∈ r.2, PyData.strOk x = true
theorem dkh_of {K : PySem.W.Frag} {N : Addr → Prop} {H : Hp} {td : Addr} {kvs : List (Key × V)} {rows : List Rw} (e : H td = some (.dK kvs)) (R : RowsN N H kvs rows) (t : TxtR rows) : DkD K H (.ref td) (rows.map rowP) := by
  refine ⟨td, kvs, rfl, e, ?_⟩
  clear e
  induction R with
  | nil => exact .nil
  | @cons p r kvs rows h _ ih =>
    obtain ⟨e1, l, e2, _, hl⟩ := h
    rw [List.map_cons]
    refine .cons ⟨e1, by rw [e2]; exact dp_strs hl, shaped_strs (t r (List.mem_cons_self ..))⟩ (ih fun q hq => t q (List.mem_cons_of_mem _ hq))
theorem find_rw {n : Str} : ∀ rows : List Rw, (rows.map rowP).find? (fun q => decide (q.1 = (.inr n : Key))) = (rows.lookup n).map fun ws => rowP (n, ws)
  | [] => rfl
  | (a, b) :: rows => by
    rw [List.map_cons, List.find?_cons, List.lookup_cons]
    by_cases c : a = n
    · rw [show decide ((rowP (a, b)).1 = (.inr n : Key)) = true by simp [rowP, c], show (n == a) = true by simp [c]]
      rw [c]
      rfl
    · rw [show decide ((rowP (a, b)).1 = (.inr n : Key)) = false by simp [rowP, c], show (n == a) = false by simp [Ne.symm c]]
      exact find_rw rows
theorem eqH_self {rows : List Rw} (nd : (rows.map (·.1)).Nodup) : eqKD (rows.map rowP) (rows.map rowP) = true := by
  unfold eqKD
  rw [Bool.and_eq_true]
  refine ⟨by simp, List.all_eq_true.mpr fun q hq => ?_⟩
  obtain ⟨r, hr, rfl⟩ := List.mem_map.mp hq
  have e : (rows.map rowP).find? (fun q => decide (q.1 = (rowP r).1)) = some (rowP r) := by
    show (rows.map rowP).find? (fun q => decide (q.1 = (.inr r.1 : Key))) = _
    rw [find_rw, look_of_mem nd (show (r.1, r.2) ∈ rows from hr)]
    rfl
  rw [e]
  show PyData.eqv (.list (r.2.map PyData.str)) (.list (r.2.map PyData.str)) = true
  rw [eqv_strs]
  simp
theorem eqH_diff {rows us : List Rw} {n : Str} {xs : List Str} (h1 : (n, xs) ∈ rows) (h2 : us.lookup n ≠ some xs) : eqKD (rows.map rowP) (us.map rowP) = false := by
  cases e : eqKD (rows.map rowP) (us.map rowP) with
  | false => rfl
  | true =>
    unfold eqKD at e
    rw [Bool.and_eq_true] at e
    have := List.all_eq_true.mp e.2 (rowP (n, xs)) (List.mem_map.mpr ⟨_, h1, rfl⟩)
    have z : (us.map rowP).find? (fun q => decide (q.1 = (rowP (n, xs)).1)) = (us.lookup n).map fun ws => rowP (n, ws) := find_rw us
    rw [z] at this
    cases f : us.lookup n with
    | none => rw [f] at this; cases this
    | some ys =>
      rw [f] at this
      have q : PyData.eqv (.list (xs.map PyData.str)) (.list (ys.map PyData.str)) = true := this
      rw [eqv_strs] at q
      exact absurd (by rw [f, of_decide_eq_true q]) h2
theorem told_keys (ps : List Str) (rows : List Rw) : (toldR ps rows).map (·.1) = sortS ps := by
  unfold toldR
  rw [List.map_map]
  exact List.map_id _
theorem sortS_idem (ps : List Str) : sortS (sortS ps) = sortS ps := sortS_of_perm (sortS_perm ps)
theorem told_sorted (ps : List Str) (rows : List Rw) : toldR (sortS ps) rows = toldR ps rows := by
  unfold toldR
  rw [sortS_idem]
theorem told_look {ps : List Str} {rows : List Rw} {n : Str} (h : n ∈ ps) : (toldR ps rows).lookup n = some (sortS (rowG rows n)) := by
  have m : n ∈ sortS ps := (mem_sortS _ _).mpr h
  unfold toldR
  generalize sortS ps = ks at m
  induction ks with
  | nil => cases m
  | cons k ks ih =>
    rw [List.map_cons, List.lookup_cons]
    by_cases c : n = k
    · rw [show (n == k) = true by simp [c], c]
    · rw [show (n == k) = false by simp [c]]
      rcases List.mem_cons.mp m with e | m
      · exact absurd e c
      · exact ih m
end BF
set_option Elab.async false
set_option linter.all false
set_option maxRecDepth 100000
set_option maxHeartbeats 4000000
/-! spoiled people and lists: how much there may be, and what stands through a turn -/
namespace BF
open PySem PySem.Spec PyProof.Rows L2
/-- a word of no great length, of common signs -/
def Wd (x : Str) : Prop := x.length ≤ 9 ∧ ∀ c ∈ x.cps.toList, c < 1000
theorem Wd.small {x : Str} (h : Wd x) : Small x := ⟨h.1, fun c hc => by have := h.2 c hc; omega⟩
theorem Wd.ok {x : Str} (h : Wd x) : PyData.strOk x = true := by
  unfold PyData.strOk
  rw [Array.all_eq_true']
  intro c hc
  have := h.2 c (Array.mem_toList_iff.mpr hc)
  simp only [decide_eq_true_eq]
  omega
theorem wd_nm {x : Str} (h : isNm x = true) : Wd x := by
  unfold isNm at h
  simp only [Bool.and_eq_true, decide_eq_true_eq, List.all_eq_true] at h
  refine ⟨by omega, fun c hc => ?_⟩
  have := h.2 c hc
  unfold isLow at this
  simp only [Bool.and_eq_true, decide_eq_true_eq] at this
  omega
theorem wd_by {x : Str} (h1 : x.length ≤ 9) (h2 : x.cps.toList.all (fun c => decide (c < 1000)) = true) : Wd x := ⟨h1, fun c hc => of_decide_eq_true (List.all_eq_true.mp h2 c hc)⟩
/-- after k spoils -/
structure Sz (k : Nat) (ps : List Str) (rows : List Rw) : Prop where
  lp : ps.length ≤ 24 + 26 * k
  sp : ∀ x ∈ ps, Wd x
  nk : (rows.map (·.1)).Nodup
  lr : rows.length ≤ 24 + k
  sr : ∀ r ∈ rows, Wd r.1 ∧ r.2.length ≤ 24 + 26 * k ∧ ∀ x ∈ r.2, Wd x
theorem Sz.mono {k : Nat} {ps : List Str} {rows : List Rw} (z : Sz k ps rows) : Sz (k + 1) ps rows :=
  ⟨by have := z.lp; omega, z.sp, z.nk, by have := z.lr; omega, fun r hr => ⟨(z.sr r hr).1, by have := (z.sr r hr).2.1; omega, (z.sr r hr).2.2⟩⟩
theorem Sz.both {k : Nat} {ps : List Str} {rows : List Rw} (z : Sz k ps rows) (h : k ≤ 2) : SmallBoth ps rows :=
  ⟨⟨by have := z.lp; omega, fun x hx => (z.sp x hx).small⟩, ⟨by have := z.lr; omega, fun r hr => ⟨(z.sr r hr).1.small, by have := (z.sr r hr).2.1; omega, fun x hx => ((z.sr r hr).2.2 x hx).small⟩⟩⟩
theorem Sz.ps {k : Nat} {ps qs : List Str} {rows : List Rw} (z : Sz k ps rows) (l : qs.length ≤ 24 + 26 * (k + 1)) (s : ∀ x ∈ qs, Wd x) : Sz (k + 1) qs rows :=
  let m := z.mono
  ⟨l, s, m.nk, m.lr, m.sr⟩
theorem Sz.put {k : Nat} {ps ws : List Str} {rows : List Rw} {n : Str} (z : Sz k ps rows) (sn : Wd n) (l : ws.length ≤ 24 + 26 * (k + 1)) (s : ∀ x ∈ ws, Wd x) : Sz (k + 1) ps (putR rows n ws) :=
  let m := z.mono
  ⟨m.lp, m.sp, put_nodup n ws m.nk, Nat.le_trans (put_length rows n ws) (by have := z.lr; omega), fun r hr => by
    rcases put_mem hr with e | h
    · rw [e]
      exact ⟨sn, l, s⟩
    · exact m.sr r h⟩
theorem Sz.drop {k : Nat} {ps : List Str} {rows : List Rw} {n : Str} (z : Sz k ps rows) : Sz (k + 1) ps (dropR rows n) :=
  let m := z.mono
  have sub : (dropR rows n).Sublist rows := List.filter_sublist
  ⟨m.lp, m.sp, (sub.map (·.1)).nodup m.nk, Nat.le_trans sub.length_le m.lr, fun r hr => m.sr r (sub.subset hr)⟩
/-- the script, the pool, the people and the lists, as they lie -/
structure St (K : PySem.W.Frag) (H : Hp) (s p a d : Addr) (ns : List Int) (ps : List Str) (rows : List Rw) (k : Nat) : Prop where
  hs : Scr K H s p ns
  hw : PoolAt H p
  ha : H a = some (.lst (ps.map V.str))
  ex : ∃ kvs, H d = some (.dK kvs) ∧ RowsN (fun l => l ≠ p) H kvs rows
  sz : Sz k ps rows
section
variable {K : PySem.W.Frag} {H H' : Hp} {s p a d : Addr} {ns : List Int} {ps : List Str} {rows : List Rw} {k : Nat}
theorem St.mono (h : St K H s p a d ns ps rows k) : St K H s p a d ns ps rows (k + 1) := ⟨h.hs, h.hw, h.ha, h.ex, h.sz.mono⟩
theorem St.aw (h : St K H s p a d ns ps rows k) : a ≠ p := h.hw.neo h.ha (isP_strs _)
theorem St.dw (h : St K H s p a d ns ps rows k) : d ≠ p := let ⟨_, e, _⟩ := h.ex; h.hw.neo e rfl
theorem St.kp (h : St K H s p a d ns ps rows k) (q : KpP p H H') : St K H' s p a d ns ps rows k :=
  ⟨h.hs.kp q, q.pool h.hw, q.keep _ _ h.aw h.ha, let ⟨kvs, e, R⟩ := h.ex; ⟨kvs, q.keep _ _ h.dw e, R.mv fun l xs n z => ⟨n, q.keep _ _ n z⟩⟩, h.sz⟩
theorem St.same (h : St K H s p a d ns ps rows k) (q : Same H H') : St K H' s p a d ns ps rows k := h.kp (KpP.same q)
theorem St.lay {q : Addr} {o : HO} (h : St K H s p a d ns ps rows k) (f : H q = none) : St K (upd H q o) s p a d ns ps rows k := h.same (Same.new f)
theorem St.folk {q : Addr} {qs : List Str} (h : St K H s p a d ns ps rows k) (e : H q = some (.lst (qs.map V.str))) (z : Sz (k + 1) qs rows) : St K H s p q d ns qs rows (k + 1) := ⟨h.hs, h.hw, e, h.ex, z⟩
theorem St.dset {kvs : List (Key × V)} {us : List Rw} (h : St K H s p a d ns ps rows k) (R : RowsN (fun l => l ≠ p) H kvs us) (z : Sz (k + 1) ps us) : St K (upd H d (.dK kvs)) s p a d ns ps us (k + 1) := by
  obtain ⟨kv0, e, _⟩ := h.ex
  have mv : ∀ b xs, H b = some (.lst xs) → upd H d (.dK kvs) b = some (.lst xs) := fun b xs g => by
    rw [upd_ne fun c => by rw [c, e] at g; cases g]
    exact g
  have mf : ∀ b o xs, H b = some (.frz o (.lst xs)) → upd H d (.dK kvs) b = some (.frz o (.lst xs)) := fun b o xs g => by
    rw [upd_ne fun c => by rw [c, e] at g; cases g]
    exact g
  obtain ⟨i, b, c, sd, z2⟩ := h.hw
  exact ⟨h.hs.elim (fun x => .inl ⟨x.1.elim (fun g => .inl (mv _ _ g)) fun ⟨o, g⟩ => .inr ⟨o, mf _ _ _ g⟩, x.2⟩) .inr, ⟨i, b, c, sd, mv _ _ z2⟩, mv _ _ h.ha, ⟨kvs, upd_same, R.mv fun l xs n g => ⟨n, mv _ _ g⟩⟩, z⟩
/-- d[n] = the list at l -/
theorem St.dput {kvs : List (Key × V)} {n : Str} {l : Addr} {ws : List Str} (h : St K H s p a d ns ps rows k) (R : RowsN (fun l => l ≠ p) H kvs rows) (lw : l ≠ p) (hl : H l = some (.lst (ws.map V.str))) (sn : Wd n) (lz : ws.length ≤ 24 + 26 * (k + 1)) (sw : ∀ x ∈ ws, Wd x) :
    St K (upd H d (.dK (putK kvs (.inr n) (.ref l)))) s p a d ns ps (putR rows n ws) (k + 1) := h.dset (R.put lw hl) (h.sz.put sn lz sw)
theorem St.ddrop {kvs : List (Key × V)} {n : Str} (h : St K H s p a d ns ps rows k) (R : RowsN (fun l => l ≠ p) H kvs rows) : St K (upd H d (.dK (dropK kvs (.inr n)))) s p a d ns ps (dropR rows n) (k + 1) := h.dset R.drop h.sz.drop
end
theorem cut_frm (xs : List V) (k : Nat) : cutV xs (some (k : Int)) none = xs.drop k := by
  unfold cutV
  rw [HT.sIx_none, HT.sIx_nat]
  by_cases h : k ≤ xs.length
  · rw [Nat.min_eq_left h, List.take_of_length_le (by rw [List.length_drop]; omega)]
  · rw [Nat.min_eq_right (by omega), List.drop_eq_nil_of_le (Nat.le_refl _), List.drop_eq_nil_of_le (by omega), List.take_nil]
theorem wd_at {xs : List Str} (h : xs.all (fun x => decide (x.length ≤ 9) && x.cps.toList.all fun c => decide (c < 1000)) = true) : ∀ x ∈ xs, Wd x := fun x hx => by
  have := List.all_eq_true.mp h x hx
  rw [Bool.and_eq_true] at this
  exact wd_by (of_decide_eq_true this.1) this.2
theorem at_strs {xs : List Str} {n : Int} (h0 : 0 ≤ n) (h : n < xs.length) : ∃ x, x ∈ xs ∧ atI (xs.map V.str) n = some (V.str x) := by
  obtain ⟨m, rfl⟩ : ∃ m : Nat, n = m := ⟨n.toNat, by omega⟩
  have hm : m < xs.length := by omega
  exact ⟨xs[m], List.getElem_mem hm, atI_nat (by rw [List.getElem?_map, List.getElem?_eq_getElem hm]; rfl)⟩
def odds : List Str := ["", "A", "abcdefghi", "a b", "a1", "ab\n"]
theorem odds_wd : ∀ x ∈ odds, Wd x := wd_at (by decide +kernel)
/-- letters with a tail: `letter + tail` -/
def tailed (t : Str) (cs : List Nat) : List Str := cs.map fun c => (⟨#[c]⟩ : Str) ++ t
theorem one_app (c : Nat) (t : Str) : (⟨#[c]⟩ : Str) ++ t = SX.S (c :: t.cps.toList) := by
  refine str_ext ?_
  show (#[c] ++ t.cps).toList = c :: t.cps.toList
  simp
theorem one_nm {c : Nat} {t : Str} (h : isLow c = true) (ht : t.length ≤ 7) (hl : t.cps.toList.all isLow = true) : isNm ((⟨#[c]⟩ : Str) ++ t) = true := by
  have lt : t.cps.toList.length ≤ 7 := by
    rw [Array.length_toList]
    exact ht
  rw [one_app]
  have e : (SX.S (c :: t.cps.toList)).cps.toList = c :: t.cps.toList := rfl
  unfold isNm
  rw [SX.S_len, e]
  simp only [Bool.and_eq_true, decide_eq_true_eq, List.all_cons, List.length_cons]
  exact ⟨⟨by omega, by omega⟩, h, hl⟩
theorem one_inj {b c : Nat} {t : Str} (h : (⟨#[b]⟩ : Str) ++ t = (⟨#[c]⟩ : Str) ++ t) : b = c := by
  rw [one_app, one_app] at h
  have e := congrArg (fun x : Str => x.cps.toList) h
  exact (List.cons.inj (show b :: t.cps.toList = c :: t.cps.toList from e)).1
theorem tailed_nm {t : Str} {cs : List Nat} (h : ∀ c ∈ cs, isLow c = true) (ht : t.length ≤ 7) (hl : t.cps.toList.all isLow = true) : ∀ x ∈ tailed t cs, isNm x = true := fun x hx => by
  obtain ⟨c, hc, rfl⟩ := List.mem_map.mp hx
  exact one_nm (h c hc) ht hl
theorem tailed_nd {t : Str} {cs : List Nat} (h : cs.Nodup) : (tailed t cs).Nodup := by
  unfold tailed
  rw [List.nodup_iff_pairwise_ne, List.pairwise_map]
  exact (List.nodup_iff_pairwise_ne.mp h).imp fun n e => n (one_inj e)
theorem lets24 : (Str.ofString "abcdefghijklmnopqrstuvwx").cps.toList = List.range' 97 24 := by decide +kernel
end BF
set_option Elab.async false
set_option linter.all false
set_option maxRecDepth 100000
set_option maxHeartbeats 4000000
/-! people with their lists, all good: the hires are made -/
namespace BF
open PySem PySem.Spec PyProof.Rows L2
theorem fw_none_of {ps : List Str} (nd : ps.Nodup) (nm : ∀ x ∈ ps, isNm x = true) : fwF ps = none := fw_none fun k hk => by
  unfold okAt
  rw [List.getElem?_eq_getElem hk]
  simp only [Bool.and_eq_true, Bool.not_eq_true', decide_eq_false_iff_not]
  refine ⟨nm _ (List.getElem_mem hk), fun h => ?_⟩
  obtain ⟨i, hi, e⟩ := List.mem_iff_getElem.mp h
  rw [List.length_take] at hi
  rw [List.getElem_take] at e
  have := (List.getElem_inj nd).mp e
  omega
/-- the keys may stand in any order -/
structure Good (ps : List Str) (rows : List Rw) : Prop where
  len : ps.length ≤ 24
  nd : ps.Nodup
  nm : ∀ x ∈ ps, isNm x = true
  keys : (rows.map (·.1)).Perm ps
  row : ∀ r ∈ rows, r.2.length ≤ 24 ∧ r.2.Nodup ∧ ∀ x ∈ r.2, isNm x = true
section
variable {ps qs : List Str} {rows us : List Rw}
theorem Good.nk (g : Good ps rows) : (rows.map (·.1)).Nodup := g.keys.nodup_iff.mpr g.nd
theorem Good.lr (g : Good ps rows) : rows.length ≤ 24 := by
  have := g.keys.length_eq
  rw [List.length_map] at this
  have := g.len
  omega
theorem Good.look (g : Good ps rows) {x : Str} (h : x ∈ ps) : ∃ ws, rows.lookup x = some ws ∧ rowG rows x = ws ∧ ws.length ≤ 24 ∧ ws.Nodup ∧ ∀ y ∈ ws, isNm y = true := by
  obtain ⟨ws, e⟩ := lookup_some (g.keys.mem_iff.mpr h)
  have r := g.row _ (mem_of_look e)
  exact ⟨ws, e, by unfold rowG; rw [e]; rfl, r.1, r.2.1, r.2.2⟩
theorem Good.jo (g : Good ps rows) : joF ps rows = none := jo_none fun m hm => by
  have hm' : m ∈ ps := by
    rcases mem_namesH.mp hm with h | h
    · exact h
    · exact g.keys.mem_iff.mp h
  obtain ⟨ws, e, _, l, n1, n2⟩ := g.look hm'
  unfold badH
  rw [e]
  dsimp only
  rw [fw_none_of n1 n2, decide_eq_true hm']
  simp only [Bool.not_true, Bool.false_or, Option.isSome_none, Bool.or_false, decide_eq_false_iff_not]
  omega
theorem Good.fw (g : Good ps rows) : fwF ps = none := fw_none_of g.nd g.nm
theorem Good.sz (g : Good ps rows) : Sz 0 ps rows :=
  ⟨by have := g.len; omega, fun x hx => wd_nm (g.nm x hx), g.nk, by have := g.lr; omega, fun r hr =>
    have h := g.row r hr
    ⟨wd_nm (g.nm _ (g.keys.mem_iff.mp (List.mem_map.mpr ⟨r, hr, rfl⟩))), by omega, fun x hx => wd_nm (h.2.2 x hx)⟩⟩
theorem Good.put (g : Good ps rows) {n : Str} {ws : List Str} (hn : n ∈ ps) (l : ws.length ≤ 24) (nd : ws.Nodup) (nm : ∀ x ∈ ws, isNm x = true) : Good ps (putR rows n ws) :=
  ⟨g.len, g.nd, g.nm, by rw [put_keys, if_pos (g.keys.mem_iff.mpr hn)]; exact g.keys, fun r hr => by
    rcases put_mem hr with e | h
    · rw [e]
      exact ⟨l, nd, nm⟩
    · exact g.row r h⟩
theorem Good.txt (g : Good ps rows) : TxtR (toldR ps rows) := fun r hr x hx => by
  obtain ⟨n, hn, rfl⟩ := List.mem_map.mp hr
  obtain ⟨ws, _, e, _, _, nm⟩ := g.look ((mem_sortS _ _).mp hn)
  have hx' : x ∈ rowG rows n := (mem_sortS _ _).mp hx
  rw [e] at hx'
  exact (wd_nm (nm x hx')).ok
theorem Good.sok (g : Good ps rows) : ∀ x ∈ sortS ps, PyData.strOk x = true := fun x hx => (wd_nm (g.nm x ((mem_sortS _ _).mp hx))).ok
theorem fresh_take {ks : List Str} {i : Nat} {n : Str} (nd : ks.Nodup) (h : ks[i]? = some n) : n ∉ ks.take i := fun m => by
  obtain ⟨j, hj, e⟩ := List.mem_iff_getElem.mp m
  rw [List.length_take] at hj
  rw [List.getElem_take] at e
  obtain ⟨hi, e2⟩ := List.getElem?_eq_some_iff.mp h
  have := (List.getElem_inj nd).mp (e.trans e2.symm)
  omega
/-- rows made from names -/
def mkR (f : Str → List Str) (ks : List Str) : List Rw := ks.map fun n => (n, f n)
theorem mkR_keys (f : Str → List Str) (ks : List Str) : (mkR f ks).map (·.1) = ks := by
  unfold mkR
  rw [List.map_map]
  exact List.map_id' ks
theorem mkR_put {f : Str → List Str} {ks : List Str} {i : Nat} {x : Str} (nd : ks.Nodup) (h : ks[i]? = some x) : putR (mkR f (ks.take i)) x (f x) = mkR f (ks.take (i + 1)) := by
  unfold putR
  rw [mkR_keys, if_neg (fresh_take nd h), List.take_succ, h]
  unfold mkR
  rw [List.map_append]
  rfl
theorem mkR_look {f : Str → List Str} {n : Str} : ∀ {ks : List Str}, n ∈ ks → (mkR f ks).lookup n = some (f n)
  | k :: ks, h => by
    unfold mkR
    rw [List.map_cons, List.lookup_cons]
    by_cases e : n = k
    · rw [e, show (k == k) = true by simp]
    · rw [show (n == k) = false by simp [e]]
      exact mkR_look (f := f) ((List.mem_cons.mp h).resolve_left e)
theorem mkR_row {f : Str → List Str} {n : Str} {ks : List Str} (h : n ∈ ks) : rowG (mkR f ks) n = f n := by
  unfold rowG
  rw [mkR_look h]
  rfl
theorem Good.mk' (g : Good ps rows) {f : Str → List Str} {ks : List Str} (p : qs.Perm ps) (k : ks.Perm ps) (h : ∀ n ∈ ps, (f n).Perm (rowG rows n)) : Good qs (mkR f ks) :=
  ⟨by rw [p.length_eq]; exact g.len, p.nodup_iff.mpr g.nd, fun x hx => g.nm x (p.mem_iff.mp hx), by rw [mkR_keys]; exact k.trans p.symm, fun r hr => by
    obtain ⟨n, hn, rfl⟩ := List.mem_map.mp hr
    have hn' := k.mem_iff.mp hn
    obtain ⟨ws, _, e, l, nd, nm⟩ := g.look hn'
    have q := h n hn'
    rw [e] at q
    exact ⟨by show (f n).length ≤ 24; rw [q.length_eq]; exact l, q.nodup_iff.mpr nd, fun x hx => nm x (q.mem_iff.mp hx)⟩⟩
theorem told_eq (p : qs.Perm ps) (h : ∀ n ∈ ps, (rowG us n).Perm (rowG rows n)) : toldR qs us = toldR ps rows := by
  unfold toldR
  rw [sortS_of_perm p]
  refine List.map_congr_left fun n hn => ?_
  rw [sortS_of_perm (h n ((mem_sortS _ _).mp hn))]
theorem Good.told_mk (g : Good ps rows) {f : Str → List Str} {ks : List Str} (p : qs.Perm ps) (k : ks.Perm ps) (h : ∀ n ∈ ps, (f n).Perm (rowG rows n)) : toldR qs (mkR f ks) = toldR ps rows :=
  told_eq p fun n hn => by rw [mkR_row (k.mem_iff.mpr hn)]; exact h n hn
theorem Good.told_nk (g : Good ps rows) : ((toldR ps rows).map (·.1)).Nodup := by
  rw [told_keys]
  exact nodup_sortS g.nd
theorem rowG_put {n : Str} {ws : List Str} : rowG (putR rows n ws) n = ws := by
  unfold rowG
  rw [put_look, if_pos rfl]
  rfl
/-- a longer list for one of the people: no more the same -/
theorem told_diff {x : Str} {ws : List Str} (h : x ∈ ps) (l : ws.length ≠ (rowG rows x).length) : eqKD ((toldR ps rows).map rowP) ((toldR ps (putR us x ws)).map rowP) = false := by
  refine eqH_diff (n := x) (xs := sortS (rowG rows x)) (mem_of_look (told_look h)) ?_
  rw [told_look h, rowG_put]
  intro e
  have := congrArg List.length (Option.some.inj e)
  rw [sortS_length, sortS_length] at this
  exact l this
end
theorem at_last {ps : List Str} (h : ps ≠ []) : ∃ x, x ∈ ps ∧ atI (ps.map V.str) (-1) = some (V.str x) := by
  have l : 1 ≤ ps.length := List.length_pos_iff.mpr h
  refine ⟨ps.getLast h, List.getLast_mem h, ?_⟩
  have e : ixN ps.length (-1) = some (ps.length - 1) := by
    unfold ixN
    rw [if_neg (by omega), if_pos (by omega)]
    congr 1
    omega
  unfold atI
  rw [List.length_map, e]
  show (ps.map V.str)[ps.length - 1]? = _
  rw [List.getElem?_map, List.getLast_eq_getElem, List.getElem?_eq_getElem (by omega)]
  rfl
theorem lets26 : (Str.ofString "abcdefghijklmnopqrstuvwxyz").cps.toList = List.range' 97 26 := by decide +kernel
theorem low_range {n : Nat} (h : n ≤ 26) : ∀ c ∈ List.range' 97 n, isLow c = true := fun c hc => by
  rw [List.mem_range'_1] at hc
  unfold isLow
  simp only [Bool.and_eq_true, decide_eq_true_eq]
  omega
theorem tailed_snoc {t : Str} {cs : List Nat} {i c : Nat} (h : cs[i]? = some c) : (tailed t (cs.take (i + 1))).map V.str = (tailed t (cs.take i)).map V.str ++ [V.str ((⟨#[c]⟩ : Str) ++ t)] := by
  unfold tailed
  rw [List.take_succ, h, List.map_append, List.map_append]
  rfl
end BF
namespace BF
open PySem PySem.Spec PyProof.Rows L2
theorem toL {z : Str} {i c : Nat} (h : z.cps[i]? = some c) : z.cps.toList[i]? = some c := by simpa using h
theorem tailed_len (t : Str) (cs : List Nat) : (tailed t cs).length = cs.length := List.length_map ..
end BF
set_option Elab.async false
set_option linter.all false
set_option maxRecDepth 100000
set_option maxHeartbeats 4000000
namespace BF25
open BF
open PySem PySem.Spec PyProof.Rows L2
open C8 (Cal CalAt Met Mak cal0 met0 mak0 fn0 pe_c pe_mk pe_mt pe_mt0 pe_gc fnScope fnBody fnArgs fnScope_by)
open SX
def topS (i : Nat) : Stmt := PySem.Challenge.pw_bothfree_k25_hires_made_and_refused.main.body.getD i (.Pass ⟨0, 0, 0, 0⟩)
abbrev s_BadThings__init : Stmt := inClass (topS 2) 0
abbrev N_BadThings__init : List Str := ["self", "index"]
theorem sc_BadThings__init : FnScope N_BadThings__init ["self", "index"] (fnScope s_BadThings__init) := fnScope_by (by decide +kernel)
abbrev s_NoThing__init : Stmt := inClass (topS 3) 0
abbrev N_NoThing__init : List Str := ["self", "thing"]
theorem sc_NoThing__init : FnScope N_NoThing__init ["self", "thing"] (fnScope s_NoThing__init) := fnScope_by (by decide +kernel)
abbrev s_BadJobs__init : Stmt := inClass (topS 4) 0
abbrev N_BadJobs__init : List Str := ["self", "person"]
theorem sc_BadJobs__init : FnScope N_BadJobs__init ["self", "person"] (fnScope s_BadJobs__init) := fnScope_by (by decide +kernel)
abbrev s_is_name : Stmt := topS 7
abbrev N_is_name : List Str := ["value", "letter"]
theorem sc_is_name : FnScope N_is_name ["value"] (fnScope s_is_name) := fnScope_by (by decide +kernel)
abbrev s_first_wrong : Stmt := topS 8
abbrev N_first_wrong : List Str := ["entries", "fits", "seen", "at", "entry"]
theorem sc_first_wrong : FnScope N_first_wrong ["entries", "fits"] (fnScope s_first_wrong) := fnScope_by (by decide +kernel)
abbrev s_sorted_things : Stmt := topS 9
abbrev N_sorted_things : List Str := ["things", "most", "wrong"]
theorem sc_sorted_things : FnScope N_sorted_things ["things", "most"] (fnScope s_sorted_things) := fnScope_by (by decide +kernel)
abbrev s_Hires__init : Stmt := inClass (topS 13) 0
abbrev N_Hires__init : List Str := ["self", "people", "jobs"]
theorem sc_Hires__init : FnScope N_Hires__init ["self", "people", "jobs"] (fnScope s_Hires__init) := fnScope_by (by decide +kernel)
abbrev s_Hires_people : Stmt := inClass (topS 13) 1
abbrev N_Hires_people : List Str := ["self"]
theorem sc_Hires_people : FnScope N_Hires_people ["self"] (fnScope s_Hires_people) := fnScope_by (by decide +kernel)
abbrev s_Hires_jobs_of : Stmt := inClass (topS 13) 2
abbrev N_Hires_jobs_of : List Str := ["self", "person"]
theorem sc_Hires_jobs_of : FnScope N_Hires_jobs_of ["self", "person"] (fnScope s_Hires_jobs_of) := fnScope_by (by decide +kernel)
abbrev s_Hires__eq : Stmt := inClass (topS 13) 3
abbrev N_Hires__eq : List Str := ["self", "other"]
theorem sc_Hires__eq : FnScope N_Hires__eq ["self", "other"] (fnScope s_Hires__eq) := fnScope_by (by decide +kernel)
abbrev s_checked_jobs : Stmt := topS 14
abbrev N_checked_jobs : List Str := ["jobs", "people", "checked", "person"]
theorem sc_checked_jobs : FnScope N_checked_jobs ["jobs", "people"] (fnScope s_checked_jobs) := fnScope_by (by decide +kernel)
abbrev s_law_take : Stmt := topS 16
abbrev N_law_take : List Str := ["script", "pool", "many", "cell", "digit", "seed"]
theorem sc_law_take : FnScope N_law_take ["script", "pool", "many"] (fnScope s_law_take) := fnScope_by (by decide +kernel)
abbrev s_law_like : Stmt := topS 17
abbrev N_law_like : List Str := ["told", "due", "k", "key"]
theorem sc_law_like : FnScope N_law_like ["told", "due"] (fnScope s_law_like) := fnScope_by (by decide +kernel)
abbrev s_law_shuffled : Stmt := topS 18
abbrev N_law_shuffled : List Str := ["script", "pool", "things", "rest", "found", "k"]
theorem sc_law_shuffled : FnScope N_law_shuffled ["script", "pool", "things"] (fnScope s_law_shuffled) := fnScope_by (by decide +kernel)
abbrev s_law_names : Stmt := topS 19
abbrev N_law_names : List Str := ["script", "pool", "many", "letters", "names", "k", "size", "word", "letter", "j"]
theorem sc_law_names : FnScope N_law_names ["script", "pool", "many"] (fnScope s_law_names) := fnScope_by (by decide +kernel)
abbrev s_law_some : Stmt := topS 20
abbrev N_law_some : List Str := ["script", "pool", "things", "weight", "thing"]
theorem sc_law_some : FnScope N_law_some ["script", "pool", "things"] (fnScope s_law_some) := fnScope_by (by decide +kernel)
abbrev s_law_people : Stmt := topS 21
abbrev N_law_people : List Str := ["script", "pool", "most", "jobs", "people", "known", "lists", "lean", "person", "some"]
theorem sc_law_people : FnScope N_law_people ["script", "pool", "most", "jobs"] (fnScope s_law_people) := fnScope_by (by decide +kernel)
abbrev s_law_made_so : Stmt := topS 22
abbrev N_law_made_so : List Str := ["people", "jobs", "told", "e"]
theorem sc_law_made_so : FnScope N_law_made_so ["people", "jobs"] (fnScope s_law_made_so) := fnScope_by (by decide +kernel)
abbrev s_law_nobody : Stmt := topS 23
abbrev N_law_nobody : List Str := ["hires", "person", "told", "e"]
theorem sc_law_nobody : FnScope N_law_nobody ["hires", "person"] (fnScope s_law_nobody) := fnScope_by (by decide +kernel)
abbrev s_law_is_name : Stmt := topS 24
abbrev N_law_is_name : List Str := ["word", "letter"]
theorem sc_law_is_name : FnScope N_law_is_name ["word"] (fnScope s_law_is_name) := fnScope_by (by decide +kernel)
abbrev s_law_first_wrong : Stmt := topS 25
abbrev N_law_first_wrong : List Str := ["words", "k"]
theorem sc_law_first_wrong : FnScope N_law_first_wrong ["words"] (fnScope s_law_first_wrong) := fnScope_by (by decide +kernel)
abbrev s_law_due : Stmt := topS 26
abbrev N_law_due : List Str := ["people", "jobs", "wrong", "person", "one"]
theorem sc_law_due : FnScope N_law_due ["people", "jobs"] (fnScope s_law_due) := fnScope_by (by decide +kernel)
abbrev s_law_spoiled : Stmt := topS 27
abbrev N_law_spoiled : List Str := ["script", "pool", "people", "lists", "odd", "kind", "at", "person", "row", "more", "letter"]
theorem sc_law_spoiled : FnScope N_law_spoiled ["script", "pool", "people", "lists"] (fnScope s_law_spoiled) := fnScope_by (by decide +kernel)
abbrev s_law : Stmt := topS 28
abbrev N_law : List Str := ["script", "pool", "people", "lists", "handed", "person", "hires", "row", "turn", "told", "other", "k", "kept", "letter"]
theorem sc_law : FnScope N_law ["script"] (fnScope s_law) := fnScope_by (by decide +kernel)
structure Ad where
  C_LotError : Addr
  C_BadThings : Addr
  C_NoThing : Addr
  C_BadJobs : Addr
  C_Hires : Addr
  f_BadThings__init : Addr
  fd_BadThings__init : FuncData
  f_NoThing__init : Addr
  fd_NoThing__init : FuncData
  f_BadJobs__init : Addr
  fd_BadJobs__init : FuncData
  f_is_name : Addr
  fd_is_name : FuncData
  f_first_wrong : Addr
  fd_first_wrong : FuncData
  f_sorted_things : Addr
  fd_sorted_things : FuncData
  f_Hires__init : Addr
  fd_Hires__init : FuncData
  f_Hires_people : Addr
  fd_Hires_people : FuncData
  f_Hires_jobs_of : Addr
  fd_Hires_jobs_of : FuncData
  f_Hires__eq : Addr
  fd_Hires__eq : FuncData
  f_checked_jobs : Addr
  fd_checked_jobs : FuncData
  f_law_take : Addr
  fd_law_take : FuncData
  f_law_like : Addr
  fd_law_like : FuncData
  f_law_shuffled : Addr
  fd_law_shuffled : FuncData
  f_law_names : Addr
  fd_law_names : FuncData
  f_law_some : Addr
  fd_law_some : FuncData
  f_law_people : Addr
  fd_law_people : FuncData
  f_law_made_so : Addr
  fd_law_made_so : FuncData
  f_law_nobody : Addr
  fd_law_nobody : FuncData
  f_law_is_name : Addr
  fd_law_is_name : FuncData
  f_law_first_wrong : Addr
  fd_law_first_wrong : FuncData
  f_law_due : Addr
  fd_law_due : FuncData
  f_law_spoiled : Addr
  fd_law_spoiled : FuncData
  f_law : Addr
  fd_law : FuncData
structure Txt (K : PySem.W.Frag) (mg : Str → Option Value) (A : Ad) : Prop where
  gC_LotError : mg "LotError" = some (.ref A.C_LotError)
  gC_BadThings : mg "BadThings" = some (.ref A.C_BadThings)
  gC_NoThing : mg "NoThing" = some (.ref A.C_NoThing)
  gC_BadJobs : mg "BadJobs" = some (.ref A.C_BadJobs)
  gC_Hires : mg "Hires" = some (.ref A.C_Hires)
  u_BadThings__init : C8.Fun K "__init__" "BadThings.__init__" s_BadThings__init A.f_BadThings__init A.fd_BadThings__init
  fi_BadThings__init : PySem.W.findIn K (.ref A.C_BadThings) "__init__" = some (some (.ref A.f_BadThings__init))
  fn_BadThings__init : PySem.W.isFn K (.ref A.f_BadThings__init) = true
  kp_BadThings__init : PySem.W.keepIn K (.ref A.f_BadThings__init) = true
  b_BadThings__init : Binds K A.fd_BadThings__init ["self", "index"] []
  u_NoThing__init : C8.Fun K "__init__" "NoThing.__init__" s_NoThing__init A.f_NoThing__init A.fd_NoThing__init
  fi_NoThing__init : PySem.W.findIn K (.ref A.C_NoThing) "__init__" = some (some (.ref A.f_NoThing__init))
  fn_NoThing__init : PySem.W.isFn K (.ref A.f_NoThing__init) = true
  kp_NoThing__init : PySem.W.keepIn K (.ref A.f_NoThing__init) = true
  b_NoThing__init : Binds K A.fd_NoThing__init ["self", "thing"] []
  u_BadJobs__init : C8.Fun K "__init__" "BadJobs.__init__" s_BadJobs__init A.f_BadJobs__init A.fd_BadJobs__init
  fi_BadJobs__init : PySem.W.findIn K (.ref A.C_BadJobs) "__init__" = some (some (.ref A.f_BadJobs__init))
  fn_BadJobs__init : PySem.W.isFn K (.ref A.f_BadJobs__init) = true
  kp_BadJobs__init : PySem.W.keepIn K (.ref A.f_BadJobs__init) = true
  b_BadJobs__init : Binds K A.fd_BadJobs__init ["self", "person"] []
  d_is_name : C8.Def K mg "is_name" s_is_name A.f_is_name A.fd_is_name
  b_is_name : Binds K A.fd_is_name ["value"] []
  d_first_wrong : C8.Def K mg "first_wrong" s_first_wrong A.f_first_wrong A.fd_first_wrong
  b_first_wrong : Binds K A.fd_first_wrong ["entries", "fits"] []
  d_sorted_things : C8.Def K mg "sorted_things" s_sorted_things A.f_sorted_things A.fd_sorted_things
  b_sorted_things : Binds K A.fd_sorted_things ["things", "most"] []
  u_Hires__init : C8.Fun K "__init__" "Hires.__init__" s_Hires__init A.f_Hires__init A.fd_Hires__init
  fi_Hires__init : PySem.W.findIn K (.ref A.C_Hires) "__init__" = some (some (.ref A.f_Hires__init))
  fn_Hires__init : PySem.W.isFn K (.ref A.f_Hires__init) = true
  kp_Hires__init : PySem.W.keepIn K (.ref A.f_Hires__init) = true
  b_Hires__init : Binds K A.fd_Hires__init ["self", "people", "jobs"] []
  u_Hires_people : C8.Fun K "people" "Hires.people" s_Hires_people A.f_Hires_people A.fd_Hires_people
  fi_Hires_people : PySem.W.findIn K (.ref A.C_Hires) "people" = some (some (.ref A.f_Hires_people))
  fn_Hires_people : PySem.W.isFn K (.ref A.f_Hires_people) = true
  kp_Hires_people : PySem.W.keepIn K (.ref A.f_Hires_people) = true
  b_Hires_people : Binds K A.fd_Hires_people ["self"] []
  u_Hires_jobs_of : C8.Fun K "jobs_of" "Hires.jobs_of" s_Hires_jobs_of A.f_Hires_jobs_of A.fd_Hires_jobs_of
  fi_Hires_jobs_of : PySem.W.findIn K (.ref A.C_Hires) "jobs_of" = some (some (.ref A.f_Hires_jobs_of))
  fn_Hires_jobs_of : PySem.W.isFn K (.ref A.f_Hires_jobs_of) = true
  kp_Hires_jobs_of : PySem.W.keepIn K (.ref A.f_Hires_jobs_of) = true
  b_Hires_jobs_of : Binds K A.fd_Hires_jobs_of ["self", "person"] []
  u_Hires__eq : C8.Fun K "__eq__" "Hires.__eq__" s_Hires__eq A.f_Hires__eq A.fd_Hires__eq
  fi_Hires__eq : PySem.W.findIn K (.ref A.C_Hires) "__eq__" = some (some (.ref A.f_Hires__eq))
  fn_Hires__eq : PySem.W.isFn K (.ref A.f_Hires__eq) = true
  kp_Hires__eq : PySem.W.keepIn K (.ref A.f_Hires__eq) = true
  b_Hires__eq : Binds K A.fd_Hires__eq ["self", "other"] []
  d_checked_jobs : C8.Def K mg "_checked_jobs" s_checked_jobs A.f_checked_jobs A.fd_checked_jobs
  b_checked_jobs : Binds K A.fd_checked_jobs ["jobs", "people"] []
  d_law_take : C8.Def K mg "_law_take" s_law_take A.f_law_take A.fd_law_take
  b_law_take : Binds K A.fd_law_take ["script", "pool", "many"] []
  d_law_like : C8.Def K mg "_law_like" s_law_like A.f_law_like A.fd_law_like
  b_law_like : Binds K A.fd_law_like ["told", "due"] []
  d_law_shuffled : C8.Def K mg "_law_shuffled" s_law_shuffled A.f_law_shuffled A.fd_law_shuffled
  b_law_shuffled : Binds K A.fd_law_shuffled ["script", "pool", "things"] []
  d_law_names : C8.Def K mg "_law_names" s_law_names A.f_law_names A.fd_law_names
  b_law_names : Binds K A.fd_law_names ["script", "pool", "many"] []
  d_law_some : C8.Def K mg "_law_some" s_law_some A.f_law_some A.fd_law_some
  b_law_some : Binds K A.fd_law_some ["script", "pool", "things"] []
  d_law_people : C8.Def K mg "_law_people" s_law_people A.f_law_people A.fd_law_people
  b_law_people : Binds K A.fd_law_people ["script", "pool", "most", "jobs"] []
  d_law_made_so : C8.Def K mg "_law_made_so" s_law_made_so A.f_law_made_so A.fd_law_made_so
  b_law_made_so : Binds K A.fd_law_made_so ["people", "jobs"] []
  d_law_nobody : C8.Def K mg "_law_nobody" s_law_nobody A.f_law_nobody A.fd_law_nobody
  b_law_nobody : Binds K A.fd_law_nobody ["hires", "person"] []
  d_law_is_name : C8.Def K mg "_law_is_name" s_law_is_name A.f_law_is_name A.fd_law_is_name
  b_law_is_name : Binds K A.fd_law_is_name ["word"] []
  d_law_first_wrong : C8.Def K mg "_law_first_wrong" s_law_first_wrong A.f_law_first_wrong A.fd_law_first_wrong
  b_law_first_wrong : Binds K A.fd_law_first_wrong ["words"] []
  d_law_due : C8.Def K mg "_law_due" s_law_due A.f_law_due A.fd_law_due
  b_law_due : Binds K A.fd_law_due ["people", "jobs"] []
  d_law_spoiled : C8.Def K mg "_law_spoiled" s_law_spoiled A.f_law_spoiled A.fd_law_spoiled
  b_law_spoiled : Binds K A.fd_law_spoiled ["script", "pool", "people", "lists"] []
  d_law : C8.Def K mg "law" s_law A.f_law A.fd_law
  b_law : Binds K A.fd_law ["script"] []
  cl_Hires : Cls K A.C_Hires
  mk_Hires : PySem.W.makesIn K A.C_Hires = true
  kc_Hires : PySem.W.keepIn K (.ref A.C_Hires) = true
  na_Hires__people : NoAttr K A.C_Hires "_people"
  na_Hires__jobs : NoAttr K A.C_Hires "_jobs"
  wc_Hires : PySem.W.findIn K (.ref A.C_Hires) "__class__" = some (some (.builtin "object.__class__"))
  wg_Hires : PySem.W.specialIn K (.builtin "object.__class__") "__get__" = some (some (.builtin "getset_descriptor.__get__"))
  wt_Hires : PySem.W.takesIn K (.builtin "object.__class__") = some true
  wm_Hires : PySem.W.mroIn K A.C_Hires (.type "object") = some true
  wk_Hires : PySem.W.kitOne K (.ref A.C_Hires) (.ref A.C_Hires) = some true
  nc_Hires : NeC K A.C_Hires A.f_Hires__eq
  ox_BadThings : OexC K A.C_BadThings
  xf_BadThings : XfC K A.C_BadThings
  nx_BadThings_index : PySem.W.findIn K (.ref A.C_BadThings) "index" = some none
  ox_NoThing : OexC K A.C_NoThing
  xf_NoThing : XfC K A.C_NoThing
  nx_NoThing_thing : PySem.W.findIn K (.ref A.C_NoThing) "thing" = some none
  ox_BadJobs : OexC K A.C_BadJobs
  xf_BadJobs : XfC K A.C_BadJobs
  nx_BadJobs_person : PySem.W.findIn K (.ref A.C_BadJobs) "person" = some none
  xm_BadThings_BadThings : PySem.W.exmOne K (.ref A.C_BadThings) (.ref A.C_BadThings) = some true
  xm_NoThing_NoThing : PySem.W.exmOne K (.ref A.C_NoThing) (.ref A.C_NoThing) = some true
  xm_BadJobs_BadJobs : PySem.W.exmOne K (.ref A.C_BadJobs) (.ref A.C_BadJobs) = some true
  xm_BadThings_LotError : PySem.W.exmOne K (.ref A.C_BadThings) (.ref A.C_LotError) = some true
  xm_BadJobs_LotError : PySem.W.exmOne K (.ref A.C_BadJobs) (.ref A.C_LotError) = some true
  is_BadThings : IsC K A.C_BadThings
  is_BadJobs : IsC K A.C_BadJobs
  ky_BadThings_BadThings : PySem.W.kitOne K (.ref A.C_BadThings) (.ref A.C_BadThings) = some true
  ky_BadJobs_BadThings : PySem.W.kitOne K (.ref A.C_BadJobs) (.ref A.C_BadThings) = some false
  ky_BadJobs_BadJobs : PySem.W.kitOne K (.ref A.C_BadJobs) (.ref A.C_BadJobs) = some true
  z_all : mg "all" = none
  z_bool : mg "bool" = none
  z_dict : mg "dict" = none
  z_enumerate : mg "enumerate" = none
  z_int : mg "int" = none
  z_isinstance : mg "isinstance" = none
  z_len : mg "len" = none
  z_list : mg "list" = none
  z_range : mg "range" = none
  z_repr : mg "repr" = none
  z_reversed : mg "reversed" = none
  z_set : mg "set" = none
  z_sorted : mg "sorted" = none
  z_str : mg "str" = none
  z_tuple : mg "tuple" = none
  g_LONGEST_NAME : ∃ t, mg "LONGEST_NAME" = some (.int 8 t)
  g_MOST_PEOPLE : ∃ t, mg "MOST_PEOPLE" = some (.int 24 t)
  g_MOST_JOBS : ∃ t, mg "MOST_JOBS" = some (.int 24 t)
section
variable {P : Program} {w : World} {K : PySem.W.Frag} {mg : Str → Option Value} {base : Heap} {A : Ad}
theorem cal_law_take (T : Txt K mg A) : Cal P w K mg base 1 "_law_take" (spTake K) [] := by
  refine cal0 T.d_law_take T.b_law_take .nil sc_law_take (fun vs H Q E h => ?_) (fun cdv B outer s H vs Q E hr h => ?_)
  · obtain ⟨a, p, m, ns, rfl, _⟩ := h
    rfl
  · obtain ⟨a, p, m, ns, rfl, ha, ⟨i, b, c, sd, hp⟩, h1, h2, hl, k⟩ := h
    refine ⟨_, (pss_cons (ps_asg (pe_op op_add (pe_ix (ixLK K) (pv 1) pe_int (fun _ _ => rfl)) pe_int) (pg_sub (pv 1) pe_int set_list))
 (pss_cons (ps_if (PW.pt (pw_and (pt_cmpR op_eq (pe_ix (ixLK K) (pv 1) pe_int (fun _ _ => rfl)) pe_int (nomark _)) (pw_and1 (pt_cmpR op_lt (pe_ix (ixLK K) (pv 1) pe_int (fun _ _ => rfl)) (pe_callB (lenK K) (by rfl) T.z_len (by decide +kernel) (pa_cons (pv 0) pa_nil)) (nomark _))))) (pss_cons (ps_set (i := 3) sc_law_take.nd rfl (by first | exact Or.inl rfl | exact Or.inr rfl) (pe_ix (ixLK K) (pv 0) (pe_ix (ixLK K) (pv 1) pe_int (fun _ _ => rfl)) (fun _ _ => rfl)))
 (pss_cons (ps_asg (pe_op op_add (pe_ix (ixLK K) (pv 1) pe_int (fun _ _ => rfl)) pe_int) (pg_sub (pv 1) pe_int set_list))
 (pss_cons (ps_if (pt_cmpR op_lt (pv 3) pe_int (nomark _)) (pss_one (ps_set (i := 3) sc_law_take.nd rfl (by first | exact Or.inl rfl | exact Or.inr rfl) (pe_un un_neg (pv 3)))) pss_nil)
 (pss_one (ps_if (pt_cmpR op_ge (pv 3) (pe_op op_pow pe_int pe_int) (nomark _)) (pss_one (ps_asg (pv 3) (pg_sub (pv 1) pe_int set_list))) (pss_one (ps_asg (pe_op op_mod (pe_callTy call_int1 (by rfl) T.z_int (by decide +kernel) (pa_cons (pe_op op_add (pe_op op_add (pe_op op_mul (pe_ix (ixLK K) (pv 1) pe_int (fun _ _ => rfl)) pe_int) (pv 3)) pe_int) pa_nil)) pe_int) (pg_sub (pv 1) pe_int set_list)))))))) pss_nil)
 (pss_cons (ps_if (pt_cmpR op_gt (pe_ix (ixLK K) (pv 1) pe_int (fun _ _ => rfl)) pe_int (nomark _)) (pss_cons (ps_set (i := 4) sc_law_take.nd rfl (by first | exact Or.inl rfl | exact Or.inr rfl) (pe_op op_mod (pe_callTy call_int1 (by rfl) T.z_int (by decide +kernel) (pa_cons (pe_ix (ixLK K) (pv 1) pe_int (fun _ _ => rfl)) pa_nil)) (pv 2)))
 (pss_cons (ps_asg (pe_op op_fdiv (pe_ix (ixLK K) (pv 1) pe_int (fun _ _ => rfl)) (pv 2)) (pg_sub (pv 1) pe_int set_list))
 (pss_one (ps_ret (pv 4))))) pss_nil)
 (pss_cons (ps_set (i := 5) sc_law_take.nd rfl (by first | exact Or.inl rfl | exact Or.inr rfl) (pe_op op_mod (pe_op op_mul (pe_callTy call_int1 (by rfl) T.z_int (by decide +kernel) (pa_cons (pe_op op_add (pe_op op_add (pe_ix (ixLK K) (pv 1) pe_int (fun _ _ => rfl)) (pe_op op_mul pe_int (pe_ix (ixLK K) (pv 1) pe_int (fun _ _ => rfl)))) pe_int) pa_nil)) pe_int) pe_int))
 (pss_cons (ps_set (i := 5) sc_law_take.nd rfl (by first | exact Or.inl rfl | exact Or.inr rfl) (pe_op op_mod (pe_callTy call_int1 (by rfl) T.z_int (by decide +kernel) (pa_cons (pe_op op_mul (pv 5) (pe_op op_add (pe_op op_fdiv (pv 5) pe_int) pe_int)) pa_nil)) pe_int))
 (pss_cons (ps_set (i := 5) sc_law_take.nd rfl (by first | exact Or.inl rfl | exact Or.inr rfl) (pe_op op_mod (pe_callTy call_int1 (by rfl) T.z_int (by decide +kernel) (pa_cons (pe_op op_mul (pv 5) (pe_op op_add (pe_op op_fdiv (pv 5) pe_int) pe_int)) pa_nil)) pe_int))
 (pss_one (ps_ret (pe_op op_mod (pe_callTy call_int1 (by rfl) T.z_int (by decide +kernel) (pa_cons (pe_op op_fdiv (pv 5) pe_int) pa_nil)) (pv 2)))))))))), ?_⟩
    (repeat (first | refine ⟨_, rfl, ?_⟩ | refine ⟨rfl, ?_⟩ | refine ⟨_, _, rfl, rfl, ?_⟩ | refine iteT ?_ | refine iteF ?_ | refine ⟨(by show (0 : Int) < _; omega), ?_⟩ | refine ⟨(⟨by omega, by omega⟩ : CDiv _ _), ?_⟩ | refine ⟨(⟨by decide, by decide, by decide⟩ : CPow _ _), ?_⟩ | refine ⟨(.inl ⟨by omega, by omega⟩ : CMul _ _), ?_⟩ | refine ⟨(.inr ⟨by omega, by omega⟩ : CMul _ _), ?_⟩ | refine Or.inl ⟨_, rfl, ?_⟩ | refine Or.inr ⟨_, rfl, ?_⟩ | refine ⟨_, _, _, _, true, rfl, .ty _, .base (.str _), kit_ty (by decide +kernel), ?_⟩ | refine ⟨_, _, rfl, ⟨by rw [sizeLine_eq]; omega, rfl⟩, ?_⟩ | refine ⟨_, _, rfl, .inl ⟨_, (by first | exact SqL.of (by assumption) | exact Scr.sq (by assumption)), rfl⟩, ?_⟩ | refine ⟨_, _, rfl, .inr ⟨_, SqT.of (by assumption), rfl⟩, ?_⟩ | refine ⟨_, _, _, _, rfl, rfl, SqL.of hp, rfl, ?_⟩))
    refine ⟨p, _, _, 2, rfl, rfl, hp, rfl, ?_⟩
    have hp1 := upd_same (H := H) (a := p) (o := .lst ([V.int i, .int b, .int c, .int sd].set 2 (.int (c + 1))))
    have fr1 : ∀ q o, q ≠ p → H q = some o → upd H p (.lst ([V.int i, .int b, .int c, .int sd].set 2 (.int (c + 1)))) q = some o := fun q o n e => by rw [upd_ne n]; exact e
    have ha1 := ha.fr fr1
    generalize hG1 : upd H p (.lst ([V.int i, .int b, .int c, .int sd].set 2 (.int (c + 1)))) = G1 at *
    have hp := hp1
    (repeat (first | refine ⟨_, rfl, ?_⟩ | refine ⟨rfl, ?_⟩ | refine ⟨_, _, rfl, rfl, ?_⟩ | refine iteT ?_ | refine iteF ?_ | refine ⟨(by show (0 : Int) < _; omega), ?_⟩ | refine ⟨(⟨by omega, by omega⟩ : CDiv _ _), ?_⟩ | refine ⟨(⟨by decide, by decide, by decide⟩ : CPow _ _), ?_⟩ | refine ⟨(.inl ⟨by omega, by omega⟩ : CMul _ _), ?_⟩ | refine ⟨(.inr ⟨by omega, by omega⟩ : CMul _ _), ?_⟩ | refine Or.inl ⟨_, rfl, ?_⟩ | refine Or.inr ⟨_, rfl, ?_⟩ | refine ⟨_, _, _, _, true, rfl, .ty _, .base (.str _), kit_ty (by decide +kernel), ?_⟩ | refine ⟨_, _, rfl, ⟨by rw [sizeLine_eq]; omega, rfl⟩, ?_⟩ | refine ⟨_, _, rfl, .inl ⟨_, (by first | exact SqL.of (by assumption) | exact Scr.sq (by assumption)), rfl⟩, ?_⟩ | refine ⟨_, _, rfl, .inr ⟨_, SqT.of (by assumption), rfl⟩, ?_⟩ | refine ⟨_, _, _, _, rfl, rfl, SqL.of hp, rfl, ?_⟩))
    have hi : ∀ {j : Nat}, j < ns.length → atI (ns.map V.int) ((j : Nat) : Int) = some (V.int (ns.getD j 0)) := fun {j} h => atI_nat (by rw [List.getElem?_map, List.getElem?_eq_getElem h, List.getD_eq_getElem?_getD, List.getElem?_eq_getElem h]; rfl)
    have ready : ∀ {G : Hp}, (∀ q o, q ≠ p → H q = some o → G q = some o) → PoolAt G p → ∀ {n : Int}, 0 ≤ n → n < m → Q (.int n) G := fun {G} fr pl {n} a b => k n G a b ⟨fr, fun _ => pl⟩
    by_cases hb : b = 0
    · rw [decide_eq_true (by rw [hb])]
      (repeat (first | refine ⟨_, rfl, ?_⟩ | refine ⟨rfl, ?_⟩ | refine ⟨_, _, rfl, rfl, ?_⟩ | refine iteT ?_ | refine iteF ?_ | refine ⟨(by show (0 : Int) < _; omega), ?_⟩ | refine ⟨(⟨by omega, by omega⟩ : CDiv _ _), ?_⟩ | refine ⟨(⟨by decide, by decide, by decide⟩ : CPow _ _), ?_⟩ | refine ⟨(.inl ⟨by omega, by omega⟩ : CMul _ _), ?_⟩ | refine ⟨(.inr ⟨by omega, by omega⟩ : CMul _ _), ?_⟩ | refine Or.inl ⟨_, rfl, ?_⟩ | refine Or.inr ⟨_, rfl, ?_⟩ | refine ⟨_, _, _, _, true, rfl, .ty _, .base (.str _), kit_ty (by decide +kernel), ?_⟩ | refine ⟨_, _, rfl, ⟨by rw [sizeLine_eq]; omega, rfl⟩, ?_⟩ | refine ⟨_, _, rfl, .inl ⟨_, (by first | exact SqL.of (by assumption) | exact Scr.sq (by assumption)), rfl⟩, ?_⟩ | refine ⟨_, _, rfl, .inr ⟨_, SqT.of (by assumption), rfl⟩, ?_⟩ | refine ⟨_, _, _, _, rfl, rfl, SqL.of hp, rfl, ?_⟩))
      by_cases hlen : (i : Int) < ((ns.map V.int).length : Int)
      · rw [decide_eq_true hlen]
        rw [List.length_map] at hlen
        have hin : i < ns.length := by omega
        (repeat (first | refine ⟨_, rfl, ?_⟩ | refine ⟨rfl, ?_⟩ | refine ⟨_, _, rfl, rfl, ?_⟩ | refine iteT ?_ | refine iteF ?_ | refine ⟨(by show (0 : Int) < _; omega), ?_⟩ | refine ⟨(⟨by omega, by omega⟩ : CDiv _ _), ?_⟩ | refine ⟨(⟨by decide, by decide, by decide⟩ : CPow _ _), ?_⟩ | refine ⟨(.inl ⟨by omega, by omega⟩ : CMul _ _), ?_⟩ | refine ⟨(.inr ⟨by omega, by omega⟩ : CMul _ _), ?_⟩ | refine Or.inl ⟨_, rfl, ?_⟩ | refine Or.inr ⟨_, rfl, ?_⟩ | refine ⟨_, _, _, _, true, rfl, .ty _, .base (.str _), kit_ty (by decide +kernel), ?_⟩ | refine ⟨_, _, rfl, ⟨by rw [sizeLine_eq]; omega, rfl⟩, ?_⟩ | refine ⟨_, _, rfl, .inl ⟨_, (by first | exact SqL.of (by assumption) | exact Scr.sq (by assumption)), rfl⟩, ?_⟩ | refine ⟨_, _, rfl, .inr ⟨_, SqT.of (by assumption), rfl⟩, ?_⟩ | refine ⟨_, _, _, _, rfl, rfl, SqL.of hp, rfl, ?_⟩))
        refine ⟨a, _, _, _, rfl, rfl, ha1.sq, hi hin, ?_⟩
        (repeat (first | refine ⟨_, rfl, ?_⟩ | refine ⟨rfl, ?_⟩ | refine ⟨_, _, rfl, rfl, ?_⟩ | refine iteT ?_ | refine iteF ?_ | refine ⟨(by show (0 : Int) < _; omega), ?_⟩ | refine ⟨(⟨by omega, by omega⟩ : CDiv _ _), ?_⟩ | refine ⟨(⟨by decide, by decide, by decide⟩ : CPow _ _), ?_⟩ | refine ⟨(.inl ⟨by omega, by omega⟩ : CMul _ _), ?_⟩ | refine ⟨(.inr ⟨by omega, by omega⟩ : CMul _ _), ?_⟩ | refine Or.inl ⟨_, rfl, ?_⟩ | refine Or.inr ⟨_, rfl, ?_⟩ | refine ⟨_, _, _, _, true, rfl, .ty _, .base (.str _), kit_ty (by decide +kernel), ?_⟩ | refine ⟨_, _, rfl, ⟨by rw [sizeLine_eq]; omega, rfl⟩, ?_⟩ | refine ⟨_, _, rfl, .inl ⟨_, (by first | exact SqL.of (by assumption) | exact Scr.sq (by assumption)), rfl⟩, ?_⟩ | refine ⟨_, _, rfl, .inr ⟨_, SqT.of (by assumption), rfl⟩, ?_⟩ | refine ⟨_, _, _, _, rfl, rfl, SqL.of hp, rfl, ?_⟩))
        refine ⟨p, _, _, 0, rfl, rfl, hp, rfl, ?_⟩
        have hp2 := upd_same (H := G1) (a := p) (o := .lst (([V.int i, .int b, .int c, .int sd].set 2 (.int (c + 1))).set 0 (.int ((i : Int) + 1))))
        have fr2 : ∀ q o, q ≠ p → H q = some o → upd G1 p (.lst (([V.int i, .int b, .int c, .int sd].set 2 (.int (c + 1))).set 0 (.int ((i : Int) + 1)))) q = some o := fun q o n e => by rw [upd_ne n]; exact fr1 q o n e
        have ha2 := ha.fr fr2
        generalize hG2 : upd G1 p (.lst (([V.int i, .int b, .int c, .int sd].set 2 (.int (c + 1))).set 0 (.int ((i : Int) + 1)))) = G2 at *
        have hp := hp2
        (repeat (first | refine ⟨_, rfl, ?_⟩ | refine ⟨rfl, ?_⟩ | refine ⟨_, _, rfl, rfl, ?_⟩ | refine iteT ?_ | refine iteF ?_ | refine ⟨(by show (0 : Int) < _; omega), ?_⟩ | refine ⟨(⟨by omega, by omega⟩ : CDiv _ _), ?_⟩ | refine ⟨(⟨by decide, by decide, by decide⟩ : CPow _ _), ?_⟩ | refine ⟨(.inl ⟨by omega, by omega⟩ : CMul _ _), ?_⟩ | refine ⟨(.inr ⟨by omega, by omega⟩ : CMul _ _), ?_⟩ | refine Or.inl ⟨_, rfl, ?_⟩ | refine Or.inr ⟨_, rfl, ?_⟩ | refine ⟨_, _, _, _, true, rfl, .ty _, .base (.str _), kit_ty (by decide +kernel), ?_⟩ | refine ⟨_, _, rfl, ⟨by rw [sizeLine_eq]; omega, rfl⟩, ?_⟩ | refine ⟨_, _, rfl, .inl ⟨_, (by first | exact SqL.of (by assumption) | exact Scr.sq (by assumption)), rfl⟩, ?_⟩ | refine ⟨_, _, rfl, .inr ⟨_, SqT.of (by assumption), rfl⟩, ?_⟩ | refine ⟨_, _, _, _, rfl, rfl, SqL.of hp, rfl, ?_⟩))
        refine ite2 (fun hneg => ?_) (fun hneg => ?_)
        · (repeat (first | refine ⟨_, rfl, ?_⟩ | refine ⟨rfl, ?_⟩ | refine ⟨_, _, rfl, rfl, ?_⟩ | refine iteT ?_ | refine iteF ?_ | refine ⟨(by show (0 : Int) < _; omega), ?_⟩ | refine ⟨(⟨by omega, by omega⟩ : CDiv _ _), ?_⟩ | refine ⟨(⟨by decide, by decide, by decide⟩ : CPow _ _), ?_⟩ | refine ⟨(.inl ⟨by omega, by omega⟩ : CMul _ _), ?_⟩ | refine ⟨(.inr ⟨by omega, by omega⟩ : CMul _ _), ?_⟩ | refine Or.inl ⟨_, rfl, ?_⟩ | refine Or.inr ⟨_, rfl, ?_⟩ | refine ⟨_, _, _, _, true, rfl, .ty _, .base (.str _), kit_ty (by decide +kernel), ?_⟩ | refine ⟨_, _, rfl, ⟨by rw [sizeLine_eq]; omega, rfl⟩, ?_⟩ | refine ⟨_, _, rfl, .inl ⟨_, (by first | exact SqL.of (by assumption) | exact Scr.sq (by assumption)), rfl⟩, ?_⟩ | refine ⟨_, _, rfl, .inr ⟨_, SqT.of (by assumption), rfl⟩, ?_⟩ | refine ⟨_, _, _, _, rfl, rfl, SqL.of hp, rfl, ?_⟩))
          refine ite2 (fun hbig => ?_) (fun hbig => ?_)
          · (repeat (first | refine ⟨_, rfl, ?_⟩ | refine ⟨rfl, ?_⟩ | refine ⟨_, _, rfl, rfl, ?_⟩ | refine iteT ?_ | refine iteF ?_ | refine ⟨(by show (0 : Int) < _; omega), ?_⟩ | refine ⟨(⟨by omega, by omega⟩ : CDiv _ _), ?_⟩ | refine ⟨(⟨by decide, by decide, by decide⟩ : CPow _ _), ?_⟩ | refine ⟨(.inl ⟨by omega, by omega⟩ : CMul _ _), ?_⟩ | refine ⟨(.inr ⟨by omega, by omega⟩ : CMul _ _), ?_⟩ | refine Or.inl ⟨_, rfl, ?_⟩ | refine Or.inr ⟨_, rfl, ?_⟩ | refine ⟨_, _, _, _, true, rfl, .ty _, .base (.str _), kit_ty (by decide +kernel), ?_⟩ | refine ⟨_, _, rfl, ⟨by rw [sizeLine_eq]; omega, rfl⟩, ?_⟩ | refine ⟨_, _, rfl, .inl ⟨_, (by first | exact SqL.of (by assumption) | exact Scr.sq (by assumption)), rfl⟩, ?_⟩ | refine ⟨_, _, rfl, .inr ⟨_, SqT.of (by assumption), rfl⟩, ?_⟩ | refine ⟨_, _, _, _, rfl, rfl, SqL.of hp, rfl, ?_⟩))
            refine ⟨p, _, _, 1, rfl, rfl, hp, rfl, ?_⟩
            have hp3 := upd_same (H := G2) (a := p) (o := .lst ((([V.int i, .int b, .int c, .int sd].set 2 (.int (c + 1))).set 0 (.int ((i : Int) + 1))).set 1 (.int (-(ns.getD i 0)))))
            have fr3 : ∀ q o, q ≠ p → H q = some o → upd G2 p (.lst ((([V.int i, .int b, .int c, .int sd].set 2 (.int (c + 1))).set 0 (.int ((i : Int) + 1))).set 1 (.int (-(ns.getD i 0))))) q = some o := fun q o n e => by rw [upd_ne n]; exact fr2 q o n e
            generalize hG3 : upd G2 p (.lst ((([V.int i, .int b, .int c, .int sd].set 2 (.int (c + 1))).set 0 (.int ((i : Int) + 1))).set 1 (.int (-(ns.getD i 0))))) = G3 at *
            have hp := hp3
            (repeat (first | refine ⟨_, rfl, ?_⟩ | refine ⟨rfl, ?_⟩ | refine ⟨_, _, rfl, rfl, ?_⟩ | refine iteT ?_ | refine iteF ?_ | refine ⟨(by show (0 : Int) < _; omega), ?_⟩ | refine ⟨(⟨by omega, by omega⟩ : CDiv _ _), ?_⟩ | refine ⟨(⟨by decide, by decide, by decide⟩ : CPow _ _), ?_⟩ | refine ⟨(.inl ⟨by omega, by omega⟩ : CMul _ _), ?_⟩ | refine ⟨(.inr ⟨by omega, by omega⟩ : CMul _ _), ?_⟩ | refine Or.inl ⟨_, rfl, ?_⟩ | refine Or.inr ⟨_, rfl, ?_⟩ | refine ⟨_, _, _, _, true, rfl, .ty _, .base (.str _), kit_ty (by decide +kernel), ?_⟩ | refine ⟨_, _, rfl, ⟨by rw [sizeLine_eq]; omega, rfl⟩, ?_⟩ | refine ⟨_, _, rfl, .inl ⟨_, (by first | exact SqL.of (by assumption) | exact Scr.sq (by assumption)), rfl⟩, ?_⟩ | refine ⟨_, _, rfl, .inr ⟨_, SqT.of (by assumption), rfl⟩, ?_⟩ | refine ⟨_, _, _, _, rfl, rfl, SqL.of hp, rfl, ?_⟩))
            refine ite2 (fun hb2 => ?_) (fun hb2 => ?_)
            · (repeat (first | refine ⟨_, rfl, ?_⟩ | refine ⟨rfl, ?_⟩ | refine ⟨_, _, rfl, rfl, ?_⟩ | refine iteT ?_ | refine iteF ?_ | refine ⟨(by show (0 : Int) < _; omega), ?_⟩ | refine ⟨(⟨by omega, by omega⟩ : CDiv _ _), ?_⟩ | refine ⟨(⟨by decide, by decide, by decide⟩ : CPow _ _), ?_⟩ | refine ⟨(.inl ⟨by omega, by omega⟩ : CMul _ _), ?_⟩ | refine ⟨(.inr ⟨by omega, by omega⟩ : CMul _ _), ?_⟩ | refine Or.inl ⟨_, rfl, ?_⟩ | refine Or.inr ⟨_, rfl, ?_⟩ | refine ⟨_, _, _, _, true, rfl, .ty _, .base (.str _), kit_ty (by decide +kernel), ?_⟩ | refine ⟨_, _, rfl, ⟨by rw [sizeLine_eq]; omega, rfl⟩, ?_⟩ | refine ⟨_, _, rfl, .inl ⟨_, (by first | exact SqL.of (by assumption) | exact Scr.sq (by assumption)), rfl⟩, ?_⟩ | refine ⟨_, _, rfl, .inr ⟨_, SqT.of (by assumption), rfl⟩, ?_⟩ | refine ⟨_, _, _, _, rfl, rfl, SqL.of hp, rfl, ?_⟩))
              refine ⟨p, _, _, 1, rfl, rfl, hp, rfl, ?_⟩
              (repeat (first | refine ⟨_, rfl, ?_⟩ | refine ⟨rfl, ?_⟩ | refine ⟨_, _, rfl, rfl, ?_⟩ | refine iteT ?_ | refine iteF ?_ | refine ⟨(by show (0 : Int) < _; omega), ?_⟩ | refine ⟨(⟨by omega, by omega⟩ : CDiv _ _), ?_⟩ | refine ⟨(⟨by decide, by decide, by decide⟩ : CPow _ _), ?_⟩ | refine ⟨(.inl ⟨by omega, by omega⟩ : CMul _ _), ?_⟩ | refine ⟨(.inr ⟨by omega, by omega⟩ : CMul _ _), ?_⟩ | refine Or.inl ⟨_, rfl, ?_⟩ | refine Or.inr ⟨_, rfl, ?_⟩ | refine ⟨_, _, _, _, true, rfl, .ty _, .base (.str _), kit_ty (by decide +kernel), ?_⟩ | refine ⟨_, _, rfl, ⟨by rw [sizeLine_eq]; omega, rfl⟩, ?_⟩ | refine ⟨_, _, rfl, .inl ⟨_, (by first | exact SqL.of (by assumption) | exact Scr.sq (by assumption)), rfl⟩, ?_⟩ | refine ⟨_, _, rfl, .inr ⟨_, SqT.of (by assumption), rfl⟩, ?_⟩ | refine ⟨_, _, _, _, rfl, rfl, SqL.of hp, rfl, ?_⟩))
              exact ready (fun q o n e => by rw [upd_ne n]; exact fr3 q o n e) ⟨(i + 1), _, _, _, upd_same⟩ (Int.emod_nonneg _ (by omega)) (Int.emod_lt_of_pos _ (by omega))
            · (repeat (first | refine ⟨_, rfl, ?_⟩ | refine ⟨rfl, ?_⟩ | refine ⟨_, _, rfl, rfl, ?_⟩ | refine iteT ?_ | refine iteF ?_ | refine ⟨(by show (0 : Int) < _; omega), ?_⟩ | refine ⟨(⟨by omega, by omega⟩ : CDiv _ _), ?_⟩ | refine ⟨(⟨by decide, by decide, by decide⟩ : CPow _ _), ?_⟩ | refine ⟨(.inl ⟨by omega, by omega⟩ : CMul _ _), ?_⟩ | refine ⟨(.inr ⟨by omega, by omega⟩ : CMul _ _), ?_⟩ | refine Or.inl ⟨_, rfl, ?_⟩ | refine Or.inr ⟨_, rfl, ?_⟩ | refine ⟨_, _, _, _, true, rfl, .ty _, .base (.str _), kit_ty (by decide +kernel), ?_⟩ | refine ⟨_, _, rfl, ⟨by rw [sizeLine_eq]; omega, rfl⟩, ?_⟩ | refine ⟨_, _, rfl, .inl ⟨_, (by first | exact SqL.of (by assumption) | exact Scr.sq (by assumption)), rfl⟩, ?_⟩ | refine ⟨_, _, rfl, .inr ⟨_, SqT.of (by assumption), rfl⟩, ?_⟩ | refine ⟨_, _, _, _, rfl, rfl, SqL.of hp, rfl, ?_⟩))
              exact ready fr3 ⟨(i + 1), _, _, _, hp⟩ (Int.emod_nonneg _ (by omega)) (Int.emod_lt_of_pos _ (by omega))
          · (repeat (first | refine ⟨_, rfl, ?_⟩ | refine ⟨rfl, ?_⟩ | refine ⟨_, _, rfl, rfl, ?_⟩ | refine iteT ?_ | refine iteF ?_ | refine ⟨(by show (0 : Int) < _; omega), ?_⟩ | refine ⟨(⟨by omega, by omega⟩ : CDiv _ _), ?_⟩ | refine ⟨(⟨by decide, by decide, by decide⟩ : CPow _ _), ?_⟩ | refine ⟨(.inl ⟨by omega, by omega⟩ : CMul _ _), ?_⟩ | refine ⟨(.inr ⟨by omega, by omega⟩ : CMul _ _), ?_⟩ | refine Or.inl ⟨_, rfl, ?_⟩ | refine Or.inr ⟨_, rfl, ?_⟩ | refine ⟨_, _, _, _, true, rfl, .ty _, .base (.str _), kit_ty (by decide +kernel), ?_⟩ | refine ⟨_, _, rfl, ⟨by rw [sizeLine_eq]; omega, rfl⟩, ?_⟩ | refine ⟨_, _, rfl, .inl ⟨_, (by first | exact SqL.of (by assumption) | exact Scr.sq (by assumption)), rfl⟩, ?_⟩ | refine ⟨_, _, rfl, .inr ⟨_, SqT.of (by assumption), rfl⟩, ?_⟩ | refine ⟨_, _, _, _, rfl, rfl, SqL.of hp, rfl, ?_⟩))
            refine ⟨p, _, _, 3, rfl, rfl, hp, rfl, ?_⟩
            have hp3 := upd_same (H := G2) (a := p) (o := .lst ((([V.int i, .int b, .int c, .int sd].set 2 (.int (c + 1))).set 0 (.int ((i : Int) + 1))).set 3 (.int ((sd * 31 + (-(ns.getD i 0)) + 17) % 1000000007))))
            have fr3 : ∀ q o, q ≠ p → H q = some o → upd G2 p (.lst ((([V.int i, .int b, .int c, .int sd].set 2 (.int (c + 1))).set 0 (.int ((i : Int) + 1))).set 3 (.int ((sd * 31 + (-(ns.getD i 0)) + 17) % 1000000007)))) q = some o := fun q o n e => by rw [upd_ne n]; exact fr2 q o n e
            generalize hG3 : upd G2 p (.lst ((([V.int i, .int b, .int c, .int sd].set 2 (.int (c + 1))).set 0 (.int ((i : Int) + 1))).set 3 (.int ((sd * 31 + (-(ns.getD i 0)) + 17) % 1000000007)))) = G3 at *
            have hp := hp3
            (repeat (first | refine ⟨_, rfl, ?_⟩ | refine ⟨rfl, ?_⟩ | refine ⟨_, _, rfl, rfl, ?_⟩ | refine iteT ?_ | refine iteF ?_ | refine ⟨(by show (0 : Int) < _; omega), ?_⟩ | refine ⟨(⟨by omega, by omega⟩ : CDiv _ _), ?_⟩ | refine ⟨(⟨by decide, by decide, by decide⟩ : CPow _ _), ?_⟩ | refine ⟨(.inl ⟨by omega, by omega⟩ : CMul _ _), ?_⟩ | refine ⟨(.inr ⟨by omega, by omega⟩ : CMul _ _), ?_⟩ | refine Or.inl ⟨_, rfl, ?_⟩ | refine Or.inr ⟨_, rfl, ?_⟩ | refine ⟨_, _, _, _, true, rfl, .ty _, .base (.str _), kit_ty (by decide +kernel), ?_⟩ | refine ⟨_, _, rfl, ⟨by rw [sizeLine_eq]; omega, rfl⟩, ?_⟩ | refine ⟨_, _, rfl, .inl ⟨_, (by first | exact SqL.of (by assumption) | exact Scr.sq (by assumption)), rfl⟩, ?_⟩ | refine ⟨_, _, rfl, .inr ⟨_, SqT.of (by assumption), rfl⟩, ?_⟩ | refine ⟨_, _, _, _, rfl, rfl, SqL.of hp, rfl, ?_⟩))
            refine ite2 (fun hb2 => ?_) (fun hb2 => ?_)
            · (repeat (first | refine ⟨_, rfl, ?_⟩ | refine ⟨rfl, ?_⟩ | refine ⟨_, _, rfl, rfl, ?_⟩ | refine iteT ?_ | refine iteF ?_ | refine ⟨(by show (0 : Int) < _; omega), ?_⟩ | refine ⟨(⟨by omega, by omega⟩ : CDiv _ _), ?_⟩ | refine ⟨(⟨by decide, by decide, by decide⟩ : CPow _ _), ?_⟩ | refine ⟨(.inl ⟨by omega, by omega⟩ : CMul _ _), ?_⟩ | refine ⟨(.inr ⟨by omega, by omega⟩ : CMul _ _), ?_⟩ | refine Or.inl ⟨_, rfl, ?_⟩ | refine Or.inr ⟨_, rfl, ?_⟩ | refine ⟨_, _, _, _, true, rfl, .ty _, .base (.str _), kit_ty (by decide +kernel), ?_⟩ | refine ⟨_, _, rfl, ⟨by rw [sizeLine_eq]; omega, rfl⟩, ?_⟩ | refine ⟨_, _, rfl, .inl ⟨_, (by first | exact SqL.of (by assumption) | exact Scr.sq (by assumption)), rfl⟩, ?_⟩ | refine ⟨_, _, rfl, .inr ⟨_, SqT.of (by assumption), rfl⟩, ?_⟩ | refine ⟨_, _, _, _, rfl, rfl, SqL.of hp, rfl, ?_⟩))
              refine ⟨p, _, _, 1, rfl, rfl, hp, rfl, ?_⟩
              (repeat (first | refine ⟨_, rfl, ?_⟩ | refine ⟨rfl, ?_⟩ | refine ⟨_, _, rfl, rfl, ?_⟩ | refine iteT ?_ | refine iteF ?_ | refine ⟨(by show (0 : Int) < _; omega), ?_⟩ | refine ⟨(⟨by omega, by omega⟩ : CDiv _ _), ?_⟩ | refine ⟨(⟨by decide, by decide, by decide⟩ : CPow _ _), ?_⟩ | refine ⟨(.inl ⟨by omega, by omega⟩ : CMul _ _), ?_⟩ | refine ⟨(.inr ⟨by omega, by omega⟩ : CMul _ _), ?_⟩ | refine Or.inl ⟨_, rfl, ?_⟩ | refine Or.inr ⟨_, rfl, ?_⟩ | refine ⟨_, _, _, _, true, rfl, .ty _, .base (.str _), kit_ty (by decide +kernel), ?_⟩ | refine ⟨_, _, rfl, ⟨by rw [sizeLine_eq]; omega, rfl⟩, ?_⟩ | refine ⟨_, _, rfl, .inl ⟨_, (by first | exact SqL.of (by assumption) | exact Scr.sq (by assumption)), rfl⟩, ?_⟩ | refine ⟨_, _, rfl, .inr ⟨_, SqT.of (by assumption), rfl⟩, ?_⟩ | refine ⟨_, _, _, _, rfl, rfl, SqL.of hp, rfl, ?_⟩))
              exact ready (fun q o n e => by rw [upd_ne n]; exact fr3 q o n e) ⟨(i + 1), _, _, _, upd_same⟩ (Int.emod_nonneg _ (by omega)) (Int.emod_lt_of_pos _ (by omega))
            · (repeat (first | refine ⟨_, rfl, ?_⟩ | refine ⟨rfl, ?_⟩ | refine ⟨_, _, rfl, rfl, ?_⟩ | refine iteT ?_ | refine iteF ?_ | refine ⟨(by show (0 : Int) < _; omega), ?_⟩ | refine ⟨(⟨by omega, by omega⟩ : CDiv _ _), ?_⟩ | refine ⟨(⟨by decide, by decide, by decide⟩ : CPow _ _), ?_⟩ | refine ⟨(.inl ⟨by omega, by omega⟩ : CMul _ _), ?_⟩ | refine ⟨(.inr ⟨by omega, by omega⟩ : CMul _ _), ?_⟩ | refine Or.inl ⟨_, rfl, ?_⟩ | refine Or.inr ⟨_, rfl, ?_⟩ | refine ⟨_, _, _, _, true, rfl, .ty _, .base (.str _), kit_ty (by decide +kernel), ?_⟩ | refine ⟨_, _, rfl, ⟨by rw [sizeLine_eq]; omega, rfl⟩, ?_⟩ | refine ⟨_, _, rfl, .inl ⟨_, (by first | exact SqL.of (by assumption) | exact Scr.sq (by assumption)), rfl⟩, ?_⟩ | refine ⟨_, _, rfl, .inr ⟨_, SqT.of (by assumption), rfl⟩, ?_⟩ | refine ⟨_, _, _, _, rfl, rfl, SqL.of hp, rfl, ?_⟩))
              exact ready fr3 ⟨(i + 1), _, _, _, hp⟩ (Int.emod_nonneg _ (by omega)) (Int.emod_lt_of_pos _ (by omega))
        · (repeat (first | refine ⟨_, rfl, ?_⟩ | refine ⟨rfl, ?_⟩ | refine ⟨_, _, rfl, rfl, ?_⟩ | refine iteT ?_ | refine iteF ?_ | refine ⟨(by show (0 : Int) < _; omega), ?_⟩ | refine ⟨(⟨by omega, by omega⟩ : CDiv _ _), ?_⟩ | refine ⟨(⟨by decide, by decide, by decide⟩ : CPow _ _), ?_⟩ | refine ⟨(.inl ⟨by omega, by omega⟩ : CMul _ _), ?_⟩ | refine ⟨(.inr ⟨by omega, by omega⟩ : CMul _ _), ?_⟩ | refine Or.inl ⟨_, rfl, ?_⟩ | refine Or.inr ⟨_, rfl, ?_⟩ | refine ⟨_, _, _, _, true, rfl, .ty _, .base (.str _), kit_ty (by decide +kernel), ?_⟩ | refine ⟨_, _, rfl, ⟨by rw [sizeLine_eq]; omega, rfl⟩, ?_⟩ | refine ⟨_, _, rfl, .inl ⟨_, (by first | exact SqL.of (by assumption) | exact Scr.sq (by assumption)), rfl⟩, ?_⟩ | refine ⟨_, _, rfl, .inr ⟨_, SqT.of (by assumption), rfl⟩, ?_⟩ | refine ⟨_, _, _, _, rfl, rfl, SqL.of hp, rfl, ?_⟩))
          refine ite2 (fun hbig => ?_) (fun hbig => ?_)
          · (repeat (first | refine ⟨_, rfl, ?_⟩ | refine ⟨rfl, ?_⟩ | refine ⟨_, _, rfl, rfl, ?_⟩ | refine iteT ?_ | refine iteF ?_ | refine ⟨(by show (0 : Int) < _; omega), ?_⟩ | refine ⟨(⟨by omega, by omega⟩ : CDiv _ _), ?_⟩ | refine ⟨(⟨by decide, by decide, by decide⟩ : CPow _ _), ?_⟩ | refine ⟨(.inl ⟨by omega, by omega⟩ : CMul _ _), ?_⟩ | refine ⟨(.inr ⟨by omega, by omega⟩ : CMul _ _), ?_⟩ | refine Or.inl ⟨_, rfl, ?_⟩ | refine Or.inr ⟨_, rfl, ?_⟩ | refine ⟨_, _, _, _, true, rfl, .ty _, .base (.str _), kit_ty (by decide +kernel), ?_⟩ | refine ⟨_, _, rfl, ⟨by rw [sizeLine_eq]; omega, rfl⟩, ?_⟩ | refine ⟨_, _, rfl, .inl ⟨_, (by first | exact SqL.of (by assumption) | exact Scr.sq (by assumption)), rfl⟩, ?_⟩ | refine ⟨_, _, rfl, .inr ⟨_, SqT.of (by assumption), rfl⟩, ?_⟩ | refine ⟨_, _, _, _, rfl, rfl, SqL.of hp, rfl, ?_⟩))
            refine ⟨p, _, _, 1, rfl, rfl, hp, rfl, ?_⟩
            have hp3 := upd_same (H := G2) (a := p) (o := .lst ((([V.int i, .int b, .int c, .int sd].set 2 (.int (c + 1))).set 0 (.int ((i : Int) + 1))).set 1 (.int (ns.getD i 0))))
            have fr3 : ∀ q o, q ≠ p → H q = some o → upd G2 p (.lst ((([V.int i, .int b, .int c, .int sd].set 2 (.int (c + 1))).set 0 (.int ((i : Int) + 1))).set 1 (.int (ns.getD i 0)))) q = some o := fun q o n e => by rw [upd_ne n]; exact fr2 q o n e
            generalize hG3 : upd G2 p (.lst ((([V.int i, .int b, .int c, .int sd].set 2 (.int (c + 1))).set 0 (.int ((i : Int) + 1))).set 1 (.int (ns.getD i 0)))) = G3 at *
            have hp := hp3
            (repeat (first | refine ⟨_, rfl, ?_⟩ | refine ⟨rfl, ?_⟩ | refine ⟨_, _, rfl, rfl, ?_⟩ | refine iteT ?_ | refine iteF ?_ | refine ⟨(by show (0 : Int) < _; omega), ?_⟩ | refine ⟨(⟨by omega, by omega⟩ : CDiv _ _), ?_⟩ | refine ⟨(⟨by decide, by decide, by decide⟩ : CPow _ _), ?_⟩ | refine ⟨(.inl ⟨by omega, by omega⟩ : CMul _ _), ?_⟩ | refine ⟨(.inr ⟨by omega, by omega⟩ : CMul _ _), ?_⟩ | refine Or.inl ⟨_, rfl, ?_⟩ | refine Or.inr ⟨_, rfl, ?_⟩ | refine ⟨_, _, _, _, true, rfl, .ty _, .base (.str _), kit_ty (by decide +kernel), ?_⟩ | refine ⟨_, _, rfl, ⟨by rw [sizeLine_eq]; omega, rfl⟩, ?_⟩ | refine ⟨_, _, rfl, .inl ⟨_, (by first | exact SqL.of (by assumption) | exact Scr.sq (by assumption)), rfl⟩, ?_⟩ | refine ⟨_, _, rfl, .inr ⟨_, SqT.of (by assumption), rfl⟩, ?_⟩ | refine ⟨_, _, _, _, rfl, rfl, SqL.of hp, rfl, ?_⟩))
            refine ite2 (fun hb2 => ?_) (fun hb2 => ?_)
            · (repeat (first | refine ⟨_, rfl, ?_⟩ | refine ⟨rfl, ?_⟩ | refine ⟨_, _, rfl, rfl, ?_⟩ | refine iteT ?_ | refine iteF ?_ | refine ⟨(by show (0 : Int) < _; omega), ?_⟩ | refine ⟨(⟨by omega, by omega⟩ : CDiv _ _), ?_⟩ | refine ⟨(⟨by decide, by decide, by decide⟩ : CPow _ _), ?_⟩ | refine ⟨(.inl ⟨by omega, by omega⟩ : CMul _ _), ?_⟩ | refine ⟨(.inr ⟨by omega, by omega⟩ : CMul _ _), ?_⟩ | refine Or.inl ⟨_, rfl, ?_⟩ | refine Or.inr ⟨_, rfl, ?_⟩ | refine ⟨_, _, _, _, true, rfl, .ty _, .base (.str _), kit_ty (by decide +kernel), ?_⟩ | refine ⟨_, _, rfl, ⟨by rw [sizeLine_eq]; omega, rfl⟩, ?_⟩ | refine ⟨_, _, rfl, .inl ⟨_, (by first | exact SqL.of (by assumption) | exact Scr.sq (by assumption)), rfl⟩, ?_⟩ | refine ⟨_, _, rfl, .inr ⟨_, SqT.of (by assumption), rfl⟩, ?_⟩ | refine ⟨_, _, _, _, rfl, rfl, SqL.of hp, rfl, ?_⟩))
              refine ⟨p, _, _, 1, rfl, rfl, hp, rfl, ?_⟩
              (repeat (first | refine ⟨_, rfl, ?_⟩ | refine ⟨rfl, ?_⟩ | refine ⟨_, _, rfl, rfl, ?_⟩ | refine iteT ?_ | refine iteF ?_ | refine ⟨(by show (0 : Int) < _; omega), ?_⟩ | refine ⟨(⟨by omega, by omega⟩ : CDiv _ _), ?_⟩ | refine ⟨(⟨by decide, by decide, by decide⟩ : CPow _ _), ?_⟩ | refine ⟨(.inl ⟨by omega, by omega⟩ : CMul _ _), ?_⟩ | refine ⟨(.inr ⟨by omega, by omega⟩ : CMul _ _), ?_⟩ | refine Or.inl ⟨_, rfl, ?_⟩ | refine Or.inr ⟨_, rfl, ?_⟩ | refine ⟨_, _, _, _, true, rfl, .ty _, .base (.str _), kit_ty (by decide +kernel), ?_⟩ | refine ⟨_, _, rfl, ⟨by rw [sizeLine_eq]; omega, rfl⟩, ?_⟩ | refine ⟨_, _, rfl, .inl ⟨_, (by first | exact SqL.of (by assumption) | exact Scr.sq (by assumption)), rfl⟩, ?_⟩ | refine ⟨_, _, rfl, .inr ⟨_, SqT.of (by assumption), rfl⟩, ?_⟩ | refine ⟨_, _, _, _, rfl, rfl, SqL.of hp, rfl, ?_⟩))
              exact ready (fun q o n e => by rw [upd_ne n]; exact fr3 q o n e) ⟨(i + 1), _, _, _, upd_same⟩ (Int.emod_nonneg _ (by omega)) (Int.emod_lt_of_pos _ (by omega))
            · (repeat (first | refine ⟨_, rfl, ?_⟩ | refine ⟨rfl, ?_⟩ | refine ⟨_, _, rfl, rfl, ?_⟩ | refine iteT ?_ | refine iteF ?_ | refine ⟨(by show (0 : Int) < _; omega), ?_⟩ | refine ⟨(⟨by omega, by omega⟩ : CDiv _ _), ?_⟩ | refine ⟨(⟨by decide, by decide, by decide⟩ : CPow _ _), ?_⟩ | refine ⟨(.inl ⟨by omega, by omega⟩ : CMul _ _), ?_⟩ | refine ⟨(.inr ⟨by omega, by omega⟩ : CMul _ _), ?_⟩ | refine Or.inl ⟨_, rfl, ?_⟩ | refine Or.inr ⟨_, rfl, ?_⟩ | refine ⟨_, _, _, _, true, rfl, .ty _, .base (.str _), kit_ty (by decide +kernel), ?_⟩ | refine ⟨_, _, rfl, ⟨by rw [sizeLine_eq]; omega, rfl⟩, ?_⟩ | refine ⟨_, _, rfl, .inl ⟨_, (by first | exact SqL.of (by assumption) | exact Scr.sq (by assumption)), rfl⟩, ?_⟩ | refine ⟨_, _, rfl, .inr ⟨_, SqT.of (by assumption), rfl⟩, ?_⟩ | refine ⟨_, _, _, _, rfl, rfl, SqL.of hp, rfl, ?_⟩))
              exact ready fr3 ⟨(i + 1), _, _, _, hp⟩ (Int.emod_nonneg _ (by omega)) (Int.emod_lt_of_pos _ (by omega))
          · (repeat (first | refine ⟨_, rfl, ?_⟩ | refine ⟨rfl, ?_⟩ | refine ⟨_, _, rfl, rfl, ?_⟩ | refine iteT ?_ | refine iteF ?_ | refine ⟨(by show (0 : Int) < _; omega), ?_⟩ | refine ⟨(⟨by omega, by omega⟩ : CDiv _ _), ?_⟩ | refine ⟨(⟨by decide, by decide, by decide⟩ : CPow _ _), ?_⟩ | refine ⟨(.inl ⟨by omega, by omega⟩ : CMul _ _), ?_⟩ | refine ⟨(.inr ⟨by omega, by omega⟩ : CMul _ _), ?_⟩ | refine Or.inl ⟨_, rfl, ?_⟩ | refine Or.inr ⟨_, rfl, ?_⟩ | refine ⟨_, _, _, _, true, rfl, .ty _, .base (.str _), kit_ty (by decide +kernel), ?_⟩ | refine ⟨_, _, rfl, ⟨by rw [sizeLine_eq]; omega, rfl⟩, ?_⟩ | refine ⟨_, _, rfl, .inl ⟨_, (by first | exact SqL.of (by assumption) | exact Scr.sq (by assumption)), rfl⟩, ?_⟩ | refine ⟨_, _, rfl, .inr ⟨_, SqT.of (by assumption), rfl⟩, ?_⟩ | refine ⟨_, _, _, _, rfl, rfl, SqL.of hp, rfl, ?_⟩))
            refine ⟨p, _, _, 3, rfl, rfl, hp, rfl, ?_⟩
            have hp3 := upd_same (H := G2) (a := p) (o := .lst ((([V.int i, .int b, .int c, .int sd].set 2 (.int (c + 1))).set 0 (.int ((i : Int) + 1))).set 3 (.int ((sd * 31 + (ns.getD i 0) + 17) % 1000000007))))
            have fr3 : ∀ q o, q ≠ p → H q = some o → upd G2 p (.lst ((([V.int i, .int b, .int c, .int sd].set 2 (.int (c + 1))).set 0 (.int ((i : Int) + 1))).set 3 (.int ((sd * 31 + (ns.getD i 0) + 17) % 1000000007)))) q = some o := fun q o n e => by rw [upd_ne n]; exact fr2 q o n e
            generalize hG3 : upd G2 p (.lst ((([V.int i, .int b, .int c, .int sd].set 2 (.int (c + 1))).set 0 (.int ((i : Int) + 1))).set 3 (.int ((sd * 31 + (ns.getD i 0) + 17) % 1000000007)))) = G3 at *
            have hp := hp3
            (repeat (first | refine ⟨_, rfl, ?_⟩ | refine ⟨rfl, ?_⟩ | refine ⟨_, _, rfl, rfl, ?_⟩ | refine iteT ?_ | refine iteF ?_ | refine ⟨(by show (0 : Int) < _; omega), ?_⟩ | refine ⟨(⟨by omega, by omega⟩ : CDiv _ _), ?_⟩ | refine ⟨(⟨by decide, by decide, by decide⟩ : CPow _ _), ?_⟩ | refine ⟨(.inl ⟨by omega, by omega⟩ : CMul _ _), ?_⟩ | refine ⟨(.inr ⟨by omega, by omega⟩ : CMul _ _), ?_⟩ | refine Or.inl ⟨_, rfl, ?_⟩ | refine Or.inr ⟨_, rfl, ?_⟩ | refine ⟨_, _, _, _, true, rfl, .ty _, .base (.str _), kit_ty (by decide +kernel), ?_⟩ | refine ⟨_, _, rfl, ⟨by rw [sizeLine_eq]; omega, rfl⟩, ?_⟩ | refine ⟨_, _, rfl, .inl ⟨_, (by first | exact SqL.of (by assumption) | exact Scr.sq (by assumption)), rfl⟩, ?_⟩ | refine ⟨_, _, rfl, .inr ⟨_, SqT.of (by assumption), rfl⟩, ?_⟩ | refine ⟨_, _, _, _, rfl, rfl, SqL.of hp, rfl, ?_⟩))
            refine ite2 (fun hb2 => ?_) (fun hb2 => ?_)
            · (repeat (first | refine ⟨_, rfl, ?_⟩ | refine ⟨rfl, ?_⟩ | refine ⟨_, _, rfl, rfl, ?_⟩ | refine iteT ?_ | refine iteF ?_ | refine ⟨(by show (0 : Int) < _; omega), ?_⟩ | refine ⟨(⟨by omega, by omega⟩ : CDiv _ _), ?_⟩ | refine ⟨(⟨by decide, by decide, by decide⟩ : CPow _ _), ?_⟩ | refine ⟨(.inl ⟨by omega, by omega⟩ : CMul _ _), ?_⟩ | refine ⟨(.inr ⟨by omega, by omega⟩ : CMul _ _), ?_⟩ | refine Or.inl ⟨_, rfl, ?_⟩ | refine Or.inr ⟨_, rfl, ?_⟩ | refine ⟨_, _, _, _, true, rfl, .ty _, .base (.str _), kit_ty (by decide +kernel), ?_⟩ | refine ⟨_, _, rfl, ⟨by rw [sizeLine_eq]; omega, rfl⟩, ?_⟩ | refine ⟨_, _, rfl, .inl ⟨_, (by first | exact SqL.of (by assumption) | exact Scr.sq (by assumption)), rfl⟩, ?_⟩ | refine ⟨_, _, rfl, .inr ⟨_, SqT.of (by assumption), rfl⟩, ?_⟩ | refine ⟨_, _, _, _, rfl, rfl, SqL.of hp, rfl, ?_⟩))
              refine ⟨p, _, _, 1, rfl, rfl, hp, rfl, ?_⟩
              (repeat (first | refine ⟨_, rfl, ?_⟩ | refine ⟨rfl, ?_⟩ | refine ⟨_, _, rfl, rfl, ?_⟩ | refine iteT ?_ | refine iteF ?_ | refine ⟨(by show (0 : Int) < _; omega), ?_⟩ | refine ⟨(⟨by omega, by omega⟩ : CDiv _ _), ?_⟩ | refine ⟨(⟨by decide, by decide, by decide⟩ : CPow _ _), ?_⟩ | refine ⟨(.inl ⟨by omega, by omega⟩ : CMul _ _), ?_⟩ | refine ⟨(.inr ⟨by omega, by omega⟩ : CMul _ _), ?_⟩ | refine Or.inl ⟨_, rfl, ?_⟩ | refine Or.inr ⟨_, rfl, ?_⟩ | refine ⟨_, _, _, _, true, rfl, .ty _, .base (.str _), kit_ty (by decide +kernel), ?_⟩ | refine ⟨_, _, rfl, ⟨by rw [sizeLine_eq]; omega, rfl⟩, ?_⟩ | refine ⟨_, _, rfl, .inl ⟨_, (by first | exact SqL.of (by assumption) | exact Scr.sq (by assumption)), rfl⟩, ?_⟩ | refine ⟨_, _, rfl, .inr ⟨_, SqT.of (by assumption), rfl⟩, ?_⟩ | refine ⟨_, _, _, _, rfl, rfl, SqL.of hp, rfl, ?_⟩))
              exact ready (fun q o n e => by rw [upd_ne n]; exact fr3 q o n e) ⟨(i + 1), _, _, _, upd_same⟩ (Int.emod_nonneg _ (by omega)) (Int.emod_lt_of_pos _ (by omega))
            · (repeat (first | refine ⟨_, rfl, ?_⟩ | refine ⟨rfl, ?_⟩ | refine ⟨_, _, rfl, rfl, ?_⟩ | refine iteT ?_ | refine iteF ?_ | refine ⟨(by show (0 : Int) < _; omega), ?_⟩ | refine ⟨(⟨by omega, by omega⟩ : CDiv _ _), ?_⟩ | refine ⟨(⟨by decide, by decide, by decide⟩ : CPow _ _), ?_⟩ | refine ⟨(.inl ⟨by omega, by omega⟩ : CMul _ _), ?_⟩ | refine ⟨(.inr ⟨by omega, by omega⟩ : CMul _ _), ?_⟩ | refine Or.inl ⟨_, rfl, ?_⟩ | refine Or.inr ⟨_, rfl, ?_⟩ | refine ⟨_, _, _, _, true, rfl, .ty _, .base (.str _), kit_ty (by decide +kernel), ?_⟩ | refine ⟨_, _, rfl, ⟨by rw [sizeLine_eq]; omega, rfl⟩, ?_⟩ | refine ⟨_, _, rfl, .inl ⟨_, (by first | exact SqL.of (by assumption) | exact Scr.sq (by assumption)), rfl⟩, ?_⟩ | refine ⟨_, _, rfl, .inr ⟨_, SqT.of (by assumption), rfl⟩, ?_⟩ | refine ⟨_, _, _, _, rfl, rfl, SqL.of hp, rfl, ?_⟩))
              exact ready fr3 ⟨(i + 1), _, _, _, hp⟩ (Int.emod_nonneg _ (by omega)) (Int.emod_lt_of_pos _ (by omega))
      · rw [decide_eq_false hlen]
        (repeat (first | refine ⟨_, rfl, ?_⟩ | refine ⟨rfl, ?_⟩ | refine ⟨_, _, rfl, rfl, ?_⟩ | refine iteT ?_ | refine iteF ?_ | refine ⟨(by show (0 : Int) < _; omega), ?_⟩ | refine ⟨(⟨by omega, by omega⟩ : CDiv _ _), ?_⟩ | refine ⟨(⟨by decide, by decide, by decide⟩ : CPow _ _), ?_⟩ | refine ⟨(.inl ⟨by omega, by omega⟩ : CMul _ _), ?_⟩ | refine ⟨(.inr ⟨by omega, by omega⟩ : CMul _ _), ?_⟩ | refine Or.inl ⟨_, rfl, ?_⟩ | refine Or.inr ⟨_, rfl, ?_⟩ | refine ⟨_, _, _, _, true, rfl, .ty _, .base (.str _), kit_ty (by decide +kernel), ?_⟩ | refine ⟨_, _, rfl, ⟨by rw [sizeLine_eq]; omega, rfl⟩, ?_⟩ | refine ⟨_, _, rfl, .inl ⟨_, (by first | exact SqL.of (by assumption) | exact Scr.sq (by assumption)), rfl⟩, ?_⟩ | refine ⟨_, _, rfl, .inr ⟨_, SqT.of (by assumption), rfl⟩, ?_⟩ | refine ⟨_, _, _, _, rfl, rfl, SqL.of hp, rfl, ?_⟩))
        refine ite2 (fun hb2 => ?_) (fun hb2 => ?_)
        · (repeat (first | refine ⟨_, rfl, ?_⟩ | refine ⟨rfl, ?_⟩ | refine ⟨_, _, rfl, rfl, ?_⟩ | refine iteT ?_ | refine iteF ?_ | refine ⟨(by show (0 : Int) < _; omega), ?_⟩ | refine ⟨(⟨by omega, by omega⟩ : CDiv _ _), ?_⟩ | refine ⟨(⟨by decide, by decide, by decide⟩ : CPow _ _), ?_⟩ | refine ⟨(.inl ⟨by omega, by omega⟩ : CMul _ _), ?_⟩ | refine ⟨(.inr ⟨by omega, by omega⟩ : CMul _ _), ?_⟩ | refine Or.inl ⟨_, rfl, ?_⟩ | refine Or.inr ⟨_, rfl, ?_⟩ | refine ⟨_, _, _, _, true, rfl, .ty _, .base (.str _), kit_ty (by decide +kernel), ?_⟩ | refine ⟨_, _, rfl, ⟨by rw [sizeLine_eq]; omega, rfl⟩, ?_⟩ | refine ⟨_, _, rfl, .inl ⟨_, (by first | exact SqL.of (by assumption) | exact Scr.sq (by assumption)), rfl⟩, ?_⟩ | refine ⟨_, _, rfl, .inr ⟨_, SqT.of (by assumption), rfl⟩, ?_⟩ | refine ⟨_, _, _, _, rfl, rfl, SqL.of hp, rfl, ?_⟩))
          refine ⟨p, _, _, 1, rfl, rfl, hp, rfl, ?_⟩
          (repeat (first | refine ⟨_, rfl, ?_⟩ | refine ⟨rfl, ?_⟩ | refine ⟨_, _, rfl, rfl, ?_⟩ | refine iteT ?_ | refine iteF ?_ | refine ⟨(by show (0 : Int) < _; omega), ?_⟩ | refine ⟨(⟨by omega, by omega⟩ : CDiv _ _), ?_⟩ | refine ⟨(⟨by decide, by decide, by decide⟩ : CPow _ _), ?_⟩ | refine ⟨(.inl ⟨by omega, by omega⟩ : CMul _ _), ?_⟩ | refine ⟨(.inr ⟨by omega, by omega⟩ : CMul _ _), ?_⟩ | refine Or.inl ⟨_, rfl, ?_⟩ | refine Or.inr ⟨_, rfl, ?_⟩ | refine ⟨_, _, _, _, true, rfl, .ty _, .base (.str _), kit_ty (by decide +kernel), ?_⟩ | refine ⟨_, _, rfl, ⟨by rw [sizeLine_eq]; omega, rfl⟩, ?_⟩ | refine ⟨_, _, rfl, .inl ⟨_, (by first | exact SqL.of (by assumption) | exact Scr.sq (by assumption)), rfl⟩, ?_⟩ | refine ⟨_, _, rfl, .inr ⟨_, SqT.of (by assumption), rfl⟩, ?_⟩ | refine ⟨_, _, _, _, rfl, rfl, SqL.of hp, rfl, ?_⟩))
          exact ready (fun q o n e => by rw [upd_ne n]; exact fr1 q o n e) ⟨i, _, _, _, upd_same⟩ (Int.emod_nonneg _ (by omega)) (Int.emod_lt_of_pos _ (by omega))
        · (repeat (first | refine ⟨_, rfl, ?_⟩ | refine ⟨rfl, ?_⟩ | refine ⟨_, _, rfl, rfl, ?_⟩ | refine iteT ?_ | refine iteF ?_ | refine ⟨(by show (0 : Int) < _; omega), ?_⟩ | refine ⟨(⟨by omega, by omega⟩ : CDiv _ _), ?_⟩ | refine ⟨(⟨by decide, by decide, by decide⟩ : CPow _ _), ?_⟩ | refine ⟨(.inl ⟨by omega, by omega⟩ : CMul _ _), ?_⟩ | refine ⟨(.inr ⟨by omega, by omega⟩ : CMul _ _), ?_⟩ | refine Or.inl ⟨_, rfl, ?_⟩ | refine Or.inr ⟨_, rfl, ?_⟩ | refine ⟨_, _, _, _, true, rfl, .ty _, .base (.str _), kit_ty (by decide +kernel), ?_⟩ | refine ⟨_, _, rfl, ⟨by rw [sizeLine_eq]; omega, rfl⟩, ?_⟩ | refine ⟨_, _, rfl, .inl ⟨_, (by first | exact SqL.of (by assumption) | exact Scr.sq (by assumption)), rfl⟩, ?_⟩ | refine ⟨_, _, rfl, .inr ⟨_, SqT.of (by assumption), rfl⟩, ?_⟩ | refine ⟨_, _, _, _, rfl, rfl, SqL.of hp, rfl, ?_⟩))
          exact ready fr1 ⟨i, _, _, _, hp⟩ (Int.emod_nonneg _ (by omega)) (Int.emod_lt_of_pos _ (by omega))
    · rw [decide_eq_false (fun e => hb (V.int.inj e))]
      (repeat (first | refine ⟨_, rfl, ?_⟩ | refine ⟨rfl, ?_⟩ | refine ⟨_, _, rfl, rfl, ?_⟩ | refine iteT ?_ | refine iteF ?_ | refine ⟨(by show (0 : Int) < _; omega), ?_⟩ | refine ⟨(⟨by omega, by omega⟩ : CDiv _ _), ?_⟩ | refine ⟨(⟨by decide, by decide, by decide⟩ : CPow _ _), ?_⟩ | refine ⟨(.inl ⟨by omega, by omega⟩ : CMul _ _), ?_⟩ | refine ⟨(.inr ⟨by omega, by omega⟩ : CMul _ _), ?_⟩ | refine Or.inl ⟨_, rfl, ?_⟩ | refine Or.inr ⟨_, rfl, ?_⟩ | refine ⟨_, _, _, _, true, rfl, .ty _, .base (.str _), kit_ty (by decide +kernel), ?_⟩ | refine ⟨_, _, rfl, ⟨by rw [sizeLine_eq]; omega, rfl⟩, ?_⟩ | refine ⟨_, _, rfl, .inl ⟨_, (by first | exact SqL.of (by assumption) | exact Scr.sq (by assumption)), rfl⟩, ?_⟩ | refine ⟨_, _, rfl, .inr ⟨_, SqT.of (by assumption), rfl⟩, ?_⟩ | refine ⟨_, _, _, _, rfl, rfl, SqL.of hp, rfl, ?_⟩))
      refine ite2 (fun hb2 => ?_) (fun hb2 => ?_)
      · (repeat (first | refine ⟨_, rfl, ?_⟩ | refine ⟨rfl, ?_⟩ | refine ⟨_, _, rfl, rfl, ?_⟩ | refine iteT ?_ | refine iteF ?_ | refine ⟨(by show (0 : Int) < _; omega), ?_⟩ | refine ⟨(⟨by omega, by omega⟩ : CDiv _ _), ?_⟩ | refine ⟨(⟨by decide, by decide, by decide⟩ : CPow _ _), ?_⟩ | refine ⟨(.inl ⟨by omega, by omega⟩ : CMul _ _), ?_⟩ | refine ⟨(.inr ⟨by omega, by omega⟩ : CMul _ _), ?_⟩ | refine Or.inl ⟨_, rfl, ?_⟩ | refine Or.inr ⟨_, rfl, ?_⟩ | refine ⟨_, _, _, _, true, rfl, .ty _, .base (.str _), kit_ty (by decide +kernel), ?_⟩ | refine ⟨_, _, rfl, ⟨by rw [sizeLine_eq]; omega, rfl⟩, ?_⟩ | refine ⟨_, _, rfl, .inl ⟨_, (by first | exact SqL.of (by assumption) | exact Scr.sq (by assumption)), rfl⟩, ?_⟩ | refine ⟨_, _, rfl, .inr ⟨_, SqT.of (by assumption), rfl⟩, ?_⟩ | refine ⟨_, _, _, _, rfl, rfl, SqL.of hp, rfl, ?_⟩))
        refine ⟨p, _, _, 1, rfl, rfl, hp, rfl, ?_⟩
        (repeat (first | refine ⟨_, rfl, ?_⟩ | refine ⟨rfl, ?_⟩ | refine ⟨_, _, rfl, rfl, ?_⟩ | refine iteT ?_ | refine iteF ?_ | refine ⟨(by show (0 : Int) < _; omega), ?_⟩ | refine ⟨(⟨by omega, by omega⟩ : CDiv _ _), ?_⟩ | refine ⟨(⟨by decide, by decide, by decide⟩ : CPow _ _), ?_⟩ | refine ⟨(.inl ⟨by omega, by omega⟩ : CMul _ _), ?_⟩ | refine ⟨(.inr ⟨by omega, by omega⟩ : CMul _ _), ?_⟩ | refine Or.inl ⟨_, rfl, ?_⟩ | refine Or.inr ⟨_, rfl, ?_⟩ | refine ⟨_, _, _, _, true, rfl, .ty _, .base (.str _), kit_ty (by decide +kernel), ?_⟩ | refine ⟨_, _, rfl, ⟨by rw [sizeLine_eq]; omega, rfl⟩, ?_⟩ | refine ⟨_, _, rfl, .inl ⟨_, (by first | exact SqL.of (by assumption) | exact Scr.sq (by assumption)), rfl⟩, ?_⟩ | refine ⟨_, _, rfl, .inr ⟨_, SqT.of (by assumption), rfl⟩, ?_⟩ | refine ⟨_, _, _, _, rfl, rfl, SqL.of hp, rfl, ?_⟩))
        exact ready (fun q o n e => by rw [upd_ne n]; exact fr1 q o n e) ⟨i, _, _, _, upd_same⟩ (Int.emod_nonneg _ (by omega)) (Int.emod_lt_of_pos _ (by omega))
      · (repeat (first | refine ⟨_, rfl, ?_⟩ | refine ⟨rfl, ?_⟩ | refine ⟨_, _, rfl, rfl, ?_⟩ | refine iteT ?_ | refine iteF ?_ | refine ⟨(by show (0 : Int) < _; omega), ?_⟩ | refine ⟨(⟨by omega, by omega⟩ : CDiv _ _), ?_⟩ | refine ⟨(⟨by decide, by decide, by decide⟩ : CPow _ _), ?_⟩ | refine ⟨(.inl ⟨by omega, by omega⟩ : CMul _ _), ?_⟩ | refine ⟨(.inr ⟨by omega, by omega⟩ : CMul _ _), ?_⟩ | refine Or.inl ⟨_, rfl, ?_⟩ | refine Or.inr ⟨_, rfl, ?_⟩ | refine ⟨_, _, _, _, true, rfl, .ty _, .base (.str _), kit_ty (by decide +kernel), ?_⟩ | refine ⟨_, _, rfl, ⟨by rw [sizeLine_eq]; omega, rfl⟩, ?_⟩ | refine ⟨_, _, rfl, .inl ⟨_, (by first | exact SqL.of (by assumption) | exact Scr.sq (by assumption)), rfl⟩, ?_⟩ | refine ⟨_, _, rfl, .inr ⟨_, SqT.of (by assumption), rfl⟩, ?_⟩ | refine ⟨_, _, _, _, rfl, rfl, SqL.of hp, rfl, ?_⟩))
        exact ready fr1 ⟨i, _, _, _, hp⟩ (Int.emod_nonneg _ (by omega)) (Int.emod_lt_of_pos _ (by omega))
end
end BF25
set_option Elab.async false
set_option linter.all false
set_option maxRecDepth 100000
set_option maxHeartbeats 4000000
namespace BF25
open BF
open PySem PySem.Spec PyProof.Rows L2
open C8 (Cal CalAt Met Mak cal0 met0 mak0 fn0 pe_c pe_mk pe_mt pe_mt0 pe_gc fnScope fnBody fnArgs fnScope_by)
open SX
section
variable {P : Program} {w : World} {K : PySem.W.Frag} {mg : Str → Option Value} {base : Heap} {A : Ad}
theorem cal_law_shuffled (T : Txt K mg A) : Cal P w K mg base 2 "_law_shuffled" (spShuffledT K) [] := by
  refine cal0 T.d_law_shuffled T.b_law_shuffled .nil sc_law_shuffled (fun vs H Q E h => ?_) (fun cdv B outer s H vs Q E hr h => ?_)
  · obtain ⟨s, p, a, ns, xs, rfl, _⟩ := h
    rfl
  · obtain ⟨sc, wl, a, ns, xs, rfl, hs, hn, hw, ha, aw, hl, k⟩ := h
    refine ⟨_, (pss_cons (ps_set (i := 3) sc_law_shuffled.nd rfl (by first | exact Or.inl rfl | exact Or.inr rfl) (pe_callTy (listK K) (by rfl) T.z_list (by decide +kernel) (pa_cons (pv 2) pa_nil)))
 (pss_cons (ps_set (i := 4) sc_law_shuffled.nd rfl (by first | exact Or.inl rfl | exact Or.inr rfl) (pe_lst pa_nil))
 (pss_cons (ps_for PassesOwn.never rfl (pi_range1 (by rfl) T.z_range (pa_cons (pe_callB (lenK K) (by rfl) T.z_len (by decide +kernel) (pa_cons (pv 2) pa_nil)) pa_nil)) (pg_name (i := 5) sc_law_shuffled.nd rfl (by first | exact Or.inl rfl | exact Or.inr rfl)) (pss_one (ps_expr (pe_bm PySem.F.plainAttrs_list PySem.F.slot_list_append PySem.F.type_list_append mt_append (pv 4) (pa_cons (pe_bm PySem.F.plainAttrs_list PySem.F.slot_list_pop PySem.F.type_list_pop mt_popAt (pv 3) (pa_cons (pe_c (cal_law_take T) hr (by decide) rfl (pa_cons (pv 0) (pa_cons (pv 1) (pa_cons (pe_callB (lenK K) (by rfl) T.z_len (by decide +kernel) (pa_cons (pv 3) pa_nil)) pa_nil)))) pa_nil)) pa_nil)))))
 (pss_one (ps_ret (pv 4)))))), ?_⟩
    (repeat (first | refine ⟨_, rfl, ?_⟩ | refine ⟨rfl, ?_⟩ | refine ⟨_, _, rfl, rfl, ?_⟩ | refine iteT ?_ | refine iteF ?_ | refine ⟨(by show (0 : Int) < _; omega), ?_⟩ | refine ⟨(⟨by omega, by omega⟩ : CDiv _ _), ?_⟩ | refine ⟨(⟨by decide, by decide, by decide⟩ : CPow _ _), ?_⟩ | refine ⟨(.inl ⟨by omega, by omega⟩ : CMul _ _), ?_⟩ | refine ⟨(.inr ⟨by omega, by omega⟩ : CMul _ _), ?_⟩ | refine Or.inl ⟨_, rfl, ?_⟩ | refine Or.inr ⟨_, rfl, ?_⟩ | refine ⟨_, _, _, _, true, rfl, .ty _, .base (.str _), kit_ty (by decide +kernel), ?_⟩ | refine ⟨_, _, rfl, ⟨by rw [sizeLine_eq]; omega, rfl⟩, ?_⟩ | refine ⟨_, _, rfl, .inl ⟨_, SqL.of (by assumption), rfl⟩, ?_⟩ | refine ⟨_, _, rfl, .inr ⟨_, SqT.of (by assumption), rfl⟩, ?_⟩))
    refine ⟨a, xs, rfl, .inl (SqL.of ha), fun r nr => ?_⟩
    (repeat (first | refine ⟨_, rfl, ?_⟩ | refine ⟨rfl, ?_⟩ | refine ⟨_, _, rfl, rfl, ?_⟩ | refine iteT ?_ | refine iteF ?_ | refine ⟨(by show (0 : Int) < _; omega), ?_⟩ | refine ⟨(⟨by omega, by omega⟩ : CDiv _ _), ?_⟩ | refine ⟨(⟨by decide, by decide, by decide⟩ : CPow _ _), ?_⟩ | refine ⟨(.inl ⟨by omega, by omega⟩ : CMul _ _), ?_⟩ | refine ⟨(.inr ⟨by omega, by omega⟩ : CMul _ _), ?_⟩ | refine Or.inl ⟨_, rfl, ?_⟩ | refine Or.inr ⟨_, rfl, ?_⟩ | refine ⟨_, _, _, _, true, rfl, .ty _, .base (.str _), kit_ty (by decide +kernel), ?_⟩ | refine ⟨_, _, rfl, ⟨by rw [sizeLine_eq]; omega, rfl⟩, ?_⟩ | refine ⟨_, _, rfl, .inl ⟨_, SqL.of (by assumption), rfl⟩, ?_⟩ | refine ⟨_, _, rfl, .inr ⟨_, SqT.of (by assumption), rfl⟩, ?_⟩))
    refine ⟨Nat.zero_le _, fun f nf => ?_⟩
    have nfr : f ≠ r := fun e => by rw [e, upd_same] at nf; cases nf
    have nf' : H f = none := by rw [upd_ne nfr] at nf; exact nf
    have kp0 : KpP wl H (upd (upd H r (.lst xs)) f (.lst [])) := ((KpP.refl wl H).put hw nr).put hw nf'
    have ha1 := kp0.keep _ _ aw ha
    (repeat (first | refine ⟨_, rfl, ?_⟩ | refine ⟨rfl, ?_⟩ | refine ⟨_, _, rfl, rfl, ?_⟩ | refine iteT ?_ | refine iteF ?_ | refine ⟨(by show (0 : Int) < _; omega), ?_⟩ | refine ⟨(⟨by omega, by omega⟩ : CDiv _ _), ?_⟩ | refine ⟨(⟨by decide, by decide, by decide⟩ : CPow _ _), ?_⟩ | refine ⟨(.inl ⟨by omega, by omega⟩ : CMul _ _), ?_⟩ | refine ⟨(.inr ⟨by omega, by omega⟩ : CMul _ _), ?_⟩ | refine Or.inl ⟨_, rfl, ?_⟩ | refine Or.inr ⟨_, rfl, ?_⟩ | refine ⟨_, _, _, _, true, rfl, .ty _, .base (.str _), kit_ty (by decide +kernel), ?_⟩ | refine ⟨_, _, rfl, ⟨by rw [sizeLine_eq]; omega, rfl⟩, ?_⟩ | refine ⟨_, _, rfl, .inl ⟨_, SqL.of (by assumption), rfl⟩, ?_⟩ | refine ⟨_, _, rfl, .inr ⟨_, SqT.of (by assumption), rfl⟩, ?_⟩))
    refine ⟨by omega, by omega, for_it walk_range (fun i σ H' => ∃ (rs fs : List V) (v : Option V), σ = [some (.ref sc), some (.ref wl), some (.ref a), some (.ref r), some (.ref f), v] ∧ KpP wl H H' ∧ H' r = some (.lst rs) ∧ H' f = some (.lst fs) ∧ fs.length = i ∧ (fs ++ rs).Perm xs)
      ⟨xs, [], _, rfl, kp0, Eq.trans (upd_ne nfr.symm) upd_same, upd_same, rfl, List.Perm.refl _⟩ (fun _ _ _ _ _ => True.intro) ?_ ?_⟩
    · rintro i v σ H1 H2 hi ⟨rs, fs, v4, rfl, kp, hR, hF, hlen, pm⟩ ⟨rfl, rfl⟩
      have hrs : rs.length + i = xs.length := by
        have := pm.length_eq
        rw [List.length_append] at this
        omega
      refine ⟨_, rfl, .inl ⟨rfl, _, SqL.of hF⟩, _, rfl, .inl ⟨rfl, _, SqL.of hR⟩, ?_⟩
      (repeat (first | refine ⟨_, rfl, ?_⟩ | refine ⟨rfl, ?_⟩ | refine ⟨_, _, rfl, rfl, ?_⟩ | refine iteT ?_ | refine iteF ?_ | refine ⟨(by show (0 : Int) < _; omega), ?_⟩ | refine ⟨(⟨by omega, by omega⟩ : CDiv _ _), ?_⟩ | refine ⟨(⟨by decide, by decide, by decide⟩ : CPow _ _), ?_⟩ | refine ⟨(.inl ⟨by omega, by omega⟩ : CMul _ _), ?_⟩ | refine ⟨(.inr ⟨by omega, by omega⟩ : CMul _ _), ?_⟩ | refine Or.inl ⟨_, rfl, ?_⟩ | refine Or.inr ⟨_, rfl, ?_⟩ | refine ⟨_, _, _, _, true, rfl, .ty _, .base (.str _), kit_ty (by decide +kernel), ?_⟩ | refine ⟨_, _, rfl, ⟨by rw [sizeLine_eq]; omega, rfl⟩, ?_⟩ | refine ⟨_, _, rfl, .inl ⟨_, SqL.of (by assumption), rfl⟩, ?_⟩ | refine ⟨_, _, rfl, .inr ⟨_, SqT.of (by assumption), rfl⟩, ?_⟩))
      refine ⟨sc, wl, _, ns, rfl, (hs.kp kp), kp.pool hw, by omega, by omega, hn, fun n H3 h0 h1 kq => ?_⟩
      have hR3 : H3 r = some (.lst rs) := kq.keep _ _ (hw.ne nr) hR
      have hF3 : H3 f = some (.lst fs) := kq.keep _ _ (hw.ne nf') hF
      have hn : n.toNat < rs.length := by omega
      refine ⟨r, rs, n, n.toNat, rs[n.toNat], rfl, rfl, hR3, by omega, by omega, ?_, by simp, ?_⟩
      · exact seqIndex_of h0 h1
      refine ⟨f, fs, _, rfl, rfl, Eq.trans (upd_ne nfr) hF3, small1000 (by omega), ?_⟩
      refine ⟨rs.eraseIdx n.toNat, fs ++ [rs[n.toNat]], _, rfl, ((kp.trans kq).put hw nr).put hw nf', Eq.trans (upd_ne nfr.symm) upd_same, upd_same, by simp [hlen], ?_⟩
      refine List.Perm.trans ?_ pm
      rw [List.append_assoc]
      exact List.Perm.append_left _ (erase_perm hn)
    · rintro σ H1 ⟨rs, fs, v4, rfl, kp, hR, hF, hlen, pm⟩
      have : rs = [] := by
        have := pm.length_eq
        rw [List.length_append] at this
        exact List.length_eq_zero_iff.mp (by omega)
      subst this
      rw [List.append_nil] at pm
      exact ⟨_, rfl, k f fs H1 nf' kp hF pm⟩
end
end BF25
set_option Elab.async false
set_option linter.all false
set_option maxRecDepth 100000
set_option maxHeartbeats 4000000
namespace BF25
open BF
open PySem PySem.Spec PyProof.Rows L2
open C8 (Cal CalAt Met Mak cal0 met0 mak0 fn0 pe_c pe_mk pe_mt pe_mt0 pe_gc fnScope fnBody fnArgs fnScope_by)
open SX
section
variable {P : Program} {w : World} {K : PySem.W.Frag} {mg : Str → Option Value} {base : Heap} {A : Ad}
theorem nm_of {cs : List Nat} (h1 : 1 ≤ cs.length) (h2 : cs.length ≤ 8) (h3 : ∀ c ∈ cs, isLow c = true) : isNm (SX.S cs) = true := by
  have e : (SX.S cs).cps.toList = cs := rfl
  unfold isNm
  rw [SX.S_len, e]
  simp only [Bool.and_eq_true, decide_eq_true_eq, List.all_eq_true]
  exact ⟨⟨h1, h2⟩, h3⟩
theorem cal_law_some (T : Txt K mg A) : Cal P w K mg base 2 "_law_some" (spSomeT K) [] := by
  refine cal0 T.d_law_some T.b_law_some .nil sc_law_some (fun vs H Q E h => ?_) (fun cdv B outer s H vs Q E hr h => ?_)
  · obtain ⟨s, p, a, ns, xs, rfl, _⟩ := h
    rfl
  · obtain ⟨sc, wl, a, ns, xs, rfl, hs, hn, hw, ha, aw, hl, k⟩ := h
    refine ⟨_, (pss_cons (ps_set (i := 3) sc_law_some.nd rfl (by first | exact Or.inl rfl | exact Or.inr rfl) (pe_op op_add pe_int (pe_c (cal_law_take T) hr (by decide) rfl (pa_cons (pv 0) (pa_cons (pv 1) (pa_cons pe_int pa_nil))))))
 (pss_one (ps_ret (pe_lc (own := [("thing", 4)]) (g := gName 4) rfl sc_law_some.nd (pi_list (pv 2)) (blkOk_by (own := [("thing", 4)]) (N := N_law_some) (sc := fnScope s_law_some) (by decide +kernel)) (fun _ _ _ _ _ => (pg_name (i := 4) sc_law_some.nd rfl (by first | exact Or.inl rfl | exact Or.inr rfl))) (fun _ _ _ _ _ => (pts_one (pt_cmpR op_lt (pe_c (cal_law_take T) hr (by decide) rfl (pa_cons (pv 0) (pa_cons (pv 1) (pa_cons pe_int pa_nil)))) (pv 3) (nomark _)))) (fun _ _ _ _ _ => (pv 4)))))), ?_⟩
    (repeat (first | refine ⟨_, rfl, ?_⟩ | refine ⟨rfl, ?_⟩ | refine ⟨_, _, rfl, rfl, ?_⟩ | refine iteT ?_ | refine iteF ?_ | refine ⟨(by show (0 : Int) < _; omega), ?_⟩ | refine ⟨(⟨by omega, by omega⟩ : CDiv _ _), ?_⟩ | refine ⟨(⟨by decide, by decide, by decide⟩ : CPow _ _), ?_⟩ | refine ⟨(.inl ⟨by omega, by omega⟩ : CMul _ _), ?_⟩ | refine ⟨(.inr ⟨by omega, by omega⟩ : CMul _ _), ?_⟩ | refine Or.inl ⟨_, rfl, ?_⟩ | refine Or.inr ⟨_, rfl, ?_⟩ | refine ⟨_, _, _, _, true, rfl, .ty _, .base (.str _), kit_ty (by decide +kernel), ?_⟩ | refine ⟨_, _, rfl, ⟨by rw [sizeLine_eq]; omega, rfl⟩, ?_⟩ | refine ⟨_, _, rfl, .inl ⟨_, SqL.of (by assumption), rfl⟩, ?_⟩ | refine ⟨_, _, rfl, .inr ⟨_, SqT.of (by assumption), rfl⟩, ?_⟩))
    refine ⟨sc, wl, 4, ns, rfl, hs, hw, by omega, by omega, hn, fun n H1 h0 h1 k1 => ?_⟩
    (repeat (first | refine ⟨_, rfl, ?_⟩ | refine ⟨rfl, ?_⟩ | refine ⟨_, _, rfl, rfl, ?_⟩ | refine iteT ?_ | refine iteF ?_ | refine ⟨(by show (0 : Int) < _; omega), ?_⟩ | refine ⟨(⟨by omega, by omega⟩ : CDiv _ _), ?_⟩ | refine ⟨(⟨by decide, by decide, by decide⟩ : CPow _ _), ?_⟩ | refine ⟨(.inl ⟨by omega, by omega⟩ : CMul _ _), ?_⟩ | refine ⟨(.inr ⟨by omega, by omega⟩ : CMul _ _), ?_⟩ | refine Or.inl ⟨_, rfl, ?_⟩ | refine Or.inr ⟨_, rfl, ?_⟩ | refine ⟨_, _, _, _, true, rfl, .ty _, .base (.str _), kit_ty (by decide +kernel), ?_⟩ | refine ⟨_, _, rfl, ⟨by rw [sizeLine_eq]; omega, rfl⟩, ?_⟩ | refine ⟨_, _, rfl, .inl ⟨_, SqL.of (by assumption), rfl⟩, ?_⟩ | refine ⟨_, _, rfl, .inr ⟨_, SqT.of (by assumption), rfl⟩, ?_⟩))
    refine ⟨⟨_, SqL.of (k1.keep _ _ aw ha)⟩, fun D nD => ?_⟩
    have nD0 : H D = none := k1.free hw nD
    have aD : a ≠ D := fun e => by rw [← e, k1.keep _ _ aw ha] at nD; cases nD
    refine lc_it walk_list (fun i H' => ∃ ys, KpP wl H H' ∧ H' a = some (.lst xs) ∧ H' D = some (.lst ys) ∧ ys.length ≤ i ∧ ys.Sublist (xs.take i))
      ⟨[], k1.put hw nD0, Eq.trans (upd_ne aD) (k1.keep _ _ aw ha), upd_same, Nat.le_refl _, List.nil_sublist _⟩ (fun _ H' _ ⟨_, _, q, _⟩ => SqL.of q) ?_ ?_
    · rintro i v H2 H3 hi ⟨ys, k2, ha2, hD, hy, hsub⟩ ⟨rfl, hv⟩
      refine ⟨rfl, ?_⟩
      (repeat (first | refine ⟨_, rfl, ?_⟩ | refine ⟨rfl, ?_⟩ | refine ⟨_, _, rfl, rfl, ?_⟩ | refine iteT ?_ | refine iteF ?_ | refine ⟨(by show (0 : Int) < _; omega), ?_⟩ | refine ⟨(⟨by omega, by omega⟩ : CDiv _ _), ?_⟩ | refine ⟨(⟨by decide, by decide, by decide⟩ : CPow _ _), ?_⟩ | refine ⟨(.inl ⟨by omega, by omega⟩ : CMul _ _), ?_⟩ | refine ⟨(.inr ⟨by omega, by omega⟩ : CMul _ _), ?_⟩ | refine Or.inl ⟨_, rfl, ?_⟩ | refine Or.inr ⟨_, rfl, ?_⟩ | refine ⟨_, _, _, _, true, rfl, .ty _, .base (.str _), kit_ty (by decide +kernel), ?_⟩ | refine ⟨_, _, rfl, ⟨by rw [sizeLine_eq]; omega, rfl⟩, ?_⟩ | refine ⟨_, _, rfl, .inl ⟨_, SqL.of (by assumption), rfl⟩, ?_⟩ | refine ⟨_, _, rfl, .inr ⟨_, SqT.of (by assumption), rfl⟩, ?_⟩))
      refine ⟨sc, wl, 5, ns, rfl, (hs.kp k2), k2.pool hw, by omega, by omega, hn, fun m H4 g0 g1 k4 => ?_⟩
      have aw4 := k4.keep _ _ aw ha2
      have hD4 := k4.keep _ _ (hw.ne nD0) hD
      have e : xs.take (i + 1) = xs.take i ++ [v] := by rw [List.take_succ, hv]; rfl
      (repeat (first | refine ⟨_, rfl, ?_⟩ | refine ⟨rfl, ?_⟩ | refine ⟨_, _, rfl, rfl, ?_⟩ | refine iteT ?_ | refine iteF ?_ | refine ⟨(by show (0 : Int) < _; omega), ?_⟩ | refine ⟨(⟨by omega, by omega⟩ : CDiv _ _), ?_⟩ | refine ⟨(⟨by decide, by decide, by decide⟩ : CPow _ _), ?_⟩ | refine ⟨(.inl ⟨by omega, by omega⟩ : CMul _ _), ?_⟩ | refine ⟨(.inr ⟨by omega, by omega⟩ : CMul _ _), ?_⟩ | refine Or.inl ⟨_, rfl, ?_⟩ | refine Or.inr ⟨_, rfl, ?_⟩ | refine ⟨_, _, _, _, true, rfl, .ty _, .base (.str _), kit_ty (by decide +kernel), ?_⟩ | refine ⟨_, _, rfl, ⟨by rw [sizeLine_eq]; omega, rfl⟩, ?_⟩ | refine ⟨_, _, rfl, .inl ⟨_, SqL.of (by assumption), rfl⟩, ?_⟩ | refine ⟨_, _, rfl, .inr ⟨_, SqT.of (by assumption), rfl⟩, ?_⟩))
      refine ite2 (fun _ => ?_) (fun _ => ?_)
      · (repeat (first | refine ⟨_, rfl, ?_⟩ | refine ⟨rfl, ?_⟩ | refine ⟨_, _, rfl, rfl, ?_⟩ | refine iteT ?_ | refine iteF ?_ | refine ⟨(by show (0 : Int) < _; omega), ?_⟩ | refine ⟨(⟨by omega, by omega⟩ : CDiv _ _), ?_⟩ | refine ⟨(⟨by decide, by decide, by decide⟩ : CPow _ _), ?_⟩ | refine ⟨(.inl ⟨by omega, by omega⟩ : CMul _ _), ?_⟩ | refine ⟨(.inr ⟨by omega, by omega⟩ : CMul _ _), ?_⟩ | refine Or.inl ⟨_, rfl, ?_⟩ | refine Or.inr ⟨_, rfl, ?_⟩ | refine ⟨_, _, _, _, true, rfl, .ty _, .base (.str _), kit_ty (by decide +kernel), ?_⟩ | refine ⟨_, _, rfl, ⟨by rw [sizeLine_eq]; omega, rfl⟩, ?_⟩ | refine ⟨_, _, rfl, .inl ⟨_, SqL.of (by assumption), rfl⟩, ?_⟩ | refine ⟨_, _, rfl, .inr ⟨_, SqT.of (by assumption), rfl⟩, ?_⟩))
        refine ⟨_, hD4, small1000 (by omega), ys ++ [v], (k2.trans k4).put hw nD0, Eq.trans (upd_ne aD) aw4, upd_same, by simp; omega, ?_⟩
        rw [e]
        exact List.Sublist.append hsub (List.Sublist.refl _)
      · (repeat (first | refine ⟨_, rfl, ?_⟩ | refine ⟨rfl, ?_⟩ | refine ⟨_, _, rfl, rfl, ?_⟩ | refine iteT ?_ | refine iteF ?_ | refine ⟨(by show (0 : Int) < _; omega), ?_⟩ | refine ⟨(⟨by omega, by omega⟩ : CDiv _ _), ?_⟩ | refine ⟨(⟨by decide, by decide, by decide⟩ : CPow _ _), ?_⟩ | refine ⟨(.inl ⟨by omega, by omega⟩ : CMul _ _), ?_⟩ | refine ⟨(.inr ⟨by omega, by omega⟩ : CMul _ _), ?_⟩ | refine Or.inl ⟨_, rfl, ?_⟩ | refine Or.inr ⟨_, rfl, ?_⟩ | refine ⟨_, _, _, _, true, rfl, .ty _, .base (.str _), kit_ty (by decide +kernel), ?_⟩ | refine ⟨_, _, rfl, ⟨by rw [sizeLine_eq]; omega, rfl⟩, ?_⟩ | refine ⟨_, _, rfl, .inl ⟨_, SqL.of (by assumption), rfl⟩, ?_⟩ | refine ⟨_, _, rfl, .inr ⟨_, SqT.of (by assumption), rfl⟩, ?_⟩))
        exact ⟨ys, k2.trans k4, aw4, hD4, by omega, by rw [e]; exact hsub.trans (List.sublist_append_left _ _)⟩
    · rintro H2 ⟨ys, k2, ha2, hD, hy, hsub⟩
      rw [List.take_of_length_le (Nat.le_refl _)] at hsub
      exact k D ys H2 nD0 k2 hD hsub
theorem cal_law_names (T : Txt K mg A) : Cal P w K mg base 2 "_law_names" (spNamesT K) [] := by
  refine cal0 T.d_law_names T.b_law_names .nil sc_law_names (fun vs H Q E h => ?_) (fun cdv B outer s H vs Q E hr h => ?_)
  · obtain ⟨s, p, m, ns, rfl, _⟩ := h
    rfl
  · obtain ⟨sc, wl, m, ns, rfl, hs, hn, hw, h0, hm, k⟩ := h
    refine ⟨_, (pss_cons (ps_set (i := 3) sc_law_names.nd rfl (by first | exact Or.inl rfl | exact Or.inr rfl) pe_str)
 (pss_cons (ps_set (i := 4) sc_law_names.nd rfl (by first | exact Or.inl rfl | exact Or.inr rfl) (pe_lst pa_nil))
 (pss_cons (ps_for PassesOwn.never rfl (pi_range1 (by rfl) T.z_range (pa_cons (pv 2) pa_nil)) (pg_name (i := 5) sc_law_names.nd rfl (by first | exact Or.inl rfl | exact Or.inr rfl)) (pss_cons (ps_set (i := 6) sc_law_names.nd rfl (by first | exact Or.inl rfl | exact Or.inr rfl) (pe_ix (ixLK K) (pe_lst (pa_cons pe_int (pa_cons pe_int (pa_cons pe_int (pa_cons pe_int pa_nil))))) (pe_c (cal_law_take T) hr (by decide) rfl (pa_cons (pv 0) (pa_cons (pv 1) (pa_cons pe_int pa_nil)))) (fun _ _ => rfl)))
 (pss_cons (ps_set (i := 7) sc_law_names.nd rfl (by first | exact Or.inl rfl | exact Or.inr rfl) (pe_join pe_str (pe_lc (own := [("j", 9)]) (g := gName 9) rfl sc_law_names.nd (pi_range1 (by rfl) T.z_range (pa_cons (pv 6) pa_nil)) (blkOk_by (own := [("j", 9)]) (N := N_law_names) (sc := fnScope s_law_names) (by decide +kernel)) (fun _ _ _ _ _ => (pg_name (i := 9) sc_law_names.nd rfl (by first | exact Or.inl rfl | exact Or.inr rfl))) (fun _ _ _ _ _ => pts_nil) (fun _ _ _ _ _ => (pe_ix ix_str (pv 3) (pe_c (cal_law_take T) hr (by decide) rfl (pa_cons (pv 0) (pa_cons (pv 1) (pa_cons pe_int pa_nil)))) (fun _ _ => rfl))))))
 (pss_cons (ps_for PassesOwn.never rfl (pi_str (pv 3)) (pg_name (i := 8) sc_law_names.nd rfl (by first | exact Or.inl rfl | exact Or.inr rfl)) (pss_one (ps_if (PW.pt (pw_and (pt_cmpR (in_seqK K) (pv 7) (pv 4) rfl) (pw_and1 (pt_cmpR (notIn_seqK K) (pv 8) (pv 4) rfl)))) (pss_one (ps_set (i := 7) sc_law_names.nd rfl (by first | exact Or.inl rfl | exact Or.inr rfl) (pv 8))) pss_nil)))
 (pss_one (ps_expr (pe_bm PySem.F.plainAttrs_list PySem.F.slot_list_append PySem.F.type_list_append mt_append (pv 4) (pa_cons (pv 7) pa_nil))))))))
 (pss_one (ps_ret (pv 4)))))), ?_⟩
    (repeat (first | refine ⟨_, rfl, ?_⟩ | refine ⟨rfl, ?_⟩ | refine ⟨_, _, rfl, rfl, ?_⟩ | refine iteT ?_ | refine iteF ?_ | refine ⟨(by show (0 : Int) < _; omega), ?_⟩ | refine ⟨(⟨by omega, by omega⟩ : CDiv _ _), ?_⟩ | refine ⟨(⟨by decide, by decide, by decide⟩ : CPow _ _), ?_⟩ | refine ⟨(.inl ⟨by omega, by omega⟩ : CMul _ _), ?_⟩ | refine ⟨(.inr ⟨by omega, by omega⟩ : CMul _ _), ?_⟩ | refine Or.inl ⟨_, rfl, ?_⟩ | refine Or.inr ⟨_, rfl, ?_⟩ | refine ⟨_, _, _, _, true, rfl, .ty _, .base (.str _), kit_ty (by decide +kernel), ?_⟩ | refine ⟨_, _, rfl, ⟨by rw [sizeLine_eq]; omega, rfl⟩, ?_⟩ | refine ⟨_, _, rfl, .inl ⟨_, SqL.of (by assumption), rfl⟩, ?_⟩ | refine ⟨_, _, rfl, .inr ⟨_, SqT.of (by assumption), rfl⟩, ?_⟩))
    refine ⟨Nat.zero_le _, fun f nf => ?_⟩
    have kp0 : KpP wl H (upd H f (.lst [])) := (KpP.refl wl H).put hw nf
    (repeat (first | refine ⟨_, rfl, ?_⟩ | refine ⟨rfl, ?_⟩ | refine ⟨_, _, rfl, rfl, ?_⟩ | refine iteT ?_ | refine iteF ?_ | refine ⟨(by show (0 : Int) < _; omega), ?_⟩ | refine ⟨(⟨by omega, by omega⟩ : CDiv _ _), ?_⟩ | refine ⟨(⟨by decide, by decide, by decide⟩ : CPow _ _), ?_⟩ | refine ⟨(.inl ⟨by omega, by omega⟩ : CMul _ _), ?_⟩ | refine ⟨(.inr ⟨by omega, by omega⟩ : CMul _ _), ?_⟩ | refine Or.inl ⟨_, rfl, ?_⟩ | refine Or.inr ⟨_, rfl, ?_⟩ | refine ⟨_, _, _, _, true, rfl, .ty _, .base (.str _), kit_ty (by decide +kernel), ?_⟩ | refine ⟨_, _, rfl, ⟨by rw [sizeLine_eq]; omega, rfl⟩, ?_⟩ | refine ⟨_, _, rfl, .inl ⟨_, SqL.of (by assumption), rfl⟩, ?_⟩ | refine ⟨_, _, rfl, .inr ⟨_, SqT.of (by assumption), rfl⟩, ?_⟩))
    refine ⟨by omega, by omega, for_it walk_range (fun i σ H' => ∃ (xs : List Str) (v5 v6 v7 v8 v9 : Option V), σ = [some (.ref sc), some (.ref wl), some (.int m), some (.str letters), some (.ref f), v5, v6, v7, v8, v9] ∧ KpP wl H H' ∧ H' f = some (.lst (xs.map V.str)) ∧ xs.length = i ∧ (∀ x ∈ xs, isNm x = true) ∧ (xs.length ≤ 26 → xs.Nodup))
      ⟨[], _, _, _, _, _, rfl, kp0, upd_same, rfl, (fun x hx => by cases hx), fun _ => List.nodup_nil⟩ (fun _ _ _ _ _ => True.intro) ?_ ?_⟩
    · rintro i v σ H1 H2 hi ⟨xs, v5, v6, v7, v8, v9, rfl, kp, hF, hlen, hsh, hnd⟩ ⟨rfl, rfl⟩
      refine g_name ?_
      try dsimp only
      refine seq_asg ?_
      refine ⟨(by show 4 ≤ sizeLine; rw [sizeLine_eq]; omega), fun z nz => ?_⟩
      have nz0 : H z = none := kp.free hw nz
      have kz : KpP wl H (upd H2 z (.lst [V.int 1, V.int 1, V.int 2, V.int 8])) := kp.put hw nz0
      have zf : z ≠ f := fun e => by rw [e, hF] at nz; cases nz
      have hFz : upd H2 z (.lst [V.int 1, V.int 1, V.int 2, V.int 8]) f = some (.lst (xs.map V.str)) := by rw [upd_ne zf.symm]; exact hF
      have fw := hw.ne nf
      refine ⟨_, rfl, _, rfl, sc, wl, 4, ns, rfl, (hs.kp kz), kz.pool hw, by omega, by omega, hn, fun n1 H3 a1 b1 k1 => ?_⟩
      obtain ⟨sz, hsz, g1, g2⟩ : ∃ sz : Int, atI [V.int 1, V.int 1, V.int 2, V.int 8] n1 = some (V.int sz) ∧ 1 ≤ sz ∧ sz ≤ 8 := by
        have : n1 = 0 ∨ n1 = 1 ∨ n1 = 2 ∨ n1 = 3 := by omega
        rcases this with rfl | rfl | rfl | rfl
        all_goals exact ⟨_, rfl, by omega, by omega⟩
      have kp3 := kz.trans k1
      have hF3 := k1.keep _ _ fw hFz
      refine ⟨z, _, n1, _, rfl, rfl, SqL.of (k1.keep _ _ (hw.ne nz0) upd_same), hsz, ?_⟩
      refine g_name ?_
      try dsimp only
      refine seq_asg ?_
      refine ⟨⟨_, rfl⟩, _, rfl, _, rfl, by omega, by omega, fun D nD => ?_⟩
      have nD0 : H D = none := kp3.free hw nD
      have nfD : f ≠ D := ne_of_none hF3 nD
      refine lc_it walk_range (fun i H' => ∃ cs : List Nat, KpP wl H H' ∧ H' f = some (.lst (xs.map V.str)) ∧ H' D = some (.lst (((cs.map fun c => [c]).map S).map V.str)) ∧ cs.length = i ∧ ∀ c ∈ cs, isLow c = true)
        ⟨[], kp3.put hw nD0, Eq.trans (upd_ne nfD) hF3, upd_same, rfl, fun c hc => by cases hc⟩ (fun _ _ _ _ => True.intro) ?_ ?_
      · rintro j v H5 H6 hj ⟨cs, kp5, hF5, hD5, hcl, hlow⟩ ⟨rfl, rfl⟩
        refine ⟨rfl, ?_⟩
        (repeat (first | refine ⟨_, rfl, ?_⟩ | refine ⟨rfl, ?_⟩ | refine ⟨_, _, rfl, rfl, ?_⟩ | refine iteT ?_ | refine iteF ?_ | refine ⟨(by show (0 : Int) < _; omega), ?_⟩ | refine ⟨(⟨by omega, by omega⟩ : CDiv _ _), ?_⟩ | refine ⟨(⟨by decide, by decide, by decide⟩ : CPow _ _), ?_⟩ | refine ⟨(.inl ⟨by omega, by omega⟩ : CMul _ _), ?_⟩ | refine ⟨(.inr ⟨by omega, by omega⟩ : CMul _ _), ?_⟩ | refine Or.inl ⟨_, rfl, ?_⟩ | refine Or.inr ⟨_, rfl, ?_⟩ | refine ⟨_, _, _, _, true, rfl, .ty _, .base (.str _), kit_ty (by decide +kernel), ?_⟩ | refine ⟨_, _, rfl, ⟨by rw [sizeLine_eq]; omega, rfl⟩, ?_⟩ | refine ⟨_, _, rfl, .inl ⟨_, SqL.of (by assumption), rfl⟩, ?_⟩ | refine ⟨_, _, rfl, .inr ⟨_, SqT.of (by assumption), rfl⟩, ?_⟩))
        refine ⟨sc, wl, 26, ns, rfl, (hs.kp kp5), kp5.pool hw, by omega, by omega, hn, fun n H7 c0 c1 k7 => ?_⟩
        have nDw := hw.ne nD0
        have hnl : n.toNat < letters.cps.toList.length := by
          rw [letters_list, List.length_range']
          omega
        refine ⟨letters, n, letters.cps.toList[n.toNat], rfl, rfl, by rw [letters_len, sizeLine_eq]; omega, atN_of c0 hnl, ?_⟩
        refine ⟨_, k7.keep _ _ nDw hD5, small1000 (by simp only [List.length_map]; omega), cs ++ [letters.cps.toList[n.toNat]], (kp5.trans k7).put hw nD0, Eq.trans (upd_ne nfD) (k7.keep _ _ fw hF5), ?_, by simp [hcl], ?_⟩
        · rw [upd_same]
          simp
        · intro d hd
          rcases List.mem_append.mp hd with hd | hd
          · exact hlow d hd
          · rw [List.mem_singleton.mp hd]
            exact (letters_mem _).mp (List.getElem_mem hnl)
      · rintro H5 ⟨cs, kp5, hF5, hD5, hcl, hlow⟩
        have hcs : 1 ≤ cs.length ∧ cs.length ≤ 8 := by omega
        refine ⟨_, D, (cs.map fun c => [c]).map S, rfl, rfl, .inl (SqL.of hD5), ?_, ?_⟩
        · rw [bf_sum, List.length_map, List.length_map, show (Str.ofString "").length = 0 by decide +kernel]
          omega
        rw [bf_join]
        refine g_name ?_
        try dsimp only
        have hsc : isNm (S cs) = true := nm_of hcs.1 hcs.2 hlow
        (repeat (first | refine ⟨_, rfl, ?_⟩ | refine ⟨rfl, ?_⟩ | refine ⟨_, _, rfl, rfl, ?_⟩ | refine iteT ?_ | refine iteF ?_ | refine ⟨(by show (0 : Int) < _; omega), ?_⟩ | refine ⟨(⟨by omega, by omega⟩ : CDiv _ _), ?_⟩ | refine ⟨(⟨by decide, by decide, by decide⟩ : CPow _ _), ?_⟩ | refine ⟨(.inl ⟨by omega, by omega⟩ : CMul _ _), ?_⟩ | refine ⟨(.inr ⟨by omega, by omega⟩ : CMul _ _), ?_⟩ | refine Or.inl ⟨_, rfl, ?_⟩ | refine Or.inr ⟨_, rfl, ?_⟩ | refine ⟨_, _, _, _, true, rfl, .ty _, .base (.str _), kit_ty (by decide +kernel), ?_⟩ | refine ⟨_, _, rfl, ⟨by rw [sizeLine_eq]; omega, rfl⟩, ?_⟩ | refine ⟨_, _, rfl, .inl ⟨_, SqL.of (by assumption), rfl⟩, ?_⟩ | refine ⟨_, _, rfl, .inr ⟨_, SqT.of (by assumption), rfl⟩, ?_⟩))
        refine for_it walk_str (fun j σ H' => ∃ (x : Str) (v8 : Option V), σ = [some (.ref sc), some (.ref wl), some (.int m), some (.str letters), some (.ref f), some (.int (0 + (i : Nat))), some (.int sz), some (.str x), v8, v9] ∧ H' = H5 ∧ isNm x = true ∧ (x ∈ xs → ∀ c ∈ letters.cps.toList.take j, S [c] ∈ xs)) ⟨S cs, _, rfl, rfl, hsc, fun _ c hc => by cases hc⟩ (fun _ _ _ _ _ => True.intro) ?_ ?_
        · rintro j v σ H6 H7 hj ⟨x, v8', rfl, rfl, hx, hq⟩ ⟨rfl, c, hc, rfl⟩
          have hct : letters.cps.toList[j]? = some c := by simpa using hc
          have hlc : isLow c = true := (letters_mem c).mp (by
            have e : letters.cps.toList[j]? = some c := by simpa using hc
            exact List.mem_of_getElem? e)
          have hs1 : isNm (S [c]) = true := nm_of (Nat.le_refl 1) (by show 1 ≤ 8; omega) (fun d hd => by rw [List.mem_singleton.mp hd]; exact hlc)
          refine ⟨_, rfl, _, rfl, f, _, rfl, .inl (SqL.of hF5), rfl, flat_strs xs, _, rfl, ite2 (fun q1 => ?_) (fun q1 => ?_)⟩
          · rw [if_neg (by decide), inV_strs] at q1
            refine ⟨_, rfl, _, rfl, f, _, rfl, .inl (SqL.of hF5), rfl, flat_strs xs, _, rfl, ite2 (fun q2 => ?_) (fun q2 => ?_)⟩
            · rw [if_pos rfl, show ((⟨#[c]⟩ : Str)) = S [c] from rfl, inV_strs] at q2
              exact ⟨_, rfl, S [c], _, rfl, rfl, hs1, fun z => absurd z (by simpa using q2)⟩
            · rw [if_pos rfl, show ((⟨#[c]⟩ : Str)) = S [c] from rfl, inV_strs] at q2
              refine ⟨x, _, rfl, rfl, hx, fun z d hd => ?_⟩
              rw [List.take_succ, hct] at hd
              rcases List.mem_append.mp hd with hd | hd
              · exact hq z d hd
              · have ed : d = c := by simpa using hd
                rw [ed]
                simpa using q2
          · rw [if_neg (by decide), inV_strs] at q1
            exact iteF ⟨x, _, rfl, rfl, hx, fun z => absurd z (by simpa using q1)⟩
        · rintro σ H6 ⟨x, v8', rfl, rfl, hx, hq⟩
          refine ⟨_, rfl, .inl ⟨rfl, _, SqL.of hF5⟩, _, rfl, f, _, _, rfl, rfl, hF5, small1000 (by simp; omega), xs ++ [x], _, _, _, _, _, rfl, kp5.put hw nf, by rw [upd_same]; simp, by simp [hlen], ?_, fun l26 => ?_⟩
          · intro y hy
            rcases List.mem_append.mp hy with hy | hy
            · exact hsh y hy
            · rw [List.mem_singleton.mp hy]
              exact hx
          · rw [List.length_append, List.length_singleton] at l26
            refine List.nodup_append.mpr ⟨hnd (by omega), by simp, fun a ha b hb e => ?_⟩
            rw [List.mem_singleton.mp hb] at e
            rw [e] at ha
            have q := hq ha
            have l0 : letters.cps.toList.length = 26 := by rw [letters_list, List.length_range']
            have q2 := nd_sub (l := letters.cps.toList.map fun c => S [c]) (xs := xs) ?_ (fun y hy => ?_)
            · rw [List.length_map, l0] at q2
              omega
            · rw [letters_list]
              refine List.pairwise_map.mpr (List.Pairwise.imp (fun {a b} ne e => ne ?_) (List.nodup_range' (s := 97) (n := 26) (step := 1)))
              have := congrArg (fun x : Str => x.cps.toList) e
              simpa [S] using this
            · obtain ⟨c, hc, rfl⟩ := List.mem_map.mp hy
              refine q c ?_
              rw [List.take_of_length_le (by first | exact Nat.le_refl _ | simp)]
              exact hc
    · rintro σ H1 ⟨xs, v5, v6, v7, v8, v9, rfl, kp, hF, hlen, hsh, hnd⟩
      exact ⟨_, rfl, k f xs H1 nf kp hF (by omega) hsh hnd⟩
end
end BF25
set_option Elab.async false
set_option linter.all false
set_option maxRecDepth 100000
set_option maxHeartbeats 4000000
namespace BF25
open BF
open PySem PySem.Spec PyProof.Rows L2
open C8 (Cal CalAt Met Mak cal0 met0 mak0 fn0 pe_c pe_mk pe_mt pe_mt0 pe_gc fnScope fnBody fnArgs fnScope_by)
open SX
section
variable {P : Program} {w : World} {K : PySem.W.Frag} {mg : Str → Option Value} {base : Heap} {A : Ad}
theorem cal_law_is_name (T : Txt K mg A) : Cal P w K mg base 1 "_law_is_name" spIsName [] := by
  refine cal0 T.d_law_is_name T.b_law_is_name .nil sc_law_is_name (fun vs H Q E h => ?_) (fun cdv B outer s H vs Q E hr h => ?_)
  · obtain ⟨c, rfl, _⟩ := h
    rfl
  · obtain ⟨x, rfl, hx, k⟩ := h
    refine ⟨_, (pss_cons (ps_if (pt_not (pt_chain op_le op_le pe_int (pe_callB (lenK K) (by rfl) T.z_len (by decide +kernel) (pa_cons (pv 0) pa_nil)) pe_int)) (pss_one (ps_ret pe_bl)) pss_nil)
 (pss_one (ps_ret (pe_callB (allK K rfl) (by rfl) T.z_all (by decide +kernel) (pa_cons (pe_lc (own := [("letter", 1)]) (g := gName 1) rfl sc_law_is_name.nd (pi_str (pv 0)) (blkOk_by (own := [("letter", 1)]) (N := N_law_is_name) (sc := fnScope s_law_is_name) (by decide +kernel)) (fun _ _ _ _ _ => (pg_name (i := 1) sc_law_is_name.nd rfl (by first | exact Or.inl rfl | exact Or.inr rfl))) (fun _ _ _ _ _ => pts_nil) (fun _ _ _ _ _ => (pe_cmpR op_in_sign (pv 1) pe_str rfl))) pa_nil))))), ?_⟩
    have hz : x.cps.size ≤ 1000 := hx
    (repeat (first | refine ⟨_, rfl, ?_⟩ | refine ⟨rfl, ?_⟩ | refine ⟨_, _, rfl, rfl, ?_⟩ | refine iteT ?_ | refine iteF ?_ | refine ⟨(by show (0 : Int) < _; omega), ?_⟩ | refine ⟨(⟨by omega, by omega⟩ : CDiv _ _), ?_⟩ | refine ⟨(⟨by decide, by decide, by decide⟩ : CPow _ _), ?_⟩ | refine ⟨(.inl ⟨by omega, by omega⟩ : CMul _ _), ?_⟩ | refine ⟨(.inr ⟨by omega, by omega⟩ : CMul _ _), ?_⟩ | refine Or.inl ⟨_, rfl, ?_⟩ | refine Or.inr ⟨_, rfl, ?_⟩ | refine ⟨_, _, _, _, true, rfl, .ty _, .base (.str _), kit_ty (by decide +kernel), ?_⟩ | refine ⟨_, _, rfl, ⟨by rw [sizeLine_eq]; omega, rfl⟩, ?_⟩ | refine ⟨_, _, rfl, .inl ⟨_, SqL.of (by assumption), rfl⟩, ?_⟩ | refine ⟨_, _, rfl, .inr ⟨_, SqT.of (by assumption), rfl⟩, ?_⟩))
    refine ite2 (fun h1 => ?_) (fun h1 => ?_)
    · (repeat (first | refine ⟨_, rfl, ?_⟩ | refine ⟨rfl, ?_⟩ | refine ⟨_, _, rfl, rfl, ?_⟩ | refine iteT ?_ | refine iteF ?_ | refine ⟨(by show (0 : Int) < _; omega), ?_⟩ | refine ⟨(⟨by omega, by omega⟩ : CDiv _ _), ?_⟩ | refine ⟨(⟨by decide, by decide, by decide⟩ : CPow _ _), ?_⟩ | refine ⟨(.inl ⟨by omega, by omega⟩ : CMul _ _), ?_⟩ | refine ⟨(.inr ⟨by omega, by omega⟩ : CMul _ _), ?_⟩ | refine Or.inl ⟨_, rfl, ?_⟩ | refine Or.inr ⟨_, rfl, ?_⟩ | refine ⟨_, _, _, _, true, rfl, .ty _, .base (.str _), kit_ty (by decide +kernel), ?_⟩ | refine ⟨_, _, rfl, ⟨by rw [sizeLine_eq]; omega, rfl⟩, ?_⟩ | refine ⟨_, _, rfl, .inl ⟨_, SqL.of (by assumption), rfl⟩, ?_⟩ | refine ⟨_, _, rfl, .inr ⟨_, SqT.of (by assumption), rfl⟩, ?_⟩))
      by_cases h2 : (x.length : Int) ≤ 8
      · rw [decide_eq_true h2]
        (repeat (first | refine ⟨_, rfl, ?_⟩ | refine ⟨rfl, ?_⟩ | refine ⟨_, _, rfl, rfl, ?_⟩ | refine iteT ?_ | refine iteF ?_ | refine ⟨(by show (0 : Int) < _; omega), ?_⟩ | refine ⟨(⟨by omega, by omega⟩ : CDiv _ _), ?_⟩ | refine ⟨(⟨by decide, by decide, by decide⟩ : CPow _ _), ?_⟩ | refine ⟨(.inl ⟨by omega, by omega⟩ : CMul _ _), ?_⟩ | refine ⟨(.inr ⟨by omega, by omega⟩ : CMul _ _), ?_⟩ | refine Or.inl ⟨_, rfl, ?_⟩ | refine Or.inr ⟨_, rfl, ?_⟩ | refine ⟨_, _, _, _, true, rfl, .ty _, .base (.str _), kit_ty (by decide +kernel), ?_⟩ | refine ⟨_, _, rfl, ⟨by rw [sizeLine_eq]; omega, rfl⟩, ?_⟩ | refine ⟨_, _, rfl, .inl ⟨_, SqL.of (by assumption), rfl⟩, ?_⟩ | refine ⟨_, _, rfl, .inr ⟨_, SqT.of (by assumption), rfl⟩, ?_⟩))
        intro D nD
        refine lc_it walk_str (fun i H' => Same H H' ∧ H' D = some (.lst (((x.cps.toList.take i).map isLow).map V.bl))) ⟨Same.new nD, upd_same⟩ (fun _ _ _ _ => True.intro) ?_ ?_
        · rintro i v H1 H' hi ⟨s1, hD⟩ ⟨rfl, c, hc, rfl⟩
          refine ⟨rfl, ?_⟩
          (repeat (first | refine ⟨_, rfl, ?_⟩ | refine ⟨rfl, ?_⟩ | refine ⟨_, _, rfl, rfl, ?_⟩ | refine iteT ?_ | refine iteF ?_ | refine ⟨(by show (0 : Int) < _; omega), ?_⟩ | refine ⟨(⟨by omega, by omega⟩ : CDiv _ _), ?_⟩ | refine ⟨(⟨by decide, by decide, by decide⟩ : CPow _ _), ?_⟩ | refine ⟨(.inl ⟨by omega, by omega⟩ : CMul _ _), ?_⟩ | refine ⟨(.inr ⟨by omega, by omega⟩ : CMul _ _), ?_⟩ | refine Or.inl ⟨_, rfl, ?_⟩ | refine Or.inr ⟨_, rfl, ?_⟩ | refine ⟨_, _, _, _, true, rfl, .ty _, .base (.str _), kit_ty (by decide +kernel), ?_⟩ | refine ⟨_, _, rfl, ⟨by rw [sizeLine_eq]; omega, rfl⟩, ?_⟩ | refine ⟨_, _, rfl, .inl ⟨_, SqL.of (by assumption), rfl⟩, ?_⟩ | refine ⟨_, _, rfl, .inr ⟨_, SqT.of (by assumption), rfl⟩, ?_⟩))
          refine ⟨_, hD, small1000 (by simp only [List.length_map, List.length_take, Array.length_toList]; omega), Same.put s1 nD, ?_⟩
          have e : x.cps.toList[i]? = some c := by simpa using hc
          rw [upd_same, take_snoc isLow e, in_letters, List.map_append]
          rfl
        · rintro H1 ⟨s1, hD⟩
          refine ⟨D, _, rfl, SqL.of hD, ?_⟩
          have e := k H1 s1
          rw [isNm_true (by have := of_decide_eq_true h1; omega) (by omega)] at e
          rw [List.take_of_length_le (by simp)]
          exact e
      · rw [decide_eq_false h2]
        (repeat (first | refine ⟨_, rfl, ?_⟩ | refine ⟨rfl, ?_⟩ | refine ⟨_, _, rfl, rfl, ?_⟩ | refine iteT ?_ | refine iteF ?_ | refine ⟨(by show (0 : Int) < _; omega), ?_⟩ | refine ⟨(⟨by omega, by omega⟩ : CDiv _ _), ?_⟩ | refine ⟨(⟨by decide, by decide, by decide⟩ : CPow _ _), ?_⟩ | refine ⟨(.inl ⟨by omega, by omega⟩ : CMul _ _), ?_⟩ | refine ⟨(.inr ⟨by omega, by omega⟩ : CMul _ _), ?_⟩ | refine Or.inl ⟨_, rfl, ?_⟩ | refine Or.inr ⟨_, rfl, ?_⟩ | refine ⟨_, _, _, _, true, rfl, .ty _, .base (.str _), kit_ty (by decide +kernel), ?_⟩ | refine ⟨_, _, rfl, ⟨by rw [sizeLine_eq]; omega, rfl⟩, ?_⟩ | refine ⟨_, _, rfl, .inl ⟨_, SqL.of (by assumption), rfl⟩, ?_⟩ | refine ⟨_, _, rfl, .inr ⟨_, SqT.of (by assumption), rfl⟩, ?_⟩))
        have e := k H (Same.refl H)
        rw [isNm_no (by simp at h1; omega)] at e
        exact e
    · (repeat (first | refine ⟨_, rfl, ?_⟩ | refine ⟨rfl, ?_⟩ | refine ⟨_, _, rfl, rfl, ?_⟩ | refine iteT ?_ | refine iteF ?_ | refine ⟨(by show (0 : Int) < _; omega), ?_⟩ | refine ⟨(⟨by omega, by omega⟩ : CDiv _ _), ?_⟩ | refine ⟨(⟨by decide, by decide, by decide⟩ : CPow _ _), ?_⟩ | refine ⟨(.inl ⟨by omega, by omega⟩ : CMul _ _), ?_⟩ | refine ⟨(.inr ⟨by omega, by omega⟩ : CMul _ _), ?_⟩ | refine Or.inl ⟨_, rfl, ?_⟩ | refine Or.inr ⟨_, rfl, ?_⟩ | refine ⟨_, _, _, _, true, rfl, .ty _, .base (.str _), kit_ty (by decide +kernel), ?_⟩ | refine ⟨_, _, rfl, ⟨by rw [sizeLine_eq]; omega, rfl⟩, ?_⟩ | refine ⟨_, _, rfl, .inl ⟨_, SqL.of (by assumption), rfl⟩, ?_⟩ | refine ⟨_, _, rfl, .inr ⟨_, SqT.of (by assumption), rfl⟩, ?_⟩))
      have e := k H (Same.refl H)
      rw [isNm_no (by simp at h1; omega)] at e
      exact e
theorem cal_is_name (T : Txt K mg A) : Cal P w K mg base 1 "is_name" spIsName [] := by
  refine cal0 T.d_is_name T.b_is_name .nil sc_is_name (fun vs H Q E h => ?_) (fun cdv B outer s H vs Q E hr h => ?_)
  · obtain ⟨c, rfl, _⟩ := h
    rfl
  · obtain ⟨x, rfl, hx, k⟩ := h
    refine ⟨_, (pss_cons (ps_if (PW.pt (pw_or (pt_not (pt_val (pe_callB (isiK K) (by rfl) T.z_isinstance (by decide +kernel) (pa_cons (pv 0) (pa_cons (pe_bltn (v := .ty "str") (by rfl) T.z_str (by decide +kernel) rfl) pa_nil))))) (pw_or1 (pt_not (pt_chain op_le op_le pe_int (pe_callB (lenK K) (by rfl) T.z_len (by decide +kernel) (pa_cons (pv 0) pa_nil)) (pe_gint rfl T.g_LONGEST_NAME)))))) (pss_one (ps_ret pe_bl)) pss_nil)
 (pss_one (ps_ret (pe_callB (allK K rfl) (by rfl) T.z_all (by decide +kernel) (pa_cons (pe_lc (own := [("letter", 1)]) (g := gName 1) rfl sc_is_name.nd (pi_str (pv 0)) (blkOk_by (own := [("letter", 1)]) (N := N_is_name) (sc := fnScope s_is_name) (by decide +kernel)) (fun _ _ _ _ _ => (pg_name (i := 1) sc_is_name.nd rfl (by first | exact Or.inl rfl | exact Or.inr rfl))) (fun _ _ _ _ _ => pts_nil) (fun _ _ _ _ _ => (pe_chain op_le_str op_le_str pe_str (pv 1) pe_str))) pa_nil))))), ?_⟩
    have hz : x.cps.size ≤ 1000 := hx
    (repeat (first | refine ⟨_, rfl, ?_⟩ | refine ⟨rfl, ?_⟩ | refine ⟨_, _, rfl, rfl, ?_⟩ | refine iteT ?_ | refine iteF ?_ | refine ⟨(by show (0 : Int) < _; omega), ?_⟩ | refine ⟨(⟨by omega, by omega⟩ : CDiv _ _), ?_⟩ | refine ⟨(⟨by decide, by decide, by decide⟩ : CPow _ _), ?_⟩ | refine ⟨(.inl ⟨by omega, by omega⟩ : CMul _ _), ?_⟩ | refine ⟨(.inr ⟨by omega, by omega⟩ : CMul _ _), ?_⟩ | refine Or.inl ⟨_, rfl, ?_⟩ | refine Or.inr ⟨_, rfl, ?_⟩ | refine ⟨_, _, _, _, true, rfl, .ty _, .base (.str _), kit_ty (by decide +kernel), ?_⟩ | refine ⟨_, _, rfl, ⟨by rw [sizeLine_eq]; omega, rfl⟩, ?_⟩ | refine ⟨_, _, rfl, .inl ⟨_, SqL.of (by assumption), rfl⟩, ?_⟩ | refine ⟨_, _, rfl, .inr ⟨_, SqT.of (by assumption), rfl⟩, ?_⟩))
    refine ite2 (fun h1 => ?_) (fun h1 => ?_)
    · (repeat (first | refine ⟨_, rfl, ?_⟩ | refine ⟨rfl, ?_⟩ | refine ⟨_, _, rfl, rfl, ?_⟩ | refine iteT ?_ | refine iteF ?_ | refine ⟨(by show (0 : Int) < _; omega), ?_⟩ | refine ⟨(⟨by omega, by omega⟩ : CDiv _ _), ?_⟩ | refine ⟨(⟨by decide, by decide, by decide⟩ : CPow _ _), ?_⟩ | refine ⟨(.inl ⟨by omega, by omega⟩ : CMul _ _), ?_⟩ | refine ⟨(.inr ⟨by omega, by omega⟩ : CMul _ _), ?_⟩ | refine Or.inl ⟨_, rfl, ?_⟩ | refine Or.inr ⟨_, rfl, ?_⟩ | refine ⟨_, _, _, _, true, rfl, .ty _, .base (.str _), kit_ty (by decide +kernel), ?_⟩ | refine ⟨_, _, rfl, ⟨by rw [sizeLine_eq]; omega, rfl⟩, ?_⟩ | refine ⟨_, _, rfl, .inl ⟨_, SqL.of (by assumption), rfl⟩, ?_⟩ | refine ⟨_, _, rfl, .inr ⟨_, SqT.of (by assumption), rfl⟩, ?_⟩))
      by_cases h2 : (x.length : Int) ≤ 8
      · rw [decide_eq_true h2]
        (repeat (first | refine ⟨_, rfl, ?_⟩ | refine ⟨rfl, ?_⟩ | refine ⟨_, _, rfl, rfl, ?_⟩ | refine iteT ?_ | refine iteF ?_ | refine ⟨(by show (0 : Int) < _; omega), ?_⟩ | refine ⟨(⟨by omega, by omega⟩ : CDiv _ _), ?_⟩ | refine ⟨(⟨by decide, by decide, by decide⟩ : CPow _ _), ?_⟩ | refine ⟨(.inl ⟨by omega, by omega⟩ : CMul _ _), ?_⟩ | refine ⟨(.inr ⟨by omega, by omega⟩ : CMul _ _), ?_⟩ | refine Or.inl ⟨_, rfl, ?_⟩ | refine Or.inr ⟨_, rfl, ?_⟩ | refine ⟨_, _, _, _, true, rfl, .ty _, .base (.str _), kit_ty (by decide +kernel), ?_⟩ | refine ⟨_, _, rfl, ⟨by rw [sizeLine_eq]; omega, rfl⟩, ?_⟩ | refine ⟨_, _, rfl, .inl ⟨_, SqL.of (by assumption), rfl⟩, ?_⟩ | refine ⟨_, _, rfl, .inr ⟨_, SqT.of (by assumption), rfl⟩, ?_⟩))
        intro D nD
        refine lc_it walk_str (fun i H' => Same H H' ∧ H' D = some (.lst (((x.cps.toList.take i).map isLow).map V.bl))) ⟨Same.new nD, upd_same⟩ (fun _ _ _ _ => True.intro) ?_ ?_
        · rintro i v H1 H' hi ⟨s1, hD⟩ ⟨rfl, c, hc, rfl⟩
          have e : x.cps.toList[i]? = some c := by simpa using hc
          have fin : ∀ b, b = isLow c → ∃ acc, H' D = some (.lst acc) ∧ acc.length < sizeLine ∧ Same H (upd H' D (.lst (acc ++ [V.bl b]))) ∧ upd H' D (.lst (acc ++ [V.bl b])) D = some (.lst (((x.cps.toList.take (i + 1)).map isLow).map V.bl)) := by
            rintro b rfl
            refine ⟨_, hD, small1000 (by simp only [List.length_map, List.length_take, Array.length_toList]; omega), Same.put s1 nD, ?_⟩
            rw [upd_same, take_snoc isLow e, List.map_append]
            rfl
          refine ⟨rfl, ?_⟩
          (repeat (first | refine ⟨_, rfl, ?_⟩ | refine ⟨rfl, ?_⟩ | refine ⟨_, _, rfl, rfl, ?_⟩ | refine iteT ?_ | refine iteF ?_ | refine ⟨(by show (0 : Int) < _; omega), ?_⟩ | refine ⟨(⟨by omega, by omega⟩ : CDiv _ _), ?_⟩ | refine ⟨(⟨by decide, by decide, by decide⟩ : CPow _ _), ?_⟩ | refine ⟨(.inl ⟨by omega, by omega⟩ : CMul _ _), ?_⟩ | refine ⟨(.inr ⟨by omega, by omega⟩ : CMul _ _), ?_⟩ | refine Or.inl ⟨_, rfl, ?_⟩ | refine Or.inr ⟨_, rfl, ?_⟩ | refine ⟨_, _, _, _, true, rfl, .ty _, .base (.str _), kit_ty (by decide +kernel), ?_⟩ | refine ⟨_, _, rfl, ⟨by rw [sizeLine_eq]; omega, rfl⟩, ?_⟩ | refine ⟨_, _, rfl, .inl ⟨_, SqL.of (by assumption), rfl⟩, ?_⟩ | refine ⟨_, _, rfl, .inr ⟨_, SqT.of (by assumption), rfl⟩, ?_⟩))
          refine ite2 (fun h3 => ?_) (fun h3 => ?_)
          · (repeat (first | refine ⟨_, rfl, ?_⟩ | refine ⟨rfl, ?_⟩ | refine ⟨_, _, rfl, rfl, ?_⟩ | refine iteT ?_ | refine iteF ?_ | refine ⟨(by show (0 : Int) < _; omega), ?_⟩ | refine ⟨(⟨by omega, by omega⟩ : CDiv _ _), ?_⟩ | refine ⟨(⟨by decide, by decide, by decide⟩ : CPow _ _), ?_⟩ | refine ⟨(.inl ⟨by omega, by omega⟩ : CMul _ _), ?_⟩ | refine ⟨(.inr ⟨by omega, by omega⟩ : CMul _ _), ?_⟩ | refine Or.inl ⟨_, rfl, ?_⟩ | refine Or.inr ⟨_, rfl, ?_⟩ | refine ⟨_, _, _, _, true, rfl, .ty _, .base (.str _), kit_ty (by decide +kernel), ?_⟩ | refine ⟨_, _, rfl, ⟨by rw [sizeLine_eq]; omega, rfl⟩, ?_⟩ | refine ⟨_, _, rfl, .inl ⟨_, SqL.of (by assumption), rfl⟩, ?_⟩ | refine ⟨_, _, rfl, .inr ⟨_, SqT.of (by assumption), rfl⟩, ?_⟩))
            rw [from_a] at h3
            exact fin _ (by rw [to_z]; unfold isLow; rw [h3]; rfl)
          · (repeat (first | refine ⟨_, rfl, ?_⟩ | refine ⟨rfl, ?_⟩ | refine ⟨_, _, rfl, rfl, ?_⟩ | refine iteT ?_ | refine iteF ?_ | refine ⟨(by show (0 : Int) < _; omega), ?_⟩ | refine ⟨(⟨by omega, by omega⟩ : CDiv _ _), ?_⟩ | refine ⟨(⟨by decide, by decide, by decide⟩ : CPow _ _), ?_⟩ | refine ⟨(.inl ⟨by omega, by omega⟩ : CMul _ _), ?_⟩ | refine ⟨(.inr ⟨by omega, by omega⟩ : CMul _ _), ?_⟩ | refine Or.inl ⟨_, rfl, ?_⟩ | refine Or.inr ⟨_, rfl, ?_⟩ | refine ⟨_, _, _, _, true, rfl, .ty _, .base (.str _), kit_ty (by decide +kernel), ?_⟩ | refine ⟨_, _, rfl, ⟨by rw [sizeLine_eq]; omega, rfl⟩, ?_⟩ | refine ⟨_, _, rfl, .inl ⟨_, SqL.of (by assumption), rfl⟩, ?_⟩ | refine ⟨_, _, rfl, .inr ⟨_, SqT.of (by assumption), rfl⟩, ?_⟩))
            rw [from_a] at h3
            have h4 : decide (97 ≤ c) = false := by simpa using h3
            exact fin _ (by unfold isLow; rw [h4]; rfl)
        · rintro H1 ⟨s1, hD⟩
          refine ⟨D, _, rfl, SqL.of hD, ?_⟩
          have e := k H1 s1
          rw [isNm_true (by have := of_decide_eq_true h1; omega) (by omega)] at e
          rw [List.take_of_length_le (by simp)]
          exact e
      · rw [decide_eq_false h2]
        (repeat (first | refine ⟨_, rfl, ?_⟩ | refine ⟨rfl, ?_⟩ | refine ⟨_, _, rfl, rfl, ?_⟩ | refine iteT ?_ | refine iteF ?_ | refine ⟨(by show (0 : Int) < _; omega), ?_⟩ | refine ⟨(⟨by omega, by omega⟩ : CDiv _ _), ?_⟩ | refine ⟨(⟨by decide, by decide, by decide⟩ : CPow _ _), ?_⟩ | refine ⟨(.inl ⟨by omega, by omega⟩ : CMul _ _), ?_⟩ | refine ⟨(.inr ⟨by omega, by omega⟩ : CMul _ _), ?_⟩ | refine Or.inl ⟨_, rfl, ?_⟩ | refine Or.inr ⟨_, rfl, ?_⟩ | refine ⟨_, _, _, _, true, rfl, .ty _, .base (.str _), kit_ty (by decide +kernel), ?_⟩ | refine ⟨_, _, rfl, ⟨by rw [sizeLine_eq]; omega, rfl⟩, ?_⟩ | refine ⟨_, _, rfl, .inl ⟨_, SqL.of (by assumption), rfl⟩, ?_⟩ | refine ⟨_, _, rfl, .inr ⟨_, SqT.of (by assumption), rfl⟩, ?_⟩))
        have e := k H (Same.refl H)
        rw [isNm_no (by simp at h1; omega)] at e
        exact e
    · (repeat (first | refine ⟨_, rfl, ?_⟩ | refine ⟨rfl, ?_⟩ | refine ⟨_, _, rfl, rfl, ?_⟩ | refine iteT ?_ | refine iteF ?_ | refine ⟨(by show (0 : Int) < _; omega), ?_⟩ | refine ⟨(⟨by omega, by omega⟩ : CDiv _ _), ?_⟩ | refine ⟨(⟨by decide, by decide, by decide⟩ : CPow _ _), ?_⟩ | refine ⟨(.inl ⟨by omega, by omega⟩ : CMul _ _), ?_⟩ | refine ⟨(.inr ⟨by omega, by omega⟩ : CMul _ _), ?_⟩ | refine Or.inl ⟨_, rfl, ?_⟩ | refine Or.inr ⟨_, rfl, ?_⟩ | refine ⟨_, _, _, _, true, rfl, .ty _, .base (.str _), kit_ty (by decide +kernel), ?_⟩ | refine ⟨_, _, rfl, ⟨by rw [sizeLine_eq]; omega, rfl⟩, ?_⟩ | refine ⟨_, _, rfl, .inl ⟨_, SqL.of (by assumption), rfl⟩, ?_⟩ | refine ⟨_, _, rfl, .inr ⟨_, SqT.of (by assumption), rfl⟩, ?_⟩))
      have e := k H (Same.refl H)
      rw [isNm_no (by simp at h1; omega)] at e
      exact e
theorem at_is_name (T : Txt K mg A) : C8.CalAt P w K mg base 1 A.f_is_name spIsName := by
  have c := cal_is_name (P := P) (w := w) (base := base) T
  obtain ⟨f, fd, ps, ds, F, hm, kp, b, d⟩ := c.ex
  have e := hm.symm.trans T.d_is_name.mgf
  cases e
  cases d
  exact ⟨fd, ps, F, kp, b⟩
theorem cal_first_wrong (T : Txt K mg A) : Cal P w K mg base 2 "first_wrong" (spFirst A.f_is_name) [] := by
  refine cal0 T.d_first_wrong T.b_first_wrong .nil sc_first_wrong (fun vs H Q E h => ?_) (fun cdv B outer s H vs Q E hr h => ?_)
  · obtain ⟨a, xs, rfl, _⟩ := h
    rfl
  · obtain ⟨a, xs, rfl, ha, hl, hx, k⟩ := h
    refine ⟨_, (pss_cons (ps_set (i := 2) sc_first_wrong.nd rfl (by first | exact Or.inl rfl | exact Or.inr rfl) (pe_callTy0 cr_set0K (by rfl) T.z_set (by decide +kernel)))
 (pss_cons (ps_for PassesOwn.never rfl (pi_enum (by rfl) T.z_enumerate (pa_cons (pv 0) pa_nil)) (pg_tup (by rfl) (pgs_cons (pg_name (i := 3) sc_first_wrong.nd rfl (by first | exact Or.inl rfl | exact Or.inr rfl)) (pgs_cons (pg_name (i := 4) sc_first_wrong.nd rfl (by first | exact Or.inl rfl | exact Or.inr rfl)) pgs_nil))) (pss_cons (ps_if (PW.pt (pw_or (pt_not (pt_val (pe_cl (i := 1) (at_is_name T) hr (by decide) rfl (by first | exact Or.inl rfl | exact Or.inr (Or.inl rfl) | exact Or.inr (Or.inr rfl)) (pa_cons (pv 4) pa_nil)))) (pw_or1 (pt_cmpR or_sinK (pv 4) (pv 2) rfl)))) (pss_one (ps_ret (pv 3))) pss_nil)
 (pss_one (ps_expr (pe_saddK (pv 2) (pa_cons (pv 4) pa_nil))))))
 (pss_one (ps_ret pe_non)))), ?_⟩
    refine ⟨rfl, fun se nse => ?_⟩
    have s0 : Same H (upd H se (SetK P w se (fun _ => false) 0)) := Same.new nse
    (repeat (first | refine ⟨_, rfl, ?_⟩ | refine ⟨rfl, ?_⟩ | refine ⟨_, _, rfl, rfl, ?_⟩ | refine iteT ?_ | refine iteF ?_ | refine ⟨(by show (0 : Int) < _; omega), ?_⟩ | refine ⟨(⟨by omega, by omega⟩ : CDiv _ _), ?_⟩ | refine ⟨(⟨by decide, by decide, by decide⟩ : CPow _ _), ?_⟩ | refine ⟨(.inl ⟨by omega, by omega⟩ : CMul _ _), ?_⟩ | refine ⟨(.inr ⟨by omega, by omega⟩ : CMul _ _), ?_⟩ | refine Or.inl ⟨_, rfl, ?_⟩ | refine Or.inr ⟨_, rfl, ?_⟩ | refine ⟨_, _, _, _, true, rfl, .ty _, .base (.str _), kit_ty (by decide +kernel), ?_⟩ | refine ⟨_, _, rfl, ⟨by rw [sizeLine_eq]; omega, rfl⟩, ?_⟩ | refine ⟨_, _, rfl, .inl ⟨_, SqL.of (by assumption), rfl⟩, ?_⟩ | refine ⟨_, _, rfl, .inr ⟨_, SqT.of (by assumption), rfl⟩, ?_⟩))
    refine ⟨a, _, rfl, SqL.of (s0 _ _ ha), for_it walk_enum (fun i σ H' => ∃ (S : Key → Bool) (n : Nat) (v3 v4 : Option V), σ = [some (.ref a), some (.ref A.f_is_name), some (.ref se), v3, v4] ∧ Same H H' ∧ H' se = some (SetK P w se S n) ∧ n ≤ i ∧ (∀ x, S (.inr x) = decide (x ∈ xs.take i)) ∧ ∀ j, j < i → okAt xs j = true)
      ⟨_, 0, _, _, rfl, s0, upd_same, Nat.le_refl _, fun x => by simp, fun j hj => absurd hj (Nat.not_lt_zero _)⟩ (fun i σ H' _ ⟨_, _, _, _, _, s1, _⟩ => SqL.of (s1 _ _ ha)) ?_ ?_⟩
    · rintro i v σ H1 H2 hi ⟨S, n, v3, v4, rfl, s1, hS, hn, hmem, hok⟩ ⟨tp, y1, y2, rfl, ntp, rfl, e1, e2⟩
      rw [List.length_map] at hi
      obtain ⟨x, hxi⟩ : ∃ x, xs[i]? = some x := ⟨xs[i], by simp [hi]⟩
      have e2 : (xs.map V.str)[i]? = some y2 := e2
      have ey : y2 = V.str x := by
        rw [List.getElem?_map, hxi] at e2
        exact (Option.some.inj e2).symm
      cases Option.some.inj e1
      subst ey
      have hlx := hx x (List.mem_of_getElem? hxi)
      have s2 : Same H (upd H1 tp (.tup [V.int (i : Nat), V.str x])) := fun b o e => by rw [upd_ne (ne_of_none (s1 _ _ e) ntp)]; exact s1 _ _ e
      have ne : se ≠ tp := ne_of_none hS ntp
      refine ⟨tp, _, rfl, SqT.of upd_same, rfl, _, _, rfl, _, _, rfl, rfl, rfl, _, rfl, x, rfl, hlx, fun H3 s3 => ⟨_, rfl, ?_⟩⟩
      have s4 : Same H H3 := s2.trans s3
      have hS3 : H3 se = some (SetK P w se S n) := s3 _ _ (Eq.trans (upd_ne ne) hS)
      cases hnm : isNm x with
      | false =>
        (repeat (first | refine ⟨_, rfl, ?_⟩ | refine ⟨rfl, ?_⟩ | refine ⟨_, _, rfl, rfl, ?_⟩ | refine iteT ?_ | refine iteF ?_ | refine ⟨(by show (0 : Int) < _; omega), ?_⟩ | refine ⟨(⟨by omega, by omega⟩ : CDiv _ _), ?_⟩ | refine ⟨(⟨by decide, by decide, by decide⟩ : CPow _ _), ?_⟩ | refine ⟨(.inl ⟨by omega, by omega⟩ : CMul _ _), ?_⟩ | refine ⟨(.inr ⟨by omega, by omega⟩ : CMul _ _), ?_⟩ | refine Or.inl ⟨_, rfl, ?_⟩ | refine Or.inr ⟨_, rfl, ?_⟩ | refine ⟨_, _, _, _, true, rfl, .ty _, .base (.str _), kit_ty (by decide +kernel), ?_⟩ | refine ⟨_, _, rfl, ⟨by rw [sizeLine_eq]; omega, rfl⟩, ?_⟩ | refine ⟨_, _, rfl, .inl ⟨_, SqL.of (by assumption), rfl⟩, ?_⟩ | refine ⟨_, _, rfl, .inr ⟨_, SqT.of (by assumption), rfl⟩, ?_⟩))
        have e : fwF xs = some i := fw_some hi (by unfold okAt; rw [hxi]; simp [hnm]) hok
        have q := k H3 s4
        unfold fwV at q
        rw [e] at q
        exact q
      | true =>
        refine ⟨_, rfl, _, rfl, .inr x, se, S, n, rfl, rfl, hS3, _, rfl, ?_⟩
        have ei : (if false = true then !S (Sum.inr x) else S (Sum.inr x)) = decide (x ∈ xs.take i) := by rw [if_neg Bool.false_ne_true, hmem]
        by_cases hin : x ∈ xs.take i
        · rw [ei, decide_eq_true hin]
          (repeat (first | refine ⟨_, rfl, ?_⟩ | refine ⟨rfl, ?_⟩ | refine ⟨_, _, rfl, rfl, ?_⟩ | refine iteT ?_ | refine iteF ?_ | refine ⟨(by show (0 : Int) < _; omega), ?_⟩ | refine ⟨(⟨by omega, by omega⟩ : CDiv _ _), ?_⟩ | refine ⟨(⟨by decide, by decide, by decide⟩ : CPow _ _), ?_⟩ | refine ⟨(.inl ⟨by omega, by omega⟩ : CMul _ _), ?_⟩ | refine ⟨(.inr ⟨by omega, by omega⟩ : CMul _ _), ?_⟩ | refine Or.inl ⟨_, rfl, ?_⟩ | refine Or.inr ⟨_, rfl, ?_⟩ | refine ⟨_, _, _, _, true, rfl, .ty _, .base (.str _), kit_ty (by decide +kernel), ?_⟩ | refine ⟨_, _, rfl, ⟨by rw [sizeLine_eq]; omega, rfl⟩, ?_⟩ | refine ⟨_, _, rfl, .inl ⟨_, SqL.of (by assumption), rfl⟩, ?_⟩ | refine ⟨_, _, rfl, .inr ⟨_, SqT.of (by assumption), rfl⟩, ?_⟩))
          have e : fwF xs = some i := fw_some hi (by unfold okAt; rw [hxi]; simp [hnm, hin]) hok
          have q := k H3 s4
          unfold fwV at q
          rw [e] at q
          exact q
        · rw [ei, decide_eq_false hin]
          refine iteF ⟨_, rfl, ⟨se, S, n, rfl, hS3⟩, _, rfl, se, .inr x, S, n, rfl, rfl, hS3, ?_, _, _, _, _, rfl, fun b o e => ?_, upd_same, ?_, fun y => ?_, fun j hj => ?_⟩
          · have : (1001 : Nat) < scanBound := by decide
            omega
          · rw [upd_ne (ne_of_none e nse)]
            exact s4 _ _ e
          · split <;> omega
          · rw [List.take_succ, hxi, hmem]
            by_cases hy : y = x
            · subst hy
              simp
            · simp [hy]
          · by_cases e : j = i
            · subst e
              unfold okAt
              rw [hxi]
              simp [hnm, hin]
            · exact hok j (by omega)
    · rintro σ H1 ⟨S, n, v3, v4, rfl, s1, hS, hn, hmem, hok⟩
      rw [List.length_map] at hok
      have q := k H1 s1
      unfold fwV at q
      rw [fw_none (fun j hj => hok j hj)] at q
      exact q
end
end BF25
set_option Elab.async false
set_option linter.all false
set_option maxRecDepth 100000
set_option maxHeartbeats 4000000
namespace BF25
open BF
open PySem PySem.Spec PyProof.Rows L2
open C8 (Cal CalAt Met Mak cal0 met0 mak0 fn0 pe_c pe_mk pe_mt pe_mt0 pe_gc fnScope fnBody fnArgs fnScope_by)
open SX
section
variable {X : Cx} {A : Ad} {e : Expr} {ta : TA} {p pos : Pos}
theorem pm_BadThings (T : Txt X.K X.mg A) (hr : Room 2 X.A) (ha : PA X [e] ta) (hg : Gl X "BadThings" := by rfl) (he : starEach (e :: []) X.env = (false, eval e X.env) :: starEach [] X.env := by rfl) (hpl : (backTo pos (starEach [] X.env)).any (·.1) = false := by rfl) :
    PMk X (.Call (.Name "BadThings" p) [e] [] pos) (tErr A.C_BadThings "index" ta) :=
  pmk_err T.ox_BadThings T.fi_BadThings__init T.fn_BadThings__init (ok_errinit T.u_BadThings__init sc_BadThings__init rfl T.ox_BadThings T.nx_BadThings_index rfl rfl (by decide) (by decide) (fun _ => rfl)) hr T.b_BadThings__init hg T.gC_BadThings ha (by decide) he hpl
theorem pm_NoThing (T : Txt X.K X.mg A) (hr : Room 2 X.A) (ha : PA X [e] ta) (hg : Gl X "NoThing" := by rfl) (he : starEach (e :: []) X.env = (false, eval e X.env) :: starEach [] X.env := by rfl) (hpl : (backTo pos (starEach [] X.env)).any (·.1) = false := by rfl) :
    PMk X (.Call (.Name "NoThing" p) [e] [] pos) (tErr A.C_NoThing "thing" ta) :=
  pmk_err T.ox_NoThing T.fi_NoThing__init T.fn_NoThing__init (ok_errinit T.u_NoThing__init sc_NoThing__init rfl T.ox_NoThing T.nx_NoThing_thing rfl rfl (by decide) (by decide) (fun _ => rfl)) hr T.b_NoThing__init hg T.gC_NoThing ha (by decide) he hpl
theorem pm_BadJobs (T : Txt X.K X.mg A) (hr : Room 2 X.A) (ha : PA X [e] ta) (hg : Gl X "BadJobs" := by rfl) (he : starEach (e :: []) X.env = (false, eval e X.env) :: starEach [] X.env := by rfl) (hpl : (backTo pos (starEach [] X.env)).any (·.1) = false := by rfl) :
    PMk X (.Call (.Name "BadJobs" p) [e] [] pos) (tErr A.C_BadJobs "person" ta) :=
  pmk_err T.ox_BadJobs T.fi_BadJobs__init T.fn_BadJobs__init (ok_errinit T.u_BadJobs__init sc_BadJobs__init rfl T.ox_BadJobs T.nx_BadJobs_person rfl rfl (by decide) (by decide) (fun _ => rfl)) hr T.b_BadJobs__init hg T.gC_BadJobs ha (by decide) he hpl
end
section
variable {P : Program} {w : World} {K : PySem.W.Frag} {mg : Str → Option Value} {base : Heap} {A : Ad}
def spFW : Sp := fun vs H Q _ => ∃ (a : Addr) (xs : List Str), vs = [.ref a] ∧ H a = some (.lst (xs.map V.str)) ∧ xs.length ≤ 1000 ∧ (∀ x ∈ xs, x.length ≤ 1000) ∧ ∀ H', Same H H' → Q (fwV xs) H'
theorem cut_to (xs : List V) (k : Nat) : cutV xs none (some (k : Int)) = xs.take k := by
  unfold cutV
  rw [HT.sIx_none, HT.sIx_nat, List.drop_zero, Nat.sub_zero]
  by_cases h : k ≤ xs.length
  · rw [Nat.min_eq_left h]
  · rw [Nat.min_eq_right (by omega), List.take_of_length_le (Nat.le_refl _), List.take_of_length_le (by omega)]
theorem cal_law_first_wrong (T : Txt K mg A) : Cal P w K mg base 2 "_law_first_wrong" spFW [] := by
  refine cal0 T.d_law_first_wrong T.b_law_first_wrong .nil sc_law_first_wrong (fun vs H Q E h => ?_) (fun cdv B outer s H vs Q E hr h => ?_)
  · obtain ⟨a, xs, rfl, _⟩ := h
    rfl
  · obtain ⟨a, ps, rfl, ha, hl, hz, k⟩ := h
    refine ⟨_, (pss_cons (ps_for PassesOwn.never rfl (pi_range1 (by rfl) T.z_range (pa_cons (pe_callB (lenK K) (by rfl) T.z_len (by decide +kernel) (pa_cons (pv 0) pa_nil)) pa_nil)) (pg_name (i := 1) sc_law_first_wrong.nd rfl (by first | exact Or.inl rfl | exact Or.inr rfl)) (pss_one (ps_if (PW.pt (pw_or (pt_not (pt_val (pe_c (cal_law_is_name T) hr (by decide) rfl (pa_cons (pe_ix (ixLK K) (pv 0) (pv 1) (fun _ _ => rfl)) pa_nil)))) (pw_or1 (pt_cmpR (in_seqK K) (pe_ix (ixLK K) (pv 0) (pv 1) (fun _ _ => rfl)) (pe_slice (slLK K) (pv 0) po_none (po_some (pv 1))) rfl)))) (pss_one (ps_ret (pv 1))) pss_nil)))
 (pss_one (ps_ret pe_non))), ?_⟩
    (repeat (first | refine ⟨_, rfl, ?_⟩ | refine ⟨rfl, ?_⟩ | refine ⟨_, _, rfl, rfl, ?_⟩ | refine iteT ?_ | refine iteF ?_ | refine ⟨(by show (0 : Int) < _; omega), ?_⟩ | refine ⟨(⟨by omega, by omega⟩ : CDiv _ _), ?_⟩ | refine ⟨(⟨by decide, by decide, by decide⟩ : CPow _ _), ?_⟩ | refine ⟨(.inl ⟨by omega, by omega⟩ : CMul _ _), ?_⟩ | refine ⟨(.inr ⟨by omega, by omega⟩ : CMul _ _), ?_⟩ | refine Or.inl ⟨_, rfl, ?_⟩ | refine Or.inr ⟨_, rfl, ?_⟩ | refine ⟨_, _, _, _, true, rfl, .ty _, .base (.str _), kit_ty (by decide +kernel), ?_⟩ | refine ⟨_, _, rfl, ⟨by rw [sizeLine_eq]; omega, rfl⟩, ?_⟩ | refine ⟨_, _, rfl, .inl ⟨_, SqL.of (by assumption), rfl⟩, ?_⟩ | refine ⟨_, _, rfl, .inr ⟨_, SqT.of (by assumption), rfl⟩, ?_⟩))
    refine ⟨by first | omega | (rw [List.length_map]; omega), by first | omega | (rw [List.length_map]; omega), for_it walk_range (fun i σ H' => ∃ (v1 : Option V), σ = [some (.ref a), v1] ∧ Same H H' ∧ ∀ j, j < i → okAt ps j = true)
      ⟨_, rfl, Same.refl H, fun j hj => absurd hj (Nat.not_lt_zero _)⟩ (fun _ _ _ _ _ => True.intro) ?_ ?_⟩
    · rintro i v σ H1 H2 hi ⟨v1, rfl, s1, hok⟩ ⟨rfl, hv0⟩
      have hv0 : v = V.int ((i : Nat) : Int) := hv0.trans (congrArg V.int (Int.zero_add _))
      subst hv0
      have hi : i < ps.length := by first | exact hi | simpa using hi
      have hx : ps[i]? = some ps[i] := List.getElem?_eq_getElem hi
      have ha1 := s1 _ _ ha
      have hv : (ps.map V.str)[i]? = some (V.str ps[i]) := by rw [List.getElem?_map, hx]; rfl
      have no : okAt ps i = false → ∀ H3, Same H H3 → Q (.int (i : Nat)) H3 := fun h H3 s3 => by
        have q := k H3 s3
        unfold fwV at q
        rw [fw_some hi h hok] at q
        exact q
      (repeat (first | refine ⟨_, rfl, ?_⟩ | refine ⟨rfl, ?_⟩ | refine ⟨_, _, rfl, rfl, ?_⟩ | refine iteT ?_ | refine iteF ?_ | refine ⟨(by show (0 : Int) < _; omega), ?_⟩ | refine ⟨(⟨by omega, by omega⟩ : CDiv _ _), ?_⟩ | refine ⟨(⟨by decide, by decide, by decide⟩ : CPow _ _), ?_⟩ | refine ⟨(.inl ⟨by omega, by omega⟩ : CMul _ _), ?_⟩ | refine ⟨(.inr ⟨by omega, by omega⟩ : CMul _ _), ?_⟩ | refine Or.inl ⟨_, rfl, ?_⟩ | refine Or.inr ⟨_, rfl, ?_⟩ | refine ⟨_, _, _, _, true, rfl, .ty _, .base (.str _), kit_ty (by decide +kernel), ?_⟩ | refine ⟨_, _, rfl, ⟨by rw [sizeLine_eq]; omega, rfl⟩, ?_⟩ | refine ⟨_, _, rfl, .inl ⟨_, SqL.of (by assumption), rfl⟩, ?_⟩ | refine ⟨_, _, rfl, .inr ⟨_, SqT.of (by assumption), rfl⟩, ?_⟩))
      refine ⟨a, _, _, V.str ps[i], rfl, rfl, SqL.of ha1, atI_nat hv, ?_⟩
      refine ⟨_, rfl, hz _ (List.getElem_mem hi), fun H3 s3 => ?_⟩
      have ha3 := s3 _ _ ha1
      have s13 := s1.trans s3
      cases hnm : isNm ps[i] with
      | false =>
        (repeat (first | refine ⟨_, rfl, ?_⟩ | refine ⟨rfl, ?_⟩ | refine ⟨_, _, rfl, rfl, ?_⟩ | refine iteT ?_ | refine iteF ?_ | refine ⟨(by show (0 : Int) < _; omega), ?_⟩ | refine ⟨(⟨by omega, by omega⟩ : CDiv _ _), ?_⟩ | refine ⟨(⟨by decide, by decide, by decide⟩ : CPow _ _), ?_⟩ | refine ⟨(.inl ⟨by omega, by omega⟩ : CMul _ _), ?_⟩ | refine ⟨(.inr ⟨by omega, by omega⟩ : CMul _ _), ?_⟩ | refine Or.inl ⟨_, rfl, ?_⟩ | refine Or.inr ⟨_, rfl, ?_⟩ | refine ⟨_, _, _, _, true, rfl, .ty _, .base (.str _), kit_ty (by decide +kernel), ?_⟩ | refine ⟨_, _, rfl, ⟨by rw [sizeLine_eq]; omega, rfl⟩, ?_⟩ | refine ⟨_, _, rfl, .inl ⟨_, SqL.of (by assumption), rfl⟩, ?_⟩ | refine ⟨_, _, rfl, .inr ⟨_, SqT.of (by assumption), rfl⟩, ?_⟩))
        exact no (by unfold okAt; rw [hx]; simp [hnm]) H3 s13
      | true =>
        (repeat (first | refine ⟨_, rfl, ?_⟩ | refine ⟨rfl, ?_⟩ | refine ⟨_, _, rfl, rfl, ?_⟩ | refine iteT ?_ | refine iteF ?_ | refine ⟨(by show (0 : Int) < _; omega), ?_⟩ | refine ⟨(⟨by omega, by omega⟩ : CDiv _ _), ?_⟩ | refine ⟨(⟨by decide, by decide, by decide⟩ : CPow _ _), ?_⟩ | refine ⟨(.inl ⟨by omega, by omega⟩ : CMul _ _), ?_⟩ | refine ⟨(.inr ⟨by omega, by omega⟩ : CMul _ _), ?_⟩ | refine Or.inl ⟨_, rfl, ?_⟩ | refine Or.inr ⟨_, rfl, ?_⟩ | refine ⟨_, _, _, _, true, rfl, .ty _, .base (.str _), kit_ty (by decide +kernel), ?_⟩ | refine ⟨_, _, rfl, ⟨by rw [sizeLine_eq]; omega, rfl⟩, ?_⟩ | refine ⟨_, _, rfl, .inl ⟨_, SqL.of (by assumption), rfl⟩, ?_⟩ | refine ⟨_, _, rfl, .inr ⟨_, SqT.of (by assumption), rfl⟩, ?_⟩))
        refine ⟨a, _, _, V.str ps[i], rfl, rfl, SqL.of ha3, atI_nat hv, ?_⟩
        (repeat (first | refine ⟨_, rfl, ?_⟩ | refine ⟨rfl, ?_⟩ | refine ⟨_, _, rfl, rfl, ?_⟩ | refine iteT ?_ | refine iteF ?_ | refine ⟨(by show (0 : Int) < _; omega), ?_⟩ | refine ⟨(⟨by omega, by omega⟩ : CDiv _ _), ?_⟩ | refine ⟨(⟨by decide, by decide, by decide⟩ : CPow _ _), ?_⟩ | refine ⟨(.inl ⟨by omega, by omega⟩ : CMul _ _), ?_⟩ | refine ⟨(.inr ⟨by omega, by omega⟩ : CMul _ _), ?_⟩ | refine Or.inl ⟨_, rfl, ?_⟩ | refine Or.inr ⟨_, rfl, ?_⟩ | refine ⟨_, _, _, _, true, rfl, .ty _, .base (.str _), kit_ty (by decide +kernel), ?_⟩ | refine ⟨_, _, rfl, ⟨by rw [sizeLine_eq]; omega, rfl⟩, ?_⟩ | refine ⟨_, _, rfl, .inl ⟨_, SqL.of (by assumption), rfl⟩, ?_⟩ | refine ⟨_, _, rfl, .inr ⟨_, SqT.of (by assumption), rfl⟩, ?_⟩))
        refine ⟨a, _, rfl, SqL.of ha3, fun sl nsl => ?_⟩
        rw [cut_to, ← List.map_take]
        have s4 : Same H3 (upd H3 sl (.lst ((ps.take i).map V.str))) := Same.new nsl
        refine ⟨sl, _, rfl, .inl (SqL.of upd_same), rfl, flat_strs _, ?_⟩
        rw [if_neg (by decide), inV_strs]
        (repeat (first | refine ⟨_, rfl, ?_⟩ | refine ⟨rfl, ?_⟩ | refine ⟨_, _, rfl, rfl, ?_⟩ | refine iteT ?_ | refine iteF ?_ | refine ⟨(by show (0 : Int) < _; omega), ?_⟩ | refine ⟨(⟨by omega, by omega⟩ : CDiv _ _), ?_⟩ | refine ⟨(⟨by decide, by decide, by decide⟩ : CPow _ _), ?_⟩ | refine ⟨(.inl ⟨by omega, by omega⟩ : CMul _ _), ?_⟩ | refine ⟨(.inr ⟨by omega, by omega⟩ : CMul _ _), ?_⟩ | refine Or.inl ⟨_, rfl, ?_⟩ | refine Or.inr ⟨_, rfl, ?_⟩ | refine ⟨_, _, _, _, true, rfl, .ty _, .base (.str _), kit_ty (by decide +kernel), ?_⟩ | refine ⟨_, _, rfl, ⟨by rw [sizeLine_eq]; omega, rfl⟩, ?_⟩ | refine ⟨_, _, rfl, .inl ⟨_, SqL.of (by assumption), rfl⟩, ?_⟩ | refine ⟨_, _, rfl, .inr ⟨_, SqT.of (by assumption), rfl⟩, ?_⟩))
        by_cases hm : ps[i] ∈ ps.take i
        · rw [decide_eq_true hm]
          (repeat (first | refine ⟨_, rfl, ?_⟩ | refine ⟨rfl, ?_⟩ | refine ⟨_, _, rfl, rfl, ?_⟩ | refine iteT ?_ | refine iteF ?_ | refine ⟨(by show (0 : Int) < _; omega), ?_⟩ | refine ⟨(⟨by omega, by omega⟩ : CDiv _ _), ?_⟩ | refine ⟨(⟨by decide, by decide, by decide⟩ : CPow _ _), ?_⟩ | refine ⟨(.inl ⟨by omega, by omega⟩ : CMul _ _), ?_⟩ | refine ⟨(.inr ⟨by omega, by omega⟩ : CMul _ _), ?_⟩ | refine Or.inl ⟨_, rfl, ?_⟩ | refine Or.inr ⟨_, rfl, ?_⟩ | refine ⟨_, _, _, _, true, rfl, .ty _, .base (.str _), kit_ty (by decide +kernel), ?_⟩ | refine ⟨_, _, rfl, ⟨by rw [sizeLine_eq]; omega, rfl⟩, ?_⟩ | refine ⟨_, _, rfl, .inl ⟨_, SqL.of (by assumption), rfl⟩, ?_⟩ | refine ⟨_, _, rfl, .inr ⟨_, SqT.of (by assumption), rfl⟩, ?_⟩))
          exact no (by unfold okAt; rw [hx]; simp [hnm, hm]) _ (s13.trans s4)
        · rw [decide_eq_false hm]
          (repeat (first | refine ⟨_, rfl, ?_⟩ | refine ⟨rfl, ?_⟩ | refine ⟨_, _, rfl, rfl, ?_⟩ | refine iteT ?_ | refine iteF ?_ | refine ⟨(by show (0 : Int) < _; omega), ?_⟩ | refine ⟨(⟨by omega, by omega⟩ : CDiv _ _), ?_⟩ | refine ⟨(⟨by decide, by decide, by decide⟩ : CPow _ _), ?_⟩ | refine ⟨(.inl ⟨by omega, by omega⟩ : CMul _ _), ?_⟩ | refine ⟨(.inr ⟨by omega, by omega⟩ : CMul _ _), ?_⟩ | refine Or.inl ⟨_, rfl, ?_⟩ | refine Or.inr ⟨_, rfl, ?_⟩ | refine ⟨_, _, _, _, true, rfl, .ty _, .base (.str _), kit_ty (by decide +kernel), ?_⟩ | refine ⟨_, _, rfl, ⟨by rw [sizeLine_eq]; omega, rfl⟩, ?_⟩ | refine ⟨_, _, rfl, .inl ⟨_, SqL.of (by assumption), rfl⟩, ?_⟩ | refine ⟨_, _, rfl, .inr ⟨_, SqT.of (by assumption), rfl⟩, ?_⟩))
          first | refine ⟨_, rfl, s13.trans s4, fun j hj => ?_⟩ | refine ⟨s13.trans s4, fun j hj => ?_⟩ | refine fun j hj => ?_
          by_cases e : j = i
          · subst e
            unfold okAt
            rw [hx]
            simp [hnm, hm]
          · exact hok j (by omega)
    · rintro σ H1 ⟨v1, rfl, s1, hok⟩
      have q := k H1 s1
      unfold fwV at q
      rw [fw_none (fun j hj => hok j (by first | exact hj | simpa using hj))] at q
      (repeat (first | refine ⟨_, rfl, ?_⟩ | refine ⟨rfl, ?_⟩ | refine ⟨_, _, rfl, rfl, ?_⟩ | refine iteT ?_ | refine iteF ?_ | refine ⟨(by show (0 : Int) < _; omega), ?_⟩ | refine ⟨(⟨by omega, by omega⟩ : CDiv _ _), ?_⟩ | refine ⟨(⟨by decide, by decide, by decide⟩ : CPow _ _), ?_⟩ | refine ⟨(.inl ⟨by omega, by omega⟩ : CMul _ _), ?_⟩ | refine ⟨(.inr ⟨by omega, by omega⟩ : CMul _ _), ?_⟩ | refine Or.inl ⟨_, rfl, ?_⟩ | refine Or.inr ⟨_, rfl, ?_⟩ | refine ⟨_, _, _, _, true, rfl, .ty _, .base (.str _), kit_ty (by decide +kernel), ?_⟩ | refine ⟨_, _, rfl, ⟨by rw [sizeLine_eq]; omega, rfl⟩, ?_⟩ | refine ⟨_, _, rfl, .inl ⟨_, SqL.of (by assumption), rfl⟩, ?_⟩ | refine ⟨_, _, rfl, .inr ⟨_, SqT.of (by assumption), rfl⟩, ?_⟩))
      exact q
theorem isE_LotError (T : Txt K mg A) : ∀ D, (D = A.C_BadThings ∨ D = A.C_BadJobs) → IsC K D := fun D h => by
  rcases h with e | e
  · rw [e]; exact T.is_BadThings
  · rw [e]; exact T.is_BadJobs
/-- the first wrong one of people: its index, or -1 -/
def peF (ps : List Str) : Option Int := if ps.length ≤ 24 then (fwF ps).map (fun k => (k : Int)) else some (-1)
def spCPe (A : Ad) : Sp := fun vs H Q E => ∃ (a : Addr) (ps : List Str), vs = [.ref a, .int 24] ∧ H a = some (.lst (ps.map V.str)) ∧ ps.length ≤ 1000 ∧ (∀ x ∈ ps, x.length ≤ 1000) ∧
  (∀ k, peF ps = some k → ∀ d H', Same H H' → H' d = some (.xd [("index", .int k)]) → E (.ref A.C_BadThings) (some d) H') ∧
  (peF ps = none → ∀ p H', H p = none → Same H H' → H' p = some (.lst ((sortS ps).map V.str)) → Q (.ref p) H')
theorem cal_sorted_things (T : Txt K mg A) : CalX P w K mg base 3 "sorted_things" (spCPe A) := by
  refine ⟨_, _, _, fnX T.d_sorted_things.fn sc_sorted_things (fun vs H Q E h => ?_) (fun cdv B outer s H vs Q E hr h => ?_), T.d_sorted_things.mgf, T.d_sorted_things.kp, T.b_sorted_things⟩
  · obtain ⟨a, ps, rfl, _⟩ := h
    rfl
  · obtain ⟨a, ps, rfl, ha, hl, hx, kE, kQ⟩ := h
    refine ⟨_, (pss_cons (ps_set (i := 2) sc_sorted_things.nd rfl (by first | exact Or.inl rfl | exact Or.inr rfl) (pe_ifExp (pt_cmpR op_gt (pe_callB (lenK K) (by rfl) T.z_len (by decide +kernel) (pa_cons (pv 0) pa_nil)) (pv 1) (nomark _)) (pe_un un_neg pe_int) (pe_c (cal_first_wrong T) hr (by decide) rfl (pa_cons (pv 0) (pa_cons (pe_gc (v := .ref A.f_is_name) rfl ⟨_, T.d_is_name.mgf, rfl⟩) pa_nil)))))
 (pss_cons (ps_if (pt_cmpR op_notN (pv 2) pe_non (nomark _)) (pss_one (ps_raise rfl (takes_of rfl rfl rfl rfl) (pm_BadThings T (hr.mono (by decide)) (pa_cons (pv 2) pa_nil)))) pss_nil)
 (pss_one (ps_ret (pe_callB (sortedSK K) (by rfl) T.z_sorted (by decide +kernel) (pa_cons (pv 0) pa_nil)))))), ?_⟩
    (repeat (first | refine ⟨_, rfl, ?_⟩ | refine ⟨rfl, ?_⟩ | refine ⟨_, _, rfl, rfl, ?_⟩ | refine iteT ?_ | refine iteF ?_ | refine ⟨(by show (0 : Int) < _; omega), ?_⟩ | refine ⟨(⟨by omega, by omega⟩ : CDiv _ _), ?_⟩ | refine ⟨(⟨by decide, by decide, by decide⟩ : CPow _ _), ?_⟩ | refine ⟨(.inl ⟨by omega, by omega⟩ : CMul _ _), ?_⟩ | refine ⟨(.inr ⟨by omega, by omega⟩ : CMul _ _), ?_⟩ | refine Or.inl ⟨_, rfl, ?_⟩ | refine Or.inr ⟨_, rfl, ?_⟩ | refine ⟨_, _, _, _, true, rfl, .ty _, .base (.str _), kit_ty (by decide +kernel), ?_⟩ | refine ⟨_, _, rfl, ⟨by rw [sizeLine_eq]; omega, rfl⟩, ?_⟩ | refine ⟨_, _, rfl, .inl ⟨_, SqL.of (by assumption), rfl⟩, ?_⟩ | refine ⟨_, _, rfl, .inr ⟨_, SqT.of (by assumption), rfl⟩, ?_⟩))
    by_cases h2 : (24 : Int) < ((ps.map V.str).length : Int)
    · rw [decide_eq_true h2]
      rw [List.length_map] at h2
      (repeat (first | refine ⟨_, rfl, ?_⟩ | refine ⟨rfl, ?_⟩ | refine ⟨_, _, rfl, rfl, ?_⟩ | refine iteT ?_ | refine iteF ?_ | refine ⟨(by show (0 : Int) < _; omega), ?_⟩ | refine ⟨(⟨by omega, by omega⟩ : CDiv _ _), ?_⟩ | refine ⟨(⟨by decide, by decide, by decide⟩ : CPow _ _), ?_⟩ | refine ⟨(.inl ⟨by omega, by omega⟩ : CMul _ _), ?_⟩ | refine ⟨(.inr ⟨by omega, by omega⟩ : CMul _ _), ?_⟩ | refine Or.inl ⟨_, rfl, ?_⟩ | refine Or.inr ⟨_, rfl, ?_⟩ | refine ⟨_, _, _, _, true, rfl, .ty _, .base (.str _), kit_ty (by decide +kernel), ?_⟩ | refine ⟨_, _, rfl, ⟨by rw [sizeLine_eq]; omega, rfl⟩, ?_⟩ | refine ⟨_, _, rfl, .inl ⟨_, SqL.of (by assumption), rfl⟩, ?_⟩ | refine ⟨_, _, rfl, .inr ⟨_, SqT.of (by assumption), rfl⟩, ?_⟩))
      exact fun d H2 _ s2 hd => kE (-1) (by unfold peF; rw [if_neg (by omega)]) d H2 s2 hd
    · rw [decide_eq_false h2]
      rw [List.length_map] at h2
      have hin : ps.length ≤ 24 := by omega
      (repeat (first | refine ⟨_, rfl, ?_⟩ | refine ⟨rfl, ?_⟩ | refine ⟨_, _, rfl, rfl, ?_⟩ | refine iteT ?_ | refine iteF ?_ | refine ⟨(by show (0 : Int) < _; omega), ?_⟩ | refine ⟨(⟨by omega, by omega⟩ : CDiv _ _), ?_⟩ | refine ⟨(⟨by decide, by decide, by decide⟩ : CPow _ _), ?_⟩ | refine ⟨(.inl ⟨by omega, by omega⟩ : CMul _ _), ?_⟩ | refine ⟨(.inr ⟨by omega, by omega⟩ : CMul _ _), ?_⟩ | refine Or.inl ⟨_, rfl, ?_⟩ | refine Or.inr ⟨_, rfl, ?_⟩ | refine ⟨_, _, _, _, true, rfl, .ty _, .base (.str _), kit_ty (by decide +kernel), ?_⟩ | refine ⟨_, _, rfl, ⟨by rw [sizeLine_eq]; omega, rfl⟩, ?_⟩ | refine ⟨_, _, rfl, .inl ⟨_, SqL.of (by assumption), rfl⟩, ?_⟩ | refine ⟨_, _, rfl, .inr ⟨_, SqT.of (by assumption), rfl⟩, ?_⟩))
      refine ⟨a, ps, rfl, ha, by omega, hx, fun H1 s1 => ?_⟩
      have ha1 := s1 _ _ ha
      cases hf : fwF ps with
      | some k =>
        have e : fwV ps = .int (k : Nat) := by unfold fwV; rw [hf]
        rw [e]
        (repeat (first | refine ⟨_, rfl, ?_⟩ | refine ⟨rfl, ?_⟩ | refine ⟨_, _, rfl, rfl, ?_⟩ | refine iteT ?_ | refine iteF ?_ | refine ⟨(by show (0 : Int) < _; omega), ?_⟩ | refine ⟨(⟨by omega, by omega⟩ : CDiv _ _), ?_⟩ | refine ⟨(⟨by decide, by decide, by decide⟩ : CPow _ _), ?_⟩ | refine ⟨(.inl ⟨by omega, by omega⟩ : CMul _ _), ?_⟩ | refine ⟨(.inr ⟨by omega, by omega⟩ : CMul _ _), ?_⟩ | refine Or.inl ⟨_, rfl, ?_⟩ | refine Or.inr ⟨_, rfl, ?_⟩ | refine ⟨_, _, _, _, true, rfl, .ty _, .base (.str _), kit_ty (by decide +kernel), ?_⟩ | refine ⟨_, _, rfl, ⟨by rw [sizeLine_eq]; omega, rfl⟩, ?_⟩ | refine ⟨_, _, rfl, .inl ⟨_, SqL.of (by assumption), rfl⟩, ?_⟩ | refine ⟨_, _, rfl, .inr ⟨_, SqT.of (by assumption), rfl⟩, ?_⟩))
        exact fun d H2 _ s2 hd => kE k (by unfold peF; rw [if_pos hin, hf]; rfl) d H2 (s1.trans s2) hd
      | none =>
        have e : fwV ps = .non := by unfold fwV; rw [hf]
        rw [e]
        (repeat (first | refine ⟨_, rfl, ?_⟩ | refine ⟨rfl, ?_⟩ | refine ⟨_, _, rfl, rfl, ?_⟩ | refine iteT ?_ | refine iteF ?_ | refine ⟨(by show (0 : Int) < _; omega), ?_⟩ | refine ⟨(⟨by omega, by omega⟩ : CDiv _ _), ?_⟩ | refine ⟨(⟨by decide, by decide, by decide⟩ : CPow _ _), ?_⟩ | refine ⟨(.inl ⟨by omega, by omega⟩ : CMul _ _), ?_⟩ | refine ⟨(.inr ⟨by omega, by omega⟩ : CMul _ _), ?_⟩ | refine Or.inl ⟨_, rfl, ?_⟩ | refine Or.inr ⟨_, rfl, ?_⟩ | refine ⟨_, _, _, _, true, rfl, .ty _, .base (.str _), kit_ty (by decide +kernel), ?_⟩ | refine ⟨_, _, rfl, ⟨by rw [sizeLine_eq]; omega, rfl⟩, ?_⟩ | refine ⟨_, _, rfl, .inl ⟨_, SqL.of (by assumption), rfl⟩, ?_⟩ | refine ⟨_, _, rfl, .inr ⟨_, SqT.of (by assumption), rfl⟩, ?_⟩))
        refine ⟨a, ps, rfl, SqL.of ha1, by omega, fun ys p pm so np => ?_⟩
        rw [sortS_eq pm so]
        exact kQ (by unfold peF; rw [if_pos hin, hf]; rfl) p _ (s1.free np) (Same.put s1 (s1.free np)) upd_same
end
end BF25
set_option Elab.async false
set_option linter.all false
set_option maxRecDepth 100000
set_option maxHeartbeats 4000000
namespace BF25
open BF
open PySem PySem.Spec PyProof.Rows L2
open C8 (Cal CalAt Met Mak cal0 met0 mak0 fn0 pe_c pe_mk pe_mt pe_mt0 pe_gc fnScope fnBody fnArgs fnScope_by)
open SX
section
variable {P : Program} {w : World} {K : PySem.W.Frag} {mg : Str → Option Value} {base : Heap} {A : Ad}
/-- lists of jobs that are not too long -/
def Mid (rows : List Rw) : Prop := ∀ r ∈ rows, r.2.length ≤ 1000 ∧ ∀ x ∈ r.2, x.length ≤ 1000
def spCJ (A : Ad) : Sp := fun vs H Q E => ∃ (d p : Addr) (kvs : List (Key × V)) (rows : List Rw) (ps : List Str) (N : Addr → Prop), vs = [.ref d, .ref p] ∧ H d = some (.dK kvs) ∧ RowsN N H kvs rows ∧ (rows.map (·.1)).Nodup ∧ rows.length ≤ 30 ∧ Mid rows ∧
  H p = some (.lst (ps.map V.str)) ∧ ps.Nodup ∧ ps.length ≤ 24 ∧
  (∀ n, joF ps rows = some n → ∀ dx H', Same H H' → H' dx = some (.xd [("person", .str n)]) → E (.ref A.C_BadJobs) (some dx) H') ∧
  (joF ps rows = none → ∀ c H' kvs', H c = none → Same H H' → H' c = some (.dK kvs') → RowsN (fun l => H l = none) H' kvs' (toldR ps rows) → Q (.ref c) H')
theorem told_snoc {ks : List Str} {i : Nat} {n : Str} (h : ks[i]? = some n) (f : Str → List Str) : (ks.take (i + 1)).map (fun n => (n, f n)) = (ks.take i).map (fun n => (n, f n)) ++ [(n, f n)] := by
  rw [List.take_succ, h, List.map_append]
  rfl
theorem not_before {ks : List Str} {i : Nat} {n : Str} (nd : ks.Nodup) (h : ks[i]? = some n) : n ∉ ks.take i := fun m => by
  obtain ⟨j, hj, e⟩ := List.mem_iff_getElem.mp m
  rw [List.length_take] at hj
  rw [List.getElem_take] at e
  have := (List.getElem_inj nd).mp (e.trans (List.getElem?_eq_some_iff.mp h).2.symm)
  omega
theorem cal_checked_jobs (T : Txt K mg A) : CalX P w K mg base 3 "_checked_jobs" (spCJ A) := by
  refine ⟨_, _, _, fnX T.d_checked_jobs.fn sc_checked_jobs (fun vs H Q E h => ?_) (fun cdv B outer s H vs Q E hr h => ?_), T.d_checked_jobs.mgf, T.d_checked_jobs.kp, T.b_checked_jobs⟩
  · obtain ⟨d, p, kvs, rows, ps, N, rfl, _⟩ := h
    rfl
  · obtain ⟨d, p, kvs, rows, ps, N, rfl, hd, hR, nk, lk, md, hp, np, lp, kE, kQ⟩ := h
    refine ⟨_, (pss_cons (ps_set (i := 2) sc_checked_jobs.nd rfl (by first | exact Or.inl rfl | exact Or.inr rfl) pe_dnewK)
 (pss_cons (ps_for (passes_of rfl) rfl (pi_list (pe_callB (cr_sortL rfl) (by rfl) T.z_sorted (by decide +kernel) (pa_cons (pe_op op_orL (pe_callTy (cr_setD rfl) (by rfl) T.z_set (by decide +kernel) (pa_cons (pv 0) pa_nil)) (pe_callTy (cr_setL rfl) (by rfl) T.z_set (by decide +kernel) (pa_cons (pv 1) pa_nil))) pa_nil))) (pg_name (i := 3) sc_checked_jobs.nd rfl (by first | exact Or.inl rfl | exact Or.inr rfl)) (pss_cons (ps_if (PW.pt (pw_or (pt_cmpR (notIn_seqK K) (pv 3) (pv 1) rfl) (pw_or (pt_cmp (pc_dnotin (hu_of hr) (pv 3) (pv 0))) (pw_or1 (pt_cmpR op_gt (pe_callB (lenK K) (by rfl) T.z_len (by decide +kernel) (pa_cons (pe_dget (hu_of hr) (pv 0) (pv 3) (fun _ _ => rfl)) pa_nil)) (pe_gint rfl T.g_MOST_JOBS) (nomark _)))))) (pss_one (ps_raise rfl (takes_of rfl rfl rfl rfl) (pm_BadJobs T (hr.mono (by decide)) (pa_cons (pv 3) pa_nil)))) pss_nil)
 (pss_cons (ps_if (pt_cmpR op_notN (pe_c (cal_first_wrong T) hr (by decide) rfl (pa_cons (pe_dget (hu_of hr) (pv 0) (pv 3) (fun _ _ => rfl)) (pa_cons (pe_gc (v := .ref A.f_is_name) rfl ⟨_, T.d_is_name.mgf, rfl⟩) pa_nil))) pe_non (nomark _)) (pss_one (ps_raise rfl (takes_of rfl rfl rfl rfl) (pm_BadJobs T (hr.mono (by decide)) (pa_cons (pv 3) pa_nil)))) pss_nil)
 (pss_one (ps_dput (hu_of hr) (pv 2) (pv 3) (pe_callB (sortedSK K) (by rfl) T.z_sorted (by decide +kernel) (pa_cons (pe_dget (hu_of hr) (pv 0) (pv 3) (fun _ _ => rfl)) pa_nil)) rfl)))))
 (pss_one (ps_ret (pv 2))))), ?_⟩
    refine fun c nc => ?_
    have s0 : Same H (upd H c (.dK [])) := Same.new nc
    have kz : (rows.map (·.1)).length ≤ 30 := by rw [List.length_map]; exact lk
    generalize hH : upd H c (.dK []) = H0 at *
    have c0 : H0 c = some (.dK []) := by rw [← hH]; exact upd_same
    (repeat (first | refine ⟨_, rfl, ?_⟩ | refine ⟨rfl, ?_⟩ | refine ⟨_, _, rfl, rfl, ?_⟩ | refine iteT ?_ | refine iteF ?_ | refine ⟨(by show (0 : Int) < _; omega), ?_⟩ | refine ⟨(⟨by omega, by omega⟩ : CDiv _ _), ?_⟩ | refine ⟨(⟨by decide, by decide, by decide⟩ : CPow _ _), ?_⟩ | refine ⟨(.inl ⟨by omega, by omega⟩ : CMul _ _), ?_⟩ | refine ⟨(.inr ⟨by omega, by omega⟩ : CMul _ _), ?_⟩ | refine Or.inl ⟨_, rfl, ?_⟩ | refine Or.inr ⟨_, rfl, ?_⟩ | refine ⟨_, _, _, _, true, rfl, .ty _, .base (.str _), kit_ty (by decide +kernel), ?_⟩ | refine ⟨_, _, rfl, ⟨by rw [sizeLine_eq]; omega, rfl⟩, ?_⟩ | refine ⟨_, _, rfl, .inl ⟨_, SqL.of (by assumption), rfl⟩, ?_⟩ | refine ⟨_, _, rfl, .inr ⟨_, SqT.of (by assumption), rfl⟩, ?_⟩))
    refine ⟨d, kvs, rows.map (·.1), rfl, s0 _ _ hd, hR.keys, by omega, fun s1 ns1 => ?_⟩
    have e1 : Same H0 (upd H0 s1 (SetL P w s1 (rows.map (·.1)))) := Same.new ns1
    (repeat (first | refine ⟨_, rfl, ?_⟩ | refine ⟨rfl, ?_⟩ | refine ⟨_, _, rfl, rfl, ?_⟩ | refine iteT ?_ | refine iteF ?_ | refine ⟨(by show (0 : Int) < _; omega), ?_⟩ | refine ⟨(⟨by omega, by omega⟩ : CDiv _ _), ?_⟩ | refine ⟨(⟨by decide, by decide, by decide⟩ : CPow _ _), ?_⟩ | refine ⟨(.inl ⟨by omega, by omega⟩ : CMul _ _), ?_⟩ | refine ⟨(.inr ⟨by omega, by omega⟩ : CMul _ _), ?_⟩ | refine Or.inl ⟨_, rfl, ?_⟩ | refine Or.inr ⟨_, rfl, ?_⟩ | refine ⟨_, _, _, _, true, rfl, .ty _, .base (.str _), kit_ty (by decide +kernel), ?_⟩ | refine ⟨_, _, rfl, ⟨by rw [sizeLine_eq]; omega, rfl⟩, ?_⟩ | refine ⟨_, _, rfl, .inl ⟨_, SqL.of (by assumption), rfl⟩, ?_⟩ | refine ⟨_, _, rfl, .inr ⟨_, SqT.of (by assumption), rfl⟩, ?_⟩))
    refine ⟨p, ps, rfl, SqL.of (e1 _ _ (s0 _ _ hp)), by omega, fun s2 ns2 => ?_⟩
    have n12 : s2 ≠ s1 := fun e => by rw [e, upd_same] at ns2; cases ns2
    have e2 := Same.put (o := SetL P w s2 ps) e1 (e1.free ns2)
    refine ⟨s1, s2, rows.map (·.1), ps, rfl, rfl, Eq.trans (upd_ne n12.symm) upd_same, upd_same, n12, by omega, fun s3 us hus lus ns3 => ?_⟩
    have e3 := Same.put (o := SetL P w s3 us) e2 (e2.free ns3)
    (repeat (first | refine ⟨_, rfl, ?_⟩ | refine ⟨rfl, ?_⟩ | refine ⟨_, _, rfl, rfl, ?_⟩ | refine iteT ?_ | refine iteF ?_ | refine ⟨(by show (0 : Int) < _; omega), ?_⟩ | refine ⟨(⟨by omega, by omega⟩ : CDiv _ _), ?_⟩ | refine ⟨(⟨by decide, by decide, by decide⟩ : CPow _ _), ?_⟩ | refine ⟨(.inl ⟨by omega, by omega⟩ : CMul _ _), ?_⟩ | refine ⟨(.inr ⟨by omega, by omega⟩ : CMul _ _), ?_⟩ | refine Or.inl ⟨_, rfl, ?_⟩ | refine Or.inr ⟨_, rfl, ?_⟩ | refine ⟨_, _, _, _, true, rfl, .ty _, .base (.str _), kit_ty (by decide +kernel), ?_⟩ | refine ⟨_, _, rfl, ⟨by rw [sizeLine_eq]; omega, rfl⟩, ?_⟩ | refine ⟨_, _, rfl, .inl ⟨_, SqL.of (by assumption), rfl⟩, ?_⟩ | refine ⟨_, _, rfl, .inr ⟨_, SqT.of (by assumption), rfl⟩, ?_⟩))
    refine ⟨s3, us, rfl, upd_same, by omega, fun zs l nz hz nl => ?_⟩
    rw [names_eq np nk nz fun x => (hz x).trans (hus x)]
    have e4 := Same.put (o := .lst ((namesH ps rows).map V.str)) e3 (e3.free nl)
    have ndN : (namesH ps rows).Nodup := nodup_sortS (names_nodup np nk)
    have lN : (namesH ps rows).length ≤ 60 := by
      unfold namesH
      rw [sortS_length, List.length_append]
      have := List.length_filter_le (fun k => !decide (k ∈ ps)) (rows.map (·.1))
      omega
    have sG := s0.trans e4
    have cG := e4 _ _ c0
    have lG : upd (upd (upd (upd H0 s1 (SetL P w s1 (rows.map (·.1)))) s2 (SetL P w s2 ps)) s3 (SetL P w s3 us)) l (.lst ((namesH ps rows).map V.str)) l = _ := upd_same
    (repeat (first | refine ⟨_, rfl, ?_⟩ | refine ⟨rfl, ?_⟩ | refine ⟨_, _, rfl, rfl, ?_⟩ | refine iteT ?_ | refine iteF ?_ | refine ⟨(by show (0 : Int) < _; omega), ?_⟩ | refine ⟨(⟨by omega, by omega⟩ : CDiv _ _), ?_⟩ | refine ⟨(⟨by decide, by decide, by decide⟩ : CPow _ _), ?_⟩ | refine ⟨(.inl ⟨by omega, by omega⟩ : CMul _ _), ?_⟩ | refine ⟨(.inr ⟨by omega, by omega⟩ : CMul _ _), ?_⟩ | refine Or.inl ⟨_, rfl, ?_⟩ | refine Or.inr ⟨_, rfl, ?_⟩ | refine ⟨_, _, _, _, true, rfl, .ty _, .base (.str _), kit_ty (by decide +kernel), ?_⟩ | refine ⟨_, _, rfl, ⟨by rw [sizeLine_eq]; omega, rfl⟩, ?_⟩ | refine ⟨_, _, rfl, .inl ⟨_, SqL.of (by assumption), rfl⟩, ?_⟩ | refine ⟨_, _, rfl, .inr ⟨_, SqT.of (by assumption), rfl⟩, ?_⟩))
    refine ⟨⟨_, SqL.of upd_same⟩, for_it walk_list (fun i σ H' => ∃ (kvs' : List (Key × V)) (v3 : Option V), σ = [some (.ref d), some (.ref p), some (.ref c), v3] ∧ Same H H' ∧ H' l = some (.lst ((namesH ps rows).map V.str)) ∧ H' c = some (.dK kvs') ∧
        RowsN (fun l => H l = none) H' kvs' (((namesH ps rows).take i).map fun n => (n, sortS (rowG rows n))) ∧ ∀ j, j < i → ∀ m, (namesH ps rows)[j]? = some m → badH ps rows m = false)
      ⟨[], _, rfl, sG, lG, cG, .nil, fun j hj => absurd hj (Nat.not_lt_zero _)⟩ (fun i σ H' _ ⟨_, _, _, _, h, _⟩ => SqL.of h) ?_ ?_⟩
    · clear hH lG cG sG e4 e3 e2 e1 ns1 ns2 ns3 nl c0 s0
      rintro i v σ Hx H1 hi ⟨kvs', v3, rfl, s1, hL, hC, hP, hok⟩ ⟨rfl, hv⟩
      rw [List.length_map] at hi
      obtain ⟨n, hn⟩ : ∃ n, (namesH ps rows)[i]? = some n := ⟨_, List.getElem?_eq_getElem hi⟩
      have ev : v = V.str n := by
        rw [List.getElem?_map, hn] at hv
        exact (Option.some.inj hv).symm
      subst ev
      have bad : badH ps rows n = true → joF ps rows = some n := fun h => jo_some hn h hok
      (repeat (first | refine ⟨_, rfl, ?_⟩ | refine ⟨rfl, ?_⟩ | refine ⟨_, _, rfl, rfl, ?_⟩ | refine iteT ?_ | refine iteF ?_ | refine ⟨(by show (0 : Int) < _; omega), ?_⟩ | refine ⟨(⟨by omega, by omega⟩ : CDiv _ _), ?_⟩ | refine ⟨(⟨by decide, by decide, by decide⟩ : CPow _ _), ?_⟩ | refine ⟨(.inl ⟨by omega, by omega⟩ : CMul _ _), ?_⟩ | refine ⟨(.inr ⟨by omega, by omega⟩ : CMul _ _), ?_⟩ | refine Or.inl ⟨_, rfl, ?_⟩ | refine Or.inr ⟨_, rfl, ?_⟩ | refine ⟨_, _, _, _, true, rfl, .ty _, .base (.str _), kit_ty (by decide +kernel), ?_⟩ | refine ⟨_, _, rfl, ⟨by rw [sizeLine_eq]; omega, rfl⟩, ?_⟩ | refine ⟨_, _, rfl, .inl ⟨_, SqL.of (by assumption), rfl⟩, ?_⟩ | refine ⟨_, _, rfl, .inr ⟨_, SqT.of (by assumption), rfl⟩, ?_⟩))
      refine ⟨p, _, rfl, .inl (SqL.of (s1 _ _ hp)), rfl, flat_strs _, ?_⟩
      rw [if_pos rfl, inV_strs]
      have raise : badH ps rows n = true → ∀ dx H4, Same H1 H4 → H4 dx = some (.xd [("person", .str n)]) → E (.ref A.C_BadJobs) (some dx) H4 := fun h dx H4 s4 hdx => kE n (bad h) dx H4 (s1.trans s4) hdx
      by_cases hm : n ∈ ps
      · rw [decide_eq_true hm]
        (repeat (first | refine ⟨_, rfl, ?_⟩ | refine ⟨rfl, ?_⟩ | refine ⟨_, _, rfl, rfl, ?_⟩ | refine iteT ?_ | refine iteF ?_ | refine ⟨(by show (0 : Int) < _; omega), ?_⟩ | refine ⟨(⟨by omega, by omega⟩ : CDiv _ _), ?_⟩ | refine ⟨(⟨by decide, by decide, by decide⟩ : CPow _ _), ?_⟩ | refine ⟨(.inl ⟨by omega, by omega⟩ : CMul _ _), ?_⟩ | refine ⟨(.inr ⟨by omega, by omega⟩ : CMul _ _), ?_⟩ | refine Or.inl ⟨_, rfl, ?_⟩ | refine Or.inr ⟨_, rfl, ?_⟩ | refine ⟨_, _, _, _, true, rfl, .ty _, .base (.str _), kit_ty (by decide +kernel), ?_⟩ | refine ⟨_, _, rfl, ⟨by rw [sizeLine_eq]; omega, rfl⟩, ?_⟩ | refine ⟨_, _, rfl, .inl ⟨_, SqL.of (by assumption), rfl⟩, ?_⟩ | refine ⟨_, _, rfl, .inr ⟨_, SqT.of (by assumption), rfl⟩, ?_⟩))
        have g := hR.get n
        cases lk1 : rows.lookup n with
        | none =>
          rw [lk1] at g
          refine ⟨d, none, rfl, .inl ⟨kvs, .inr n, .inl (s1 _ _ hd), rfl, g.symm⟩, ?_⟩
          (repeat (first | refine ⟨_, rfl, ?_⟩ | refine ⟨rfl, ?_⟩ | refine ⟨_, _, rfl, rfl, ?_⟩ | refine iteT ?_ | refine iteF ?_ | refine ⟨(by show (0 : Int) < _; omega), ?_⟩ | refine ⟨(⟨by omega, by omega⟩ : CDiv _ _), ?_⟩ | refine ⟨(⟨by decide, by decide, by decide⟩ : CPow _ _), ?_⟩ | refine ⟨(.inl ⟨by omega, by omega⟩ : CMul _ _), ?_⟩ | refine ⟨(.inr ⟨by omega, by omega⟩ : CMul _ _), ?_⟩ | refine Or.inl ⟨_, rfl, ?_⟩ | refine Or.inr ⟨_, rfl, ?_⟩ | refine ⟨_, _, _, _, true, rfl, .ty _, .base (.str _), kit_ty (by decide +kernel), ?_⟩ | refine ⟨_, _, rfl, ⟨by rw [sizeLine_eq]; omega, rfl⟩, ?_⟩ | refine ⟨_, _, rfl, .inl ⟨_, SqL.of (by assumption), rfl⟩, ?_⟩ | refine ⟨_, _, rfl, .inr ⟨_, SqT.of (by assumption), rfl⟩, ?_⟩))
          exact fun dx H4 _ s4 hdx => raise (by unfold badH; rw [lk1]; simp) dx H4 s4 hdx
        | some ws =>
          rw [lk1] at g
          obtain ⟨rl, g1, g2, g3⟩ := g
          obtain ⟨lw, lx⟩ := md _ (mem_of_look lk1)
          have get1 : ∀ {G : Hp}, Same H G → DGet G d (.str n) (some (.ref rl)) := fun {G} sg => .inl ⟨kvs, .inr n, .inl (sg _ _ hd), rfl, g1.symm⟩
          refine ⟨d, some (.ref rl), rfl, get1 s1, ?_⟩
          (repeat (first | refine ⟨_, rfl, ?_⟩ | refine ⟨rfl, ?_⟩ | refine ⟨_, _, rfl, rfl, ?_⟩ | refine iteT ?_ | refine iteF ?_ | refine ⟨(by show (0 : Int) < _; omega), ?_⟩ | refine ⟨(⟨by omega, by omega⟩ : CDiv _ _), ?_⟩ | refine ⟨(⟨by decide, by decide, by decide⟩ : CPow _ _), ?_⟩ | refine ⟨(.inl ⟨by omega, by omega⟩ : CMul _ _), ?_⟩ | refine ⟨(.inr ⟨by omega, by omega⟩ : CMul _ _), ?_⟩ | refine Or.inl ⟨_, rfl, ?_⟩ | refine Or.inr ⟨_, rfl, ?_⟩ | refine ⟨_, _, _, _, true, rfl, .ty _, .base (.str _), kit_ty (by decide +kernel), ?_⟩ | refine ⟨_, _, rfl, ⟨by rw [sizeLine_eq]; omega, rfl⟩, ?_⟩ | refine ⟨_, _, rfl, .inl ⟨_, SqL.of (by assumption), rfl⟩, ?_⟩ | refine ⟨_, _, rfl, .inr ⟨_, SqT.of (by assumption), rfl⟩, ?_⟩))
          refine ⟨d, .ref rl, rfl, get1 s1, ?_⟩
          (repeat (first | refine ⟨_, rfl, ?_⟩ | refine ⟨rfl, ?_⟩ | refine ⟨_, _, rfl, rfl, ?_⟩ | refine iteT ?_ | refine iteF ?_ | refine ⟨(by show (0 : Int) < _; omega), ?_⟩ | refine ⟨(⟨by omega, by omega⟩ : CDiv _ _), ?_⟩ | refine ⟨(⟨by decide, by decide, by decide⟩ : CPow _ _), ?_⟩ | refine ⟨(.inl ⟨by omega, by omega⟩ : CMul _ _), ?_⟩ | refine ⟨(.inr ⟨by omega, by omega⟩ : CMul _ _), ?_⟩ | refine Or.inl ⟨_, rfl, ?_⟩ | refine Or.inr ⟨_, rfl, ?_⟩ | refine ⟨_, _, _, _, true, rfl, .ty _, .base (.str _), kit_ty (by decide +kernel), ?_⟩ | refine ⟨_, _, rfl, ⟨by rw [sizeLine_eq]; omega, rfl⟩, ?_⟩ | refine ⟨_, _, rfl, .inl ⟨_, SqL.of (by assumption), rfl⟩, ?_⟩ | refine ⟨_, _, rfl, .inr ⟨_, SqT.of (by assumption), rfl⟩, ?_⟩))
          refine ⟨_, _, rfl, .inl ⟨_, SqL.of (s1 _ _ g3), rfl⟩, ?_⟩
          (repeat (first | refine ⟨_, rfl, ?_⟩ | refine ⟨rfl, ?_⟩ | refine ⟨_, _, rfl, rfl, ?_⟩ | refine iteT ?_ | refine iteF ?_ | refine ⟨(by show (0 : Int) < _; omega), ?_⟩ | refine ⟨(⟨by omega, by omega⟩ : CDiv _ _), ?_⟩ | refine ⟨(⟨by decide, by decide, by decide⟩ : CPow _ _), ?_⟩ | refine ⟨(.inl ⟨by omega, by omega⟩ : CMul _ _), ?_⟩ | refine ⟨(.inr ⟨by omega, by omega⟩ : CMul _ _), ?_⟩ | refine Or.inl ⟨_, rfl, ?_⟩ | refine Or.inr ⟨_, rfl, ?_⟩ | refine ⟨_, _, _, _, true, rfl, .ty _, .base (.str _), kit_ty (by decide +kernel), ?_⟩ | refine ⟨_, _, rfl, ⟨by rw [sizeLine_eq]; omega, rfl⟩, ?_⟩ | refine ⟨_, _, rfl, .inl ⟨_, SqL.of (by assumption), rfl⟩, ?_⟩ | refine ⟨_, _, rfl, .inr ⟨_, SqT.of (by assumption), rfl⟩, ?_⟩))
          by_cases c24 : (24 : Int) < ((ws.map V.str).length : Int)
          · rw [decide_eq_true c24]
            rw [List.length_map] at c24
            (repeat (first | refine ⟨_, rfl, ?_⟩ | refine ⟨rfl, ?_⟩ | refine ⟨_, _, rfl, rfl, ?_⟩ | refine iteT ?_ | refine iteF ?_ | refine ⟨(by show (0 : Int) < _; omega), ?_⟩ | refine ⟨(⟨by omega, by omega⟩ : CDiv _ _), ?_⟩ | refine ⟨(⟨by decide, by decide, by decide⟩ : CPow _ _), ?_⟩ | refine ⟨(.inl ⟨by omega, by omega⟩ : CMul _ _), ?_⟩ | refine ⟨(.inr ⟨by omega, by omega⟩ : CMul _ _), ?_⟩ | refine Or.inl ⟨_, rfl, ?_⟩ | refine Or.inr ⟨_, rfl, ?_⟩ | refine ⟨_, _, _, _, true, rfl, .ty _, .base (.str _), kit_ty (by decide +kernel), ?_⟩ | refine ⟨_, _, rfl, ⟨by rw [sizeLine_eq]; omega, rfl⟩, ?_⟩ | refine ⟨_, _, rfl, .inl ⟨_, SqL.of (by assumption), rfl⟩, ?_⟩ | refine ⟨_, _, rfl, .inr ⟨_, SqT.of (by assumption), rfl⟩, ?_⟩))
            exact fun dx H4 _ s4 hdx => raise (by unfold badH; rw [lk1]; simp [show 24 < ws.length by omega]) dx H4 s4 hdx
          · rw [decide_eq_false c24]
            rw [List.length_map] at c24
            (repeat (first | refine ⟨_, rfl, ?_⟩ | refine ⟨rfl, ?_⟩ | refine ⟨_, _, rfl, rfl, ?_⟩ | refine iteT ?_ | refine iteF ?_ | refine ⟨(by show (0 : Int) < _; omega), ?_⟩ | refine ⟨(⟨by omega, by omega⟩ : CDiv _ _), ?_⟩ | refine ⟨(⟨by decide, by decide, by decide⟩ : CPow _ _), ?_⟩ | refine ⟨(.inl ⟨by omega, by omega⟩ : CMul _ _), ?_⟩ | refine ⟨(.inr ⟨by omega, by omega⟩ : CMul _ _), ?_⟩ | refine Or.inl ⟨_, rfl, ?_⟩ | refine Or.inr ⟨_, rfl, ?_⟩ | refine ⟨_, _, _, _, true, rfl, .ty _, .base (.str _), kit_ty (by decide +kernel), ?_⟩ | refine ⟨_, _, rfl, ⟨by rw [sizeLine_eq]; omega, rfl⟩, ?_⟩ | refine ⟨_, _, rfl, .inl ⟨_, SqL.of (by assumption), rfl⟩, ?_⟩ | refine ⟨_, _, rfl, .inr ⟨_, SqT.of (by assumption), rfl⟩, ?_⟩))
            refine ⟨d, .ref rl, rfl, get1 s1, ?_⟩
            (repeat (first | refine ⟨_, rfl, ?_⟩ | refine ⟨rfl, ?_⟩ | refine ⟨_, _, rfl, rfl, ?_⟩ | refine iteT ?_ | refine iteF ?_ | refine ⟨(by show (0 : Int) < _; omega), ?_⟩ | refine ⟨(⟨by omega, by omega⟩ : CDiv _ _), ?_⟩ | refine ⟨(⟨by decide, by decide, by decide⟩ : CPow _ _), ?_⟩ | refine ⟨(.inl ⟨by omega, by omega⟩ : CMul _ _), ?_⟩ | refine ⟨(.inr ⟨by omega, by omega⟩ : CMul _ _), ?_⟩ | refine Or.inl ⟨_, rfl, ?_⟩ | refine Or.inr ⟨_, rfl, ?_⟩ | refine ⟨_, _, _, _, true, rfl, .ty _, .base (.str _), kit_ty (by decide +kernel), ?_⟩ | refine ⟨_, _, rfl, ⟨by rw [sizeLine_eq]; omega, rfl⟩, ?_⟩ | refine ⟨_, _, rfl, .inl ⟨_, SqL.of (by assumption), rfl⟩, ?_⟩ | refine ⟨_, _, rfl, .inr ⟨_, SqT.of (by assumption), rfl⟩, ?_⟩))
            refine ⟨rl, ws, rfl, s1 _ _ g3, lw, lx, fun H3 s3 => ?_⟩
            cases hf : fwF ws with
            | some k =>
              have e : fwV ws = .int (k : Nat) := by unfold fwV; rw [hf]
              rw [e]
              (repeat (first | refine ⟨_, rfl, ?_⟩ | refine ⟨rfl, ?_⟩ | refine ⟨_, _, rfl, rfl, ?_⟩ | refine iteT ?_ | refine iteF ?_ | refine ⟨(by show (0 : Int) < _; omega), ?_⟩ | refine ⟨(⟨by omega, by omega⟩ : CDiv _ _), ?_⟩ | refine ⟨(⟨by decide, by decide, by decide⟩ : CPow _ _), ?_⟩ | refine ⟨(.inl ⟨by omega, by omega⟩ : CMul _ _), ?_⟩ | refine ⟨(.inr ⟨by omega, by omega⟩ : CMul _ _), ?_⟩ | refine Or.inl ⟨_, rfl, ?_⟩ | refine Or.inr ⟨_, rfl, ?_⟩ | refine ⟨_, _, _, _, true, rfl, .ty _, .base (.str _), kit_ty (by decide +kernel), ?_⟩ | refine ⟨_, _, rfl, ⟨by rw [sizeLine_eq]; omega, rfl⟩, ?_⟩ | refine ⟨_, _, rfl, .inl ⟨_, SqL.of (by assumption), rfl⟩, ?_⟩ | refine ⟨_, _, rfl, .inr ⟨_, SqT.of (by assumption), rfl⟩, ?_⟩))
              exact fun dx H4 _ s4 hdx => raise (by unfold badH; rw [lk1]; simp [hf]) dx H4 (s3.trans s4) hdx
            | none =>
              have e : fwV ws = .non := by unfold fwV; rw [hf]
              rw [e]
              have s13 := s1.trans s3
              (repeat (first | refine ⟨_, rfl, ?_⟩ | refine ⟨rfl, ?_⟩ | refine ⟨_, _, rfl, rfl, ?_⟩ | refine iteT ?_ | refine iteF ?_ | refine ⟨(by show (0 : Int) < _; omega), ?_⟩ | refine ⟨(⟨by omega, by omega⟩ : CDiv _ _), ?_⟩ | refine ⟨(⟨by decide, by decide, by decide⟩ : CPow _ _), ?_⟩ | refine ⟨(.inl ⟨by omega, by omega⟩ : CMul _ _), ?_⟩ | refine ⟨(.inr ⟨by omega, by omega⟩ : CMul _ _), ?_⟩ | refine Or.inl ⟨_, rfl, ?_⟩ | refine Or.inr ⟨_, rfl, ?_⟩ | refine ⟨_, _, _, _, true, rfl, .ty _, .base (.str _), kit_ty (by decide +kernel), ?_⟩ | refine ⟨_, _, rfl, ⟨by rw [sizeLine_eq]; omega, rfl⟩, ?_⟩ | refine ⟨_, _, rfl, .inl ⟨_, SqL.of (by assumption), rfl⟩, ?_⟩ | refine ⟨_, _, rfl, .inr ⟨_, SqT.of (by assumption), rfl⟩, ?_⟩))
              refine ⟨d, .ref rl, rfl, get1 s13, ?_⟩
              (repeat (first | refine ⟨_, rfl, ?_⟩ | refine ⟨rfl, ?_⟩ | refine ⟨_, _, rfl, rfl, ?_⟩ | refine iteT ?_ | refine iteF ?_ | refine ⟨(by show (0 : Int) < _; omega), ?_⟩ | refine ⟨(⟨by omega, by omega⟩ : CDiv _ _), ?_⟩ | refine ⟨(⟨by decide, by decide, by decide⟩ : CPow _ _), ?_⟩ | refine ⟨(.inl ⟨by omega, by omega⟩ : CMul _ _), ?_⟩ | refine ⟨(.inr ⟨by omega, by omega⟩ : CMul _ _), ?_⟩ | refine Or.inl ⟨_, rfl, ?_⟩ | refine Or.inr ⟨_, rfl, ?_⟩ | refine ⟨_, _, _, _, true, rfl, .ty _, .base (.str _), kit_ty (by decide +kernel), ?_⟩ | refine ⟨_, _, rfl, ⟨by rw [sizeLine_eq]; omega, rfl⟩, ?_⟩ | refine ⟨_, _, rfl, .inl ⟨_, SqL.of (by assumption), rfl⟩, ?_⟩ | refine ⟨_, _, rfl, .inr ⟨_, SqT.of (by assumption), rfl⟩, ?_⟩))
              refine ⟨rl, ws, rfl, SqL.of (s13 _ _ g3), by omega, fun ys q pm so nq => ?_⟩
              rw [sortS_eq pm so]
              have s4 : Same H3 (upd H3 q (.lst ((sortS ws).map V.str))) := Same.new nq
              have hl : kvs'.length ≤ 60 := by
                rw [hP.length, List.length_map, List.length_take]
                omega
              have good : badH ps rows n = false := by
                unfold badH
                rw [lk1]
                simp [hm, hf]
                omega
              have fresh : n ∉ (((namesH ps rows).take i).map fun n => (n, sortS (rowG rows n))).map (·.1) := by
                rw [List.map_map]
                intro z
                obtain ⟨m, hm1, hm2⟩ := List.mem_map.mp z
                cases (show m = n from hm2)
                exact not_before ndN hn hm1
              have hq : H q = none := s13.free nq
              have P2 := (((hP.same s3).same s4).put (n := n) (ws := sortS ws) (l := q) hq upd_same)
              have e2 : putR (((namesH ps rows).take i).map fun n => (n, sortS (rowG rows n))) n (sortS ws) = ((namesH ps rows).take (i + 1)).map fun n => (n, sortS (rowG rows n)) := by
                unfold putR
                rw [if_neg fresh, told_snoc hn fun n => sortS (rowG rows n)]
                unfold rowG
                rw [lk1]
                rfl
              rw [e2] at P2
              (repeat (first | refine ⟨_, rfl, ?_⟩ | refine ⟨rfl, ?_⟩ | refine ⟨_, _, rfl, rfl, ?_⟩ | refine iteT ?_ | refine iteF ?_ | refine ⟨(by show (0 : Int) < _; omega), ?_⟩ | refine ⟨(⟨by omega, by omega⟩ : CDiv _ _), ?_⟩ | refine ⟨(⟨by decide, by decide, by decide⟩ : CPow _ _), ?_⟩ | refine ⟨(.inl ⟨by omega, by omega⟩ : CMul _ _), ?_⟩ | refine ⟨(.inr ⟨by omega, by omega⟩ : CMul _ _), ?_⟩ | refine Or.inl ⟨_, rfl, ?_⟩ | refine Or.inr ⟨_, rfl, ?_⟩ | refine ⟨_, _, _, _, true, rfl, .ty _, .base (.str _), kit_ty (by decide +kernel), ?_⟩ | refine ⟨_, _, rfl, ⟨by rw [sizeLine_eq]; omega, rfl⟩, ?_⟩ | refine ⟨_, _, rfl, .inl ⟨_, SqL.of (by assumption), rfl⟩, ?_⟩ | refine ⟨_, _, rfl, .inr ⟨_, SqT.of (by assumption), rfl⟩, ?_⟩))
              refine ⟨c, _, rfl, .inl ⟨kvs', .inr n, s4 _ _ (s3 _ _ hC), rfl, small1000 (by omega), rfl⟩, ?_⟩
              have nc' : c ≠ q := fun e => by rw [← e, s3 _ _ hC] at nq; cases nq
              refine ⟨_, _, rfl, Same.put (s13.trans s4) nc, ?_, upd_same, P2.mv fun l' o nl e => ⟨nl, ?_⟩, fun j hj m hm2 => ?_⟩
              · rw [upd_ne]
                · exact s4 _ _ (s3 _ _ hL)
                · exact fun e => by rw [e, hC] at hL; cases hL
              · rw [upd_ne]
                · exact e
                · exact fun e2 => by rw [e2, s4 _ _ (s3 _ _ hC)] at e; cases e
              · by_cases e : j = i
                · subst e
                  rw [hn] at hm2
                  cases hm2
                  exact good
                · exact hok j (by omega) m hm2
      · rw [decide_eq_false hm]
        (repeat (first | refine ⟨_, rfl, ?_⟩ | refine ⟨rfl, ?_⟩ | refine ⟨_, _, rfl, rfl, ?_⟩ | refine iteT ?_ | refine iteF ?_ | refine ⟨(by show (0 : Int) < _; omega), ?_⟩ | refine ⟨(⟨by omega, by omega⟩ : CDiv _ _), ?_⟩ | refine ⟨(⟨by decide, by decide, by decide⟩ : CPow _ _), ?_⟩ | refine ⟨(.inl ⟨by omega, by omega⟩ : CMul _ _), ?_⟩ | refine ⟨(.inr ⟨by omega, by omega⟩ : CMul _ _), ?_⟩ | refine Or.inl ⟨_, rfl, ?_⟩ | refine Or.inr ⟨_, rfl, ?_⟩ | refine ⟨_, _, _, _, true, rfl, .ty _, .base (.str _), kit_ty (by decide +kernel), ?_⟩ | refine ⟨_, _, rfl, ⟨by rw [sizeLine_eq]; omega, rfl⟩, ?_⟩ | refine ⟨_, _, rfl, .inl ⟨_, SqL.of (by assumption), rfl⟩, ?_⟩ | refine ⟨_, _, rfl, .inr ⟨_, SqT.of (by assumption), rfl⟩, ?_⟩))
        exact fun dx H4 _ s4 hdx => raise (by unfold badH; simp [hm]) dx H4 s4 hdx
    · rintro σ H1 ⟨kvs', v3, rfl, s1, hL, hC, hP, hok⟩
      have none_ : joF ps rows = none := jo_none fun m hm => by
        obtain ⟨j, hj⟩ := List.mem_iff_getElem?.mp hm
        have := List.getElem?_eq_some_iff.mp hj
        exact hok j (by first | exact this.1 | (rw [List.length_map]; exact this.1)) m hj
      (repeat (first | refine ⟨_, rfl, ?_⟩ | refine ⟨rfl, ?_⟩ | refine ⟨_, _, rfl, rfl, ?_⟩ | refine iteT ?_ | refine iteF ?_ | refine ⟨(by show (0 : Int) < _; omega), ?_⟩ | refine ⟨(⟨by omega, by omega⟩ : CDiv _ _), ?_⟩ | refine ⟨(⟨by decide, by decide, by decide⟩ : CPow _ _), ?_⟩ | refine ⟨(.inl ⟨by omega, by omega⟩ : CMul _ _), ?_⟩ | refine ⟨(.inr ⟨by omega, by omega⟩ : CMul _ _), ?_⟩ | refine Or.inl ⟨_, rfl, ?_⟩ | refine Or.inr ⟨_, rfl, ?_⟩ | refine ⟨_, _, _, _, true, rfl, .ty _, .base (.str _), kit_ty (by decide +kernel), ?_⟩ | refine ⟨_, _, rfl, ⟨by rw [sizeLine_eq]; omega, rfl⟩, ?_⟩ | refine ⟨_, _, rfl, .inl ⟨_, SqL.of (by assumption), rfl⟩, ?_⟩ | refine ⟨_, _, rfl, .inr ⟨_, SqT.of (by assumption), rfl⟩, ?_⟩))
      refine kQ none_ c H1 kvs' nc s1 hC ?_
      rw [List.length_map, List.take_of_length_le (Nat.le_refl _), names_good np nk none_] at hP
      exact hP
end
end BF25
set_option Elab.async false
set_option linter.all false
set_option maxRecDepth 100000
set_option maxHeartbeats 4000000
namespace BF25
open BF
open PySem PySem.Spec PyProof.Rows L2
open C8 (Cal CalAt Met Mak cal0 met0 mak0 fn0 pe_c pe_mk pe_mt pe_mt0 pe_gc fnScope fnBody fnArgs fnScope_by)
open SX
section
variable {P : Program} {w : World} {K : PySem.W.Frag} {mg : Str → Option Value} {base : Heap} {A : Ad}
def spHI (A : Ad) : Sp := fun vs H Q E => ∃ (x dx a d : Addr) (ps : List Str) (kvs : List (Key × V)) (rows : List Rw) (N : Addr → Prop), vs = [.ref x, .ref a, .ref d] ∧ H x = some (.ins A.C_Hires dx []) ∧ H a = some (.lst (ps.map V.str)) ∧ ps.length ≤ 1000 ∧ (∀ y ∈ ps, y.length ≤ 1000) ∧
  H d = some (.dK kvs) ∧ RowsN N H kvs rows ∧ (rows.map (·.1)).Nodup ∧ rows.length ≤ 30 ∧ Mid rows ∧
  (∀ k, peF ps = some k → ∀ e H', FrH x H H' → H' e = some (.xd [("index", .int k)]) → E (.ref A.C_BadThings) (some e) H') ∧
  (peF ps = none → ∀ n, joF ps rows = some n → ∀ e H', FrH x H H' → H' e = some (.xd [("person", .str n)]) → E (.ref A.C_BadJobs) (some e) H') ∧
  (peF ps = none → joF ps rows = none → ∀ H', FrH x H H' → HireO A.C_Hires (fun a => a = x ∨ H a = none) H' x (sortS ps) (toldR ps rows) → Q .non H')
theorem pe_none {ps : List Str} (h : peF ps = none) : ps.length ≤ 24 ∧ fwF ps = none := by
  unfold peF at h
  by_cases c : ps.length ≤ 24
  · rw [if_pos c] at h
    cases e : fwF ps with
    | none => exact ⟨c, rfl⟩
    | some k => rw [e] at h; cases h
  · rw [if_neg c] at h
    cases h
theorem ok_Hires__init (T : Txt K mg A) : FnOk P w K mg base (L2.CX P w) 4 A.f_Hires__init A.fd_Hires__init ["self", "people", "jobs"] (spHI A) := by
  refine fnX T.u_Hires__init sc_Hires__init (fun vs H Q E h => ?_) (fun cdv B outer s H vs Q E hr h => ?_)
  · obtain ⟨x, dx, a, d, ps, kvs, rows, N, rfl, _⟩ := h
    rfl
  · obtain ⟨x, dx, a, d, ps, kvs, rows, N, rfl, hx, ha, hl, hz, hd, hR, nk, lk, md, kT, kJ, kQ⟩ := h
    refine ⟨_, (pss_cons (ps_fld (pv 0) (by exact (pe_cX (cal_sorted_things T) hr (by decide) rfl (pa_cons (pv 1) (pa_cons (pe_gint rfl T.g_MOST_PEOPLE) pa_nil)) (takes_of rfl rfl rfl rfl))) rfl)
 (pss_one (ps_fld (pv 0) (by exact (pe_cX (cal_checked_jobs T) hr (by decide) rfl (pa_cons (pv 2) (pa_cons (pe_fldK K (pv 0) rfl) pa_nil)) (takes_of rfl rfl rfl rfl))) rfl))), ?_⟩
    (repeat (first | refine ⟨_, rfl, ?_⟩ | refine ⟨rfl, ?_⟩ | refine ⟨_, _, rfl, rfl, ?_⟩ | refine iteT ?_ | refine iteF ?_ | refine ⟨(by show (0 : Int) < _; omega), ?_⟩ | refine ⟨(⟨by omega, by omega⟩ : CDiv _ _), ?_⟩ | refine ⟨(⟨by decide, by decide, by decide⟩ : CPow _ _), ?_⟩ | refine ⟨(.inl ⟨by omega, by omega⟩ : CMul _ _), ?_⟩ | refine ⟨(.inr ⟨by omega, by omega⟩ : CMul _ _), ?_⟩ | refine Or.inl ⟨_, rfl, ?_⟩ | refine Or.inr ⟨_, rfl, ?_⟩ | refine ⟨_, _, _, _, true, rfl, .ty _, .base (.str _), kit_ty (by decide +kernel), ?_⟩ | refine ⟨_, _, rfl, ⟨by rw [sizeLine_eq]; omega, rfl⟩, ?_⟩ | refine ⟨_, _, rfl, .inl ⟨_, SqL.of (by assumption), rfl⟩, ?_⟩ | refine ⟨_, _, rfl, .inr ⟨_, SqT.of (by assumption), rfl⟩, ?_⟩))
    refine ⟨a, ps, rfl, ha, hl, hz, fun k hk e H1 s1 he => kT k hk e H1 (fun b o _ q => s1 _ _ q) he, fun h0 p H1 np s1 hp => ?_⟩
    obtain ⟨l24, f0⟩ := pe_none h0
    have nd := fw_nd f0
    have px : p ≠ x := fun e => by rw [e, hx] at np; cases np
    refine ⟨_, rfl, x, A.C_Hires, dx, [], rfl, s1 _ _ hx, T.cl_Hires, T.na_Hires__people, (by decide), ?_⟩
    have fr1 : FrH x H (upd H1 x (.ins A.C_Hires dx (putF "_people" (.ref p) []))) := fun b o nb e => by rw [upd_ne nb]; exact s1 _ _ e
    have hx2 := upd_same (H := H1) (a := x) (o := .ins A.C_Hires dx (putF "_people" (.ref p) []))
    have hp2 : upd H1 x (.ins A.C_Hires dx (putF "_people" (.ref p) [])) p = some (.lst ((sortS ps).map V.str)) := (upd_ne px).trans hp
    generalize hG : upd H1 x (.ins A.C_Hires dx (putF "_people" (.ref p) [])) = G at *
    (repeat (first | refine ⟨_, rfl, ?_⟩ | refine ⟨rfl, ?_⟩ | refine ⟨_, _, rfl, rfl, ?_⟩ | refine iteT ?_ | refine iteF ?_ | refine ⟨(by show (0 : Int) < _; omega), ?_⟩ | refine ⟨(⟨by omega, by omega⟩ : CDiv _ _), ?_⟩ | refine ⟨(⟨by decide, by decide, by decide⟩ : CPow _ _), ?_⟩ | refine ⟨(.inl ⟨by omega, by omega⟩ : CMul _ _), ?_⟩ | refine ⟨(.inr ⟨by omega, by omega⟩ : CMul _ _), ?_⟩ | refine Or.inl ⟨_, rfl, ?_⟩ | refine Or.inr ⟨_, rfl, ?_⟩ | refine ⟨_, _, _, _, true, rfl, .ty _, .base (.str _), kit_ty (by decide +kernel), ?_⟩ | refine ⟨_, _, rfl, ⟨by rw [sizeLine_eq]; omega, rfl⟩, ?_⟩ | refine ⟨_, _, rfl, .inl ⟨_, SqL.of (by assumption), rfl⟩, ?_⟩ | refine ⟨_, _, rfl, .inr ⟨_, SqT.of (by assumption), rfl⟩, ?_⟩))
    refine ⟨x, A.C_Hires, dx, _, _, rfl, hx2, T.cl_Hires, T.na_Hires__people, (by rw [lookup_putF, if_pos rfl]), ?_⟩
    have dxn : d ≠ x := fun e => by rw [e, hx] at hd; cases hd
    have hR2 : RowsN N G kvs rows := hR.mv fun l xs n e => ⟨n, fr1 _ _ (fun z => by rw [z, hx] at e; cases e) e⟩
    refine ⟨d, p, kvs, rows, sortS ps, N, rfl, fr1 _ _ dxn hd, hR2, nk, lk, md, hp2, nodup_sortS nd, by rw [sortS_length]; exact l24, fun n hn e H2 s2 he => ?_, fun h1 c H2 kvs2 nc s2 hc r2 => ?_⟩
    · rw [jo_perm nd nk (sortS_perm ps)] at hn
      exact kJ h0 n hn e H2 (fun b o nb q => s2 _ _ (fr1 b o nb q)) he
    · rw [jo_perm nd nk (sortS_perm ps)] at h1
      rw [told_sorted] at r2
      refine ⟨_, rfl, x, A.C_Hires, dx, _, rfl, s2 _ _ hx2, T.cl_Hires, T.na_Hires__jobs, (by show 1 < 1000; decide), ?_⟩
      have fre : ∀ b, G b = none → H b = none := fun b nb => by
        by_cases e : b = x
        · rw [e, hx2] at nb; cases nb
        · cases q : H b with
          | none => rfl
          | some o => rw [fr1 b o e q] at nb; cases nb
      have cx : c ≠ x := fun e => by rw [e, hx2] at nc; cases nc
      refine kQ h0 h1 _ (fun b o nb e => by rw [upd_ne nb]; exact s2 _ _ (fr1 b o nb e)) ⟨dx, p, c, kvs2, .inl rfl, .inr np, .inr (fre c nc), upd_same, (upd_ne px).trans (s2 _ _ hp2), (upd_ne cx).trans hc, r2.mv fun l xs nl e => ⟨.inr (fre l nl), ?_⟩⟩
      have lx : l ≠ x := fun z => by rw [z, hx2] at nl; cases nl
      rw [upd_ne lx]
      exact e
theorem mak_Hires (T : Txt K mg A) : MakX P w K mg base 4 "Hires" A.C_Hires (spHI A) := ⟨_, _, _, ⟨T.mk_Hires, T.fi_Hires__init, T.fn_Hires__init, T.kc_Hires⟩, ok_Hires__init T, T.gC_Hires, T.b_Hires__init⟩
/-- people() -/
def spHP (A : Ad) : Sp := fun vs H Q _ => ∃ (x : Addr) (ps : List Str) (rows : List Rw) (N : Addr → Prop), vs = [.ref x] ∧ HireO A.C_Hires N H x ps rows ∧ ∀ p H', H p = none → Same H H' → H' p = some (.lst (ps.map V.str)) → Q (.ref p) H'
theorem met_Hires_people (T : Txt K mg A) : Met P w K mg base 1 A.C_Hires "people" (spHP A) [] := by
  refine met0 T.cl_Hires ⟨T.fi_Hires_people, T.fn_Hires_people, T.kp_Hires_people⟩ T.u_Hires_people T.b_Hires_people sc_Hires_people (fun vs H Q E h => ?_) (fun cdv B outer s H vs Q E hr h => ?_)
  · obtain ⟨x, ps, rows, N, rfl, _⟩ := h
    rfl
  · obtain ⟨x, ps, rows, N, rfl, ⟨dx, lp, td, kvs, _, _, _, h1, h2, h3, h4⟩, k⟩ := h
    refine ⟨_, (pss_one (ps_ret (pe_callTy (listK K) (by rfl) T.z_list (by decide +kernel) (pa_cons (pe_fldK K (pv 0) rfl) pa_nil)))), ?_⟩
    (repeat (first | refine ⟨_, rfl, ?_⟩ | refine ⟨rfl, ?_⟩ | refine ⟨_, _, rfl, rfl, ?_⟩ | refine iteT ?_ | refine iteF ?_ | refine ⟨(by show (0 : Int) < _; omega), ?_⟩ | refine ⟨(⟨by omega, by omega⟩ : CDiv _ _), ?_⟩ | refine ⟨(⟨by decide, by decide, by decide⟩ : CPow _ _), ?_⟩ | refine ⟨(.inl ⟨by omega, by omega⟩ : CMul _ _), ?_⟩ | refine ⟨(.inr ⟨by omega, by omega⟩ : CMul _ _), ?_⟩ | refine Or.inl ⟨_, rfl, ?_⟩ | refine Or.inr ⟨_, rfl, ?_⟩ | refine ⟨_, _, _, _, true, rfl, .ty _, .base (.str _), kit_ty (by decide +kernel), ?_⟩ | refine ⟨_, _, rfl, ⟨by rw [sizeLine_eq]; omega, rfl⟩, ?_⟩ | refine ⟨_, _, rfl, .inl ⟨_, SqL.of (by assumption), rfl⟩, ?_⟩ | refine ⟨_, _, rfl, .inr ⟨_, SqT.of (by assumption), rfl⟩, ?_⟩))
    refine ⟨x, A.C_Hires, dx, _, _, rfl, h1, T.cl_Hires, T.na_Hires__people, hfl_people _ _, ?_⟩
    (repeat (first | refine ⟨_, rfl, ?_⟩ | refine ⟨rfl, ?_⟩ | refine ⟨_, _, rfl, rfl, ?_⟩ | refine iteT ?_ | refine iteF ?_ | refine ⟨(by show (0 : Int) < _; omega), ?_⟩ | refine ⟨(⟨by omega, by omega⟩ : CDiv _ _), ?_⟩ | refine ⟨(⟨by decide, by decide, by decide⟩ : CPow _ _), ?_⟩ | refine ⟨(.inl ⟨by omega, by omega⟩ : CMul _ _), ?_⟩ | refine ⟨(.inr ⟨by omega, by omega⟩ : CMul _ _), ?_⟩ | refine Or.inl ⟨_, rfl, ?_⟩ | refine Or.inr ⟨_, rfl, ?_⟩ | refine ⟨_, _, _, _, true, rfl, .ty _, .base (.str _), kit_ty (by decide +kernel), ?_⟩ | refine ⟨_, _, rfl, ⟨by rw [sizeLine_eq]; omega, rfl⟩, ?_⟩ | refine ⟨_, _, rfl, .inl ⟨_, SqL.of (by assumption), rfl⟩, ?_⟩ | refine ⟨_, _, rfl, .inr ⟨_, SqT.of (by assumption), rfl⟩, ?_⟩))
    exact ⟨lp, _, rfl, .inl (SqL.of h2), fun p hp => k p _ hp (Same.new hp) upd_same⟩
/-- jobs_of(person) -/
def spHJ (A : Ad) : Sp := fun vs H Q E => ∃ (x : Addr) (n : Str) (ps : List Str) (rows : List Rw) (N : Addr → Prop), vs = [.ref x, .str n] ∧ HireO A.C_Hires N H x ps rows ∧
  (∀ ws, rows.lookup n = some ws → ∀ p H', H p = none → Same H H' → H' p = some (.lst (ws.map V.str)) → Q (.ref p) H') ∧ (rows.lookup n = none → ∀ e H', Same H H' → H' e = some (.xd [("thing", .str n)]) → E (.ref A.C_NoThing) (some e) H')
theorem met_Hires_jobs_of (T : Txt K mg A) : MetX P w K mg base 3 A.C_Hires "jobs_of" (spHJ A) := by
  refine ⟨_, _, _, T.cl_Hires, ⟨T.fi_Hires_jobs_of, T.fn_Hires_jobs_of, T.kp_Hires_jobs_of⟩, fnX T.u_Hires_jobs_of sc_Hires_jobs_of (fun vs H Q E h => ?_) (fun cdv B outer s H vs Q E hr h => ?_), T.b_Hires_jobs_of⟩
  · obtain ⟨x, n, ps, rows, N, rfl, _⟩ := h
    rfl
  · obtain ⟨x, n, ps, rows, N, rfl, ⟨dx, lp, td, kvs, _, _, _, h1, h2, h3, h4⟩, kQ, kE⟩ := h
    refine ⟨_, (pss_cons (ps_if (pt_cmp (pc_dnotin (hu_of hr) (pv 1) (pe_fldK K (pv 0) rfl))) (pss_one (ps_raise rfl (takes_of rfl rfl rfl rfl) (pm_NoThing T (hr.mono (by decide)) (pa_cons (pv 1) pa_nil)))) pss_nil)
 (pss_one (ps_ret (pe_callTy (listK K) (by rfl) T.z_list (by decide +kernel) (pa_cons (pe_dget (hu_of hr) (pe_fldK K (pv 0) rfl) (pv 1) (fun _ _ => rfl)) pa_nil))))), ?_⟩
    (repeat (first | refine ⟨_, rfl, ?_⟩ | refine ⟨rfl, ?_⟩ | refine ⟨_, _, rfl, rfl, ?_⟩ | refine iteT ?_ | refine iteF ?_ | refine ⟨(by show (0 : Int) < _; omega), ?_⟩ | refine ⟨(⟨by omega, by omega⟩ : CDiv _ _), ?_⟩ | refine ⟨(⟨by decide, by decide, by decide⟩ : CPow _ _), ?_⟩ | refine ⟨(.inl ⟨by omega, by omega⟩ : CMul _ _), ?_⟩ | refine ⟨(.inr ⟨by omega, by omega⟩ : CMul _ _), ?_⟩ | refine Or.inl ⟨_, rfl, ?_⟩ | refine Or.inr ⟨_, rfl, ?_⟩ | refine ⟨_, _, _, _, true, rfl, .ty _, .base (.str _), kit_ty (by decide +kernel), ?_⟩ | refine ⟨_, _, rfl, ⟨by rw [sizeLine_eq]; omega, rfl⟩, ?_⟩ | refine ⟨_, _, rfl, .inl ⟨_, SqL.of (by assumption), rfl⟩, ?_⟩ | refine ⟨_, _, rfl, .inr ⟨_, SqT.of (by assumption), rfl⟩, ?_⟩))
    refine ⟨x, A.C_Hires, dx, _, _, rfl, h1, T.cl_Hires, T.na_Hires__jobs, hfl_jobs _ _, ?_⟩
    have g := h4.get n
    cases lk1 : rows.lookup n with
    | some ws =>
      rw [lk1] at g
      obtain ⟨l, g1, _, g3⟩ := g
      refine ⟨td, some (.ref l), rfl, .inl ⟨kvs, .inr n, .inl h3, rfl, g1.symm⟩, ?_⟩
      (repeat (first | refine ⟨_, rfl, ?_⟩ | refine ⟨rfl, ?_⟩ | refine ⟨_, _, rfl, rfl, ?_⟩ | refine iteT ?_ | refine iteF ?_ | refine ⟨(by show (0 : Int) < _; omega), ?_⟩ | refine ⟨(⟨by omega, by omega⟩ : CDiv _ _), ?_⟩ | refine ⟨(⟨by decide, by decide, by decide⟩ : CPow _ _), ?_⟩ | refine ⟨(.inl ⟨by omega, by omega⟩ : CMul _ _), ?_⟩ | refine ⟨(.inr ⟨by omega, by omega⟩ : CMul _ _), ?_⟩ | refine Or.inl ⟨_, rfl, ?_⟩ | refine Or.inr ⟨_, rfl, ?_⟩ | refine ⟨_, _, _, _, true, rfl, .ty _, .base (.str _), kit_ty (by decide +kernel), ?_⟩ | refine ⟨_, _, rfl, ⟨by rw [sizeLine_eq]; omega, rfl⟩, ?_⟩ | refine ⟨_, _, rfl, .inl ⟨_, SqL.of (by assumption), rfl⟩, ?_⟩ | refine ⟨_, _, rfl, .inr ⟨_, SqT.of (by assumption), rfl⟩, ?_⟩))
      refine ⟨x, A.C_Hires, dx, _, _, rfl, h1, T.cl_Hires, T.na_Hires__jobs, hfl_jobs _ _, ?_⟩
      (repeat (first | refine ⟨_, rfl, ?_⟩ | refine ⟨rfl, ?_⟩ | refine ⟨_, _, rfl, rfl, ?_⟩ | refine iteT ?_ | refine iteF ?_ | refine ⟨(by show (0 : Int) < _; omega), ?_⟩ | refine ⟨(⟨by omega, by omega⟩ : CDiv _ _), ?_⟩ | refine ⟨(⟨by decide, by decide, by decide⟩ : CPow _ _), ?_⟩ | refine ⟨(.inl ⟨by omega, by omega⟩ : CMul _ _), ?_⟩ | refine ⟨(.inr ⟨by omega, by omega⟩ : CMul _ _), ?_⟩ | refine Or.inl ⟨_, rfl, ?_⟩ | refine Or.inr ⟨_, rfl, ?_⟩ | refine ⟨_, _, _, _, true, rfl, .ty _, .base (.str _), kit_ty (by decide +kernel), ?_⟩ | refine ⟨_, _, rfl, ⟨by rw [sizeLine_eq]; omega, rfl⟩, ?_⟩ | refine ⟨_, _, rfl, .inl ⟨_, SqL.of (by assumption), rfl⟩, ?_⟩ | refine ⟨_, _, rfl, .inr ⟨_, SqT.of (by assumption), rfl⟩, ?_⟩))
      refine ⟨td, .ref l, rfl, .inl ⟨kvs, .inr n, .inl h3, rfl, g1.symm⟩, ?_⟩
      (repeat (first | refine ⟨_, rfl, ?_⟩ | refine ⟨rfl, ?_⟩ | refine ⟨_, _, rfl, rfl, ?_⟩ | refine iteT ?_ | refine iteF ?_ | refine ⟨(by show (0 : Int) < _; omega), ?_⟩ | refine ⟨(⟨by omega, by omega⟩ : CDiv _ _), ?_⟩ | refine ⟨(⟨by decide, by decide, by decide⟩ : CPow _ _), ?_⟩ | refine ⟨(.inl ⟨by omega, by omega⟩ : CMul _ _), ?_⟩ | refine ⟨(.inr ⟨by omega, by omega⟩ : CMul _ _), ?_⟩ | refine Or.inl ⟨_, rfl, ?_⟩ | refine Or.inr ⟨_, rfl, ?_⟩ | refine ⟨_, _, _, _, true, rfl, .ty _, .base (.str _), kit_ty (by decide +kernel), ?_⟩ | refine ⟨_, _, rfl, ⟨by rw [sizeLine_eq]; omega, rfl⟩, ?_⟩ | refine ⟨_, _, rfl, .inl ⟨_, SqL.of (by assumption), rfl⟩, ?_⟩ | refine ⟨_, _, rfl, .inr ⟨_, SqT.of (by assumption), rfl⟩, ?_⟩))
      exact ⟨l, _, rfl, .inl (SqL.of g3), fun p hp => kQ ws lk1 p _ hp (Same.new hp) upd_same⟩
    | none =>
      rw [lk1] at g
      refine ⟨td, none, rfl, .inl ⟨kvs, .inr n, .inl h3, rfl, g.symm⟩, ?_⟩
      (repeat (first | refine ⟨_, rfl, ?_⟩ | refine ⟨rfl, ?_⟩ | refine ⟨_, _, rfl, rfl, ?_⟩ | refine iteT ?_ | refine iteF ?_ | refine ⟨(by show (0 : Int) < _; omega), ?_⟩ | refine ⟨(⟨by omega, by omega⟩ : CDiv _ _), ?_⟩ | refine ⟨(⟨by decide, by decide, by decide⟩ : CPow _ _), ?_⟩ | refine ⟨(.inl ⟨by omega, by omega⟩ : CMul _ _), ?_⟩ | refine ⟨(.inr ⟨by omega, by omega⟩ : CMul _ _), ?_⟩ | refine Or.inl ⟨_, rfl, ?_⟩ | refine Or.inr ⟨_, rfl, ?_⟩ | refine ⟨_, _, _, _, true, rfl, .ty _, .base (.str _), kit_ty (by decide +kernel), ?_⟩ | refine ⟨_, _, rfl, ⟨by rw [sizeLine_eq]; omega, rfl⟩, ?_⟩ | refine ⟨_, _, rfl, .inl ⟨_, SqL.of (by assumption), rfl⟩, ?_⟩ | refine ⟨_, _, rfl, .inr ⟨_, SqT.of (by assumption), rfl⟩, ?_⟩))
      exact fun e H' _ s1 he => kE lk1 e H' s1 he
/-- == -/
def spHQ (A : Ad) : Sp := fun vs H Q _ => ∃ (x y : Addr) (ps qs : List Str) (rows us : List Rw) (N M : Addr → Prop), vs = [.ref x, .ref y] ∧ HireO A.C_Hires N H x ps rows ∧ HireO A.C_Hires M H y qs us ∧ (∀ p ∈ ps, PyData.strOk p = true) ∧ (∀ p ∈ qs, PyData.strOk p = true) ∧ TxtR rows ∧ TxtR us ∧
  ∀ b : Bool, b = (decide (ps = qs) && eqKD (rows.map rowP) (us.map rowP)) → Q (.bl b) H
theorem ok_Hires_eq (T : Txt K mg A) : FnOk P w K mg base C8.CX0 2 A.f_Hires__eq A.fd_Hires__eq ["self", "other"] (spHQ A) := by
  refine C8.fn0 T.u_Hires__eq sc_Hires__eq (fun vs H Q E h => ?_) (fun cdv B outer s H vs Q E hr h => ?_)
  · obtain ⟨x, y, ps, qs, rows, us, N, M, rfl, _⟩ := h
    rfl
  · obtain ⟨x, y, ps, qs, rows, us, N, M, rfl, ⟨dx, lp, td, kvs, _, _, _, h1, h2, h3, h4⟩, ⟨dy, mp, ud, lvs, _, _, _, g1, g2, g3, g4⟩, op, oq, tr, tu, k⟩ := h
    refine ⟨_, (pss_one (ps_ret (pe_and (pe_callB (isiK K) (by rfl) T.z_isinstance (by decide +kernel) (pa_cons (pv 1) (pa_cons (pe_gc (v := .ref A.C_Hires) rfl ⟨_, T.gC_Hires, rfl⟩) pa_nil))) (pe_and (pe_cmpR (eqDK K hr) (pe_fldK K (pv 0) rfl) (pe_fldK K (pv 1) rfl) (nomark _)) (pe_one (pe_cmpR (eqDDK K hr) (pe_fldK K (pv 0) rfl) (pe_fldK K (pv 1) rfl) (nomark _))))))), ?_⟩
    (repeat (first | refine ⟨_, rfl, ?_⟩ | refine ⟨rfl, ?_⟩ | refine ⟨_, _, rfl, rfl, ?_⟩ | refine iteT ?_ | refine iteF ?_ | refine ⟨(by show (0 : Int) < _; omega), ?_⟩ | refine ⟨(⟨by omega, by omega⟩ : CDiv _ _), ?_⟩ | refine ⟨(⟨by decide, by decide, by decide⟩ : CPow _ _), ?_⟩ | refine ⟨(.inl ⟨by omega, by omega⟩ : CMul _ _), ?_⟩ | refine ⟨(.inr ⟨by omega, by omega⟩ : CMul _ _), ?_⟩ | refine Or.inl ⟨_, rfl, ?_⟩ | refine Or.inr ⟨_, rfl, ?_⟩ | refine ⟨_, _, _, _, true, rfl, .ty _, .base (.str _), kit_ty (by decide +kernel), ?_⟩ | refine ⟨_, _, rfl, ⟨by rw [sizeLine_eq]; omega, rfl⟩, ?_⟩ | refine ⟨_, _, rfl, .inl ⟨_, SqL.of (by assumption), rfl⟩, ?_⟩ | refine ⟨_, _, rfl, .inr ⟨_, SqT.of (by assumption), rfl⟩, ?_⟩))
    refine ⟨_, _, _, _, true, rfl, .own _, .base (.ins g1 T.cl_Hires T.wc_Hires T.wg_Hires T.wt_Hires T.wm_Hires), T.wk_Hires, ?_⟩
    (repeat (first | refine ⟨_, rfl, ?_⟩ | refine ⟨rfl, ?_⟩ | refine ⟨_, _, rfl, rfl, ?_⟩ | refine iteT ?_ | refine iteF ?_ | refine ⟨(by show (0 : Int) < _; omega), ?_⟩ | refine ⟨(⟨by omega, by omega⟩ : CDiv _ _), ?_⟩ | refine ⟨(⟨by decide, by decide, by decide⟩ : CPow _ _), ?_⟩ | refine ⟨(.inl ⟨by omega, by omega⟩ : CMul _ _), ?_⟩ | refine ⟨(.inr ⟨by omega, by omega⟩ : CMul _ _), ?_⟩ | refine Or.inl ⟨_, rfl, ?_⟩ | refine Or.inr ⟨_, rfl, ?_⟩ | refine ⟨_, _, _, _, true, rfl, .ty _, .base (.str _), kit_ty (by decide +kernel), ?_⟩ | refine ⟨_, _, rfl, ⟨by rw [sizeLine_eq]; omega, rfl⟩, ?_⟩ | refine ⟨_, _, rfl, .inl ⟨_, SqL.of (by assumption), rfl⟩, ?_⟩ | refine ⟨_, _, rfl, .inr ⟨_, SqT.of (by assumption), rfl⟩, ?_⟩))
    refine ⟨x, A.C_Hires, dx, _, _, rfl, h1, T.cl_Hires, T.na_Hires__people, hfl_people _ _, ?_⟩
    (repeat (first | refine ⟨_, rfl, ?_⟩ | refine ⟨rfl, ?_⟩ | refine ⟨_, _, rfl, rfl, ?_⟩ | refine iteT ?_ | refine iteF ?_ | refine ⟨(by show (0 : Int) < _; omega), ?_⟩ | refine ⟨(⟨by omega, by omega⟩ : CDiv _ _), ?_⟩ | refine ⟨(⟨by decide, by decide, by decide⟩ : CPow _ _), ?_⟩ | refine ⟨(.inl ⟨by omega, by omega⟩ : CMul _ _), ?_⟩ | refine ⟨(.inr ⟨by omega, by omega⟩ : CMul _ _), ?_⟩ | refine Or.inl ⟨_, rfl, ?_⟩ | refine Or.inr ⟨_, rfl, ?_⟩ | refine ⟨_, _, _, _, true, rfl, .ty _, .base (.str _), kit_ty (by decide +kernel), ?_⟩ | refine ⟨_, _, rfl, ⟨by rw [sizeLine_eq]; omega, rfl⟩, ?_⟩ | refine ⟨_, _, rfl, .inl ⟨_, SqL.of (by assumption), rfl⟩, ?_⟩ | refine ⟨_, _, rfl, .inr ⟨_, SqT.of (by assumption), rfl⟩, ?_⟩))
    refine ⟨y, A.C_Hires, dy, _, _, rfl, g1, T.cl_Hires, T.na_Hires__people, hfl_people _ _, ?_⟩
    refine ⟨_, _, dp_strs h2, dp_strs g2, shaped_strs op, shaped_strs oq, ?_⟩
    rw [eqv_strs]
    by_cases hp : ps = qs
    · rw [decide_eq_true hp]
      (repeat (first | refine ⟨_, rfl, ?_⟩ | refine ⟨rfl, ?_⟩ | refine ⟨_, _, rfl, rfl, ?_⟩ | refine iteT ?_ | refine iteF ?_ | refine ⟨(by show (0 : Int) < _; omega), ?_⟩ | refine ⟨(⟨by omega, by omega⟩ : CDiv _ _), ?_⟩ | refine ⟨(⟨by decide, by decide, by decide⟩ : CPow _ _), ?_⟩ | refine ⟨(.inl ⟨by omega, by omega⟩ : CMul _ _), ?_⟩ | refine ⟨(.inr ⟨by omega, by omega⟩ : CMul _ _), ?_⟩ | refine Or.inl ⟨_, rfl, ?_⟩ | refine Or.inr ⟨_, rfl, ?_⟩ | refine ⟨_, _, _, _, true, rfl, .ty _, .base (.str _), kit_ty (by decide +kernel), ?_⟩ | refine ⟨_, _, rfl, ⟨by rw [sizeLine_eq]; omega, rfl⟩, ?_⟩ | refine ⟨_, _, rfl, .inl ⟨_, SqL.of (by assumption), rfl⟩, ?_⟩ | refine ⟨_, _, rfl, .inr ⟨_, SqT.of (by assumption), rfl⟩, ?_⟩))
      refine ⟨x, A.C_Hires, dx, _, _, rfl, h1, T.cl_Hires, T.na_Hires__jobs, hfl_jobs _ _, ?_⟩
      (repeat (first | refine ⟨_, rfl, ?_⟩ | refine ⟨rfl, ?_⟩ | refine ⟨_, _, rfl, rfl, ?_⟩ | refine iteT ?_ | refine iteF ?_ | refine ⟨(by show (0 : Int) < _; omega), ?_⟩ | refine ⟨(⟨by omega, by omega⟩ : CDiv _ _), ?_⟩ | refine ⟨(⟨by decide, by decide, by decide⟩ : CPow _ _), ?_⟩ | refine ⟨(.inl ⟨by omega, by omega⟩ : CMul _ _), ?_⟩ | refine ⟨(.inr ⟨by omega, by omega⟩ : CMul _ _), ?_⟩ | refine Or.inl ⟨_, rfl, ?_⟩ | refine Or.inr ⟨_, rfl, ?_⟩ | refine ⟨_, _, _, _, true, rfl, .ty _, .base (.str _), kit_ty (by decide +kernel), ?_⟩ | refine ⟨_, _, rfl, ⟨by rw [sizeLine_eq]; omega, rfl⟩, ?_⟩ | refine ⟨_, _, rfl, .inl ⟨_, SqL.of (by assumption), rfl⟩, ?_⟩ | refine ⟨_, _, rfl, .inr ⟨_, SqT.of (by assumption), rfl⟩, ?_⟩))
      refine ⟨y, A.C_Hires, dy, _, _, rfl, g1, T.cl_Hires, T.na_Hires__jobs, hfl_jobs _ _, ?_⟩
      refine ⟨_, _, dkh_of h3 h4 tr, dkh_of g3 g4 tu, ?_⟩
      exact k _ (by rw [decide_eq_true hp, Bool.true_and]; rfl)
    · rw [decide_eq_false hp]
      (repeat (first | refine ⟨_, rfl, ?_⟩ | refine ⟨rfl, ?_⟩ | refine ⟨_, _, rfl, rfl, ?_⟩ | refine iteT ?_ | refine iteF ?_ | refine ⟨(by show (0 : Int) < _; omega), ?_⟩ | refine ⟨(⟨by omega, by omega⟩ : CDiv _ _), ?_⟩ | refine ⟨(⟨by decide, by decide, by decide⟩ : CPow _ _), ?_⟩ | refine ⟨(.inl ⟨by omega, by omega⟩ : CMul _ _), ?_⟩ | refine ⟨(.inr ⟨by omega, by omega⟩ : CMul _ _), ?_⟩ | refine Or.inl ⟨_, rfl, ?_⟩ | refine Or.inr ⟨_, rfl, ?_⟩ | refine ⟨_, _, _, _, true, rfl, .ty _, .base (.str _), kit_ty (by decide +kernel), ?_⟩ | refine ⟨_, _, rfl, ⟨by rw [sizeLine_eq]; omega, rfl⟩, ?_⟩ | refine ⟨_, _, rfl, .inl ⟨_, SqL.of (by assumption), rfl⟩, ?_⟩ | refine ⟨_, _, rfl, .inr ⟨_, SqT.of (by assumption), rfl⟩, ?_⟩))
      exact k false (by rw [decide_eq_false hp, Bool.false_and])
theorem op_eq_Hires {X : Cx} (T : Txt X.K X.mg A) {j : Nat} (hr : Room (j + 2) X.A) : OpR X (compareOp .Eq) (rEqO A.C_Hires (spHQ A) id) := op_eqO (ok_Hires_eq T) T.b_Hires__eq C8.pass0 T.nc_Hires (hr.mono (by omega))
end
end BF25
set_option Elab.async false
set_option linter.all false
set_option maxRecDepth 100000
set_option maxHeartbeats 4000000
namespace BF25
open BF
open PySem PySem.Spec PyProof.Rows L2
open C8 (Cal CalAt Met Mak cal0 met0 mak0 fn0 pe_c pe_mk pe_mt pe_mt0 pe_gc fnScope fnBody fnArgs fnScope_by)
open SX
section
variable {P : Program} {w : World} {K : PySem.W.Frag} {mg : Str → Option Value} {base : Heap} {A : Ad}
inductive Sc : V → Prop
  | str (x : Str) : Sc (.str x)
  | int (i : Int) : Sc (.int i)
def spLike0 : Sp := fun vs H Q _ => ∃ v u, vs = [v, u] ∧ Sc v ∧ Sc u ∧ ∀ b : Bool, b = decide (v = u) → Q (.bl b) H
theorem cal_law_like0 (T : Txt K mg A) : Cal P w K mg base 1 "_law_like" spLike0 [] := by
  refine cal0 T.d_law_like T.b_law_like .nil sc_law_like (fun vs H Q E h => ?_) (fun cdv B outer s H vs Q E hr h => ?_)
  · obtain ⟨v, u, rfl, _⟩ := h
    rfl
  · obtain ⟨v, u, rfl, hv, hu, k⟩ := h
    refine ⟨_, (pss_cons (ps_if (pt_cmpR op_isN (pv 1) pe_non (nomark _)) (pss_one (ps_ret (pe_cmpR op_isN (pv 0) pe_non (nomark _)))) pss_nil)
 (pss_cons (ps_if (pt_val (pe_callB (isiK K) (by rfl) T.z_isinstance (by decide +kernel) (pa_cons (pv 1) (pa_cons (pe_bltn (v := .ty "bool") (by rfl) T.z_bool (by decide +kernel) rfl) pa_nil)))) (pss_one (ps_ret (pe_and (pe_callB (isiK K) (by rfl) T.z_isinstance (by decide +kernel) (pa_cons (pv 0) (pa_cons (pe_bltn (v := .ty "bool") (by rfl) T.z_bool (by decide +kernel) rfl) pa_nil))) (pe_one (pe_cmpR op_eq (pv 0) (pv 1) (nomark _)))))) pss_nil)
 (pss_cons (ps_if (pt_val (pe_callB (isiK K) (by rfl) T.z_isinstance (by decide +kernel) (pa_cons (pv 1) (pa_cons (pe_bltn (v := .ty "int") (by rfl) T.z_int (by decide +kernel) rfl) pa_nil)))) (pss_one (ps_ret (pe_and (pe_callB (isiK K) (by rfl) T.z_isinstance (by decide +kernel) (pa_cons (pv 0) (pa_cons (pe_bltn (v := .ty "int") (by rfl) T.z_int (by decide +kernel) rfl) pa_nil))) (pe_and (pe_not (pe_callB (isiK K) (by rfl) T.z_isinstance (by decide +kernel) (pa_cons (pv 0) (pa_cons (pe_bltn (v := .ty "bool") (by rfl) T.z_bool (by decide +kernel) rfl) pa_nil)))) (pe_one (pe_cmpR op_eq (pv 0) (pv 1) (nomark _))))))) pss_nil)
 (pss_cons (ps_if (pt_val (pe_callB (isiK K) (by rfl) T.z_isinstance (by decide +kernel) (pa_cons (pv 1) (pa_cons (pe_bltn (v := .ty "str") (by rfl) T.z_str (by decide +kernel) rfl) pa_nil)))) (pss_one (ps_ret (pe_and (pe_callB (isiK K) (by rfl) T.z_isinstance (by decide +kernel) (pa_cons (pv 0) (pa_cons (pe_bltn (v := .ty "str") (by rfl) T.z_str (by decide +kernel) rfl) pa_nil))) (pe_one (pe_cmpR op_eq (pv 0) (pv 1) (nomark _)))))) pss_nil)
 (pss_cons (ps_if (pt_val (pe_callB (isiK K) (by rfl) T.z_isinstance (by decide +kernel) (pa_cons (pv 1) (pa_cons (pe_bltn (v := .ty "dict") (by rfl) T.z_dict (by decide +kernel) rfl) pa_nil)))) (pss_cons (ps_if (PW.pt (pw_or (pt_not (pt_val (pe_callB (isiK K) (by rfl) T.z_isinstance (by decide +kernel) (pa_cons (pv 0) (pa_cons (pe_bltn (v := .ty "dict") (by rfl) T.z_dict (by decide +kernel) rfl) pa_nil))))) (pw_or1 (pt_cmpR op_ne (pe_callB (lenK K) (by rfl) T.z_len (by decide +kernel) (pa_cons (pv 0) pa_nil)) (pe_callB (lenK K) (by rfl) T.z_len (by decide +kernel) (pa_cons (pv 1) pa_nil)) (nomark _))))) (pss_one (ps_ret pe_bl)) pss_nil)
 (pss_one (ps_ret pe_no))) pss_nil)
 (pss_cons (ps_if (PW.pt (pw_and (pt_val (pe_callB (isiK K) (by rfl) T.z_isinstance (by decide +kernel) (pa_cons (pv 1) (pa_cons (pe_bltn (v := .ty "tuple") (by rfl) T.z_tuple (by decide +kernel) rfl) pa_nil)))) (pw_and1 (pt_not (pt_val (pe_callB (isiK K) (by rfl) T.z_isinstance (by decide +kernel) (pa_cons (pv 0) (pa_cons (pe_bltn (v := .ty "tuple") (by rfl) T.z_tuple (by decide +kernel) rfl) pa_nil)))))))) (pss_one (ps_ret pe_bl)) pss_nil)
 (pss_cons (ps_if (PW.pt (pw_or (PW.pt (pw_and (pt_val (pe_callB (isiK K) (by rfl) T.z_isinstance (by decide +kernel) (pa_cons (pv 1) (pa_cons (pe_bltn (v := .ty "list") (by rfl) T.z_list (by decide +kernel) rfl) pa_nil)))) (pw_and1 (pt_not (pt_val (pe_callB (isiK K) (by rfl) T.z_isinstance (by decide +kernel) (pa_cons (pv 0) (pa_cons (pe_bltn (v := .ty "list") (by rfl) T.z_list (by decide +kernel) rfl) pa_nil)))))))) (pw_or1 (pt_cmpR op_ne (pe_callB (lenK K) (by rfl) T.z_len (by decide +kernel) (pa_cons (pv 0) pa_nil)) (pe_callB (lenK K) (by rfl) T.z_len (by decide +kernel) (pa_cons (pv 1) pa_nil)) (nomark _))))) (pss_one (ps_ret pe_bl)) pss_nil)
 (pss_one (ps_ret pe_no))))))))), ?_⟩
    (repeat (first | refine ⟨_, rfl, ?_⟩ | refine ⟨rfl, ?_⟩ | refine ⟨_, _, rfl, rfl, ?_⟩ | refine iteT ?_ | refine iteF ?_ | refine ⟨(by show (0 : Int) < _; omega), ?_⟩ | refine ⟨(⟨by omega, by omega⟩ : CDiv _ _), ?_⟩ | refine ⟨(⟨by decide, by decide, by decide⟩ : CPow _ _), ?_⟩ | refine ⟨(.inl ⟨by omega, by omega⟩ : CMul _ _), ?_⟩ | refine ⟨(.inr ⟨by omega, by omega⟩ : CMul _ _), ?_⟩ | refine Or.inl ⟨_, rfl, ?_⟩ | refine Or.inr ⟨_, rfl, ?_⟩ | refine ⟨_, _, _, _, true, rfl, .ty _, .base (.str _), kit_ty (by decide +kernel), ?_⟩ | refine ⟨_, _, rfl, ⟨by rw [sizeLine_eq]; omega, rfl⟩, ?_⟩ | refine ⟨_, _, rfl, .inl ⟨_, SqL.of (by assumption), rfl⟩, ?_⟩ | refine ⟨_, _, rfl, .inr ⟨_, SqT.of (by assumption), rfl⟩, ?_⟩))
    cases hu with
    | str x =>
      rw [decide_eq_false (fun e => by cases e)]
      (repeat (first | refine ⟨_, rfl, ?_⟩ | refine ⟨rfl, ?_⟩ | refine ⟨_, _, rfl, rfl, ?_⟩ | refine iteT ?_ | refine iteF ?_ | refine ⟨(by show (0 : Int) < _; omega), ?_⟩ | refine ⟨(⟨by omega, by omega⟩ : CDiv _ _), ?_⟩ | refine ⟨(⟨by decide, by decide, by decide⟩ : CPow _ _), ?_⟩ | refine ⟨(.inl ⟨by omega, by omega⟩ : CMul _ _), ?_⟩ | refine ⟨(.inr ⟨by omega, by omega⟩ : CMul _ _), ?_⟩ | refine Or.inl ⟨_, rfl, ?_⟩ | refine Or.inr ⟨_, rfl, ?_⟩ | refine ⟨_, _, _, _, true, rfl, .ty _, .base (.str _), kit_ty (by decide +kernel), ?_⟩ | refine ⟨_, _, rfl, ⟨by rw [sizeLine_eq]; omega, rfl⟩, ?_⟩ | refine ⟨_, _, rfl, .inl ⟨_, SqL.of (by assumption), rfl⟩, ?_⟩ | refine ⟨_, _, rfl, .inr ⟨_, SqT.of (by assumption), rfl⟩, ?_⟩))
      (refine ⟨_, _, _, _, false, rfl, .ty _, .base (.str _), kit_ty (by decide +kernel), ?_⟩)
      (repeat (first | refine ⟨_, rfl, ?_⟩ | refine ⟨rfl, ?_⟩ | refine ⟨_, _, rfl, rfl, ?_⟩ | refine iteT ?_ | refine iteF ?_ | refine ⟨(by show (0 : Int) < _; omega), ?_⟩ | refine ⟨(⟨by omega, by omega⟩ : CDiv _ _), ?_⟩ | refine ⟨(⟨by decide, by decide, by decide⟩ : CPow _ _), ?_⟩ | refine ⟨(.inl ⟨by omega, by omega⟩ : CMul _ _), ?_⟩ | refine ⟨(.inr ⟨by omega, by omega⟩ : CMul _ _), ?_⟩ | refine Or.inl ⟨_, rfl, ?_⟩ | refine Or.inr ⟨_, rfl, ?_⟩ | refine ⟨_, _, _, _, true, rfl, .ty _, .base (.str _), kit_ty (by decide +kernel), ?_⟩ | refine ⟨_, _, rfl, ⟨by rw [sizeLine_eq]; omega, rfl⟩, ?_⟩ | refine ⟨_, _, rfl, .inl ⟨_, SqL.of (by assumption), rfl⟩, ?_⟩ | refine ⟨_, _, rfl, .inr ⟨_, SqT.of (by assumption), rfl⟩, ?_⟩))
      (refine ⟨_, _, _, _, false, rfl, .ty _, .base (.str _), kit_ty (by decide +kernel), ?_⟩)
      (repeat (first | refine ⟨_, rfl, ?_⟩ | refine ⟨rfl, ?_⟩ | refine ⟨_, _, rfl, rfl, ?_⟩ | refine iteT ?_ | refine iteF ?_ | refine ⟨(by show (0 : Int) < _; omega), ?_⟩ | refine ⟨(⟨by omega, by omega⟩ : CDiv _ _), ?_⟩ | refine ⟨(⟨by decide, by decide, by decide⟩ : CPow _ _), ?_⟩ | refine ⟨(.inl ⟨by omega, by omega⟩ : CMul _ _), ?_⟩ | refine ⟨(.inr ⟨by omega, by omega⟩ : CMul _ _), ?_⟩ | refine Or.inl ⟨_, rfl, ?_⟩ | refine Or.inr ⟨_, rfl, ?_⟩ | refine ⟨_, _, _, _, true, rfl, .ty _, .base (.str _), kit_ty (by decide +kernel), ?_⟩ | refine ⟨_, _, rfl, ⟨by rw [sizeLine_eq]; omega, rfl⟩, ?_⟩ | refine ⟨_, _, rfl, .inl ⟨_, SqL.of (by assumption), rfl⟩, ?_⟩ | refine ⟨_, _, rfl, .inr ⟨_, SqT.of (by assumption), rfl⟩, ?_⟩))
      cases hv with
      | str y =>
        (repeat (first | refine ⟨_, rfl, ?_⟩ | refine ⟨rfl, ?_⟩ | refine ⟨_, _, rfl, rfl, ?_⟩ | refine iteT ?_ | refine iteF ?_ | refine ⟨(by show (0 : Int) < _; omega), ?_⟩ | refine ⟨(⟨by omega, by omega⟩ : CDiv _ _), ?_⟩ | refine ⟨(⟨by decide, by decide, by decide⟩ : CPow _ _), ?_⟩ | refine ⟨(.inl ⟨by omega, by omega⟩ : CMul _ _), ?_⟩ | refine ⟨(.inr ⟨by omega, by omega⟩ : CMul _ _), ?_⟩ | refine Or.inl ⟨_, rfl, ?_⟩ | refine Or.inr ⟨_, rfl, ?_⟩ | refine ⟨_, _, _, _, true, rfl, .ty _, .base (.str _), kit_ty (by decide +kernel), ?_⟩ | refine ⟨_, _, rfl, ⟨by rw [sizeLine_eq]; omega, rfl⟩, ?_⟩ | refine ⟨_, _, rfl, .inl ⟨_, SqL.of (by assumption), rfl⟩, ?_⟩ | refine ⟨_, _, rfl, .inr ⟨_, SqT.of (by assumption), rfl⟩, ?_⟩))
        exact k _ rfl
      | int i =>
        (refine ⟨_, _, _, _, false, rfl, .ty _, .base (.int _), kit_ty (by decide +kernel), ?_⟩)
        (repeat (first | refine ⟨_, rfl, ?_⟩ | refine ⟨rfl, ?_⟩ | refine ⟨_, _, rfl, rfl, ?_⟩ | refine iteT ?_ | refine iteF ?_ | refine ⟨(by show (0 : Int) < _; omega), ?_⟩ | refine ⟨(⟨by omega, by omega⟩ : CDiv _ _), ?_⟩ | refine ⟨(⟨by decide, by decide, by decide⟩ : CPow _ _), ?_⟩ | refine ⟨(.inl ⟨by omega, by omega⟩ : CMul _ _), ?_⟩ | refine ⟨(.inr ⟨by omega, by omega⟩ : CMul _ _), ?_⟩ | refine Or.inl ⟨_, rfl, ?_⟩ | refine Or.inr ⟨_, rfl, ?_⟩ | refine ⟨_, _, _, _, true, rfl, .ty _, .base (.str _), kit_ty (by decide +kernel), ?_⟩ | refine ⟨_, _, rfl, ⟨by rw [sizeLine_eq]; omega, rfl⟩, ?_⟩ | refine ⟨_, _, rfl, .inl ⟨_, SqL.of (by assumption), rfl⟩, ?_⟩ | refine ⟨_, _, rfl, .inr ⟨_, SqT.of (by assumption), rfl⟩, ?_⟩))
        exact k _ rfl
    | int i =>
      rw [decide_eq_false (fun e => by cases e)]
      (repeat (first | refine ⟨_, rfl, ?_⟩ | refine ⟨rfl, ?_⟩ | refine ⟨_, _, rfl, rfl, ?_⟩ | refine iteT ?_ | refine iteF ?_ | refine ⟨(by show (0 : Int) < _; omega), ?_⟩ | refine ⟨(⟨by omega, by omega⟩ : CDiv _ _), ?_⟩ | refine ⟨(⟨by decide, by decide, by decide⟩ : CPow _ _), ?_⟩ | refine ⟨(.inl ⟨by omega, by omega⟩ : CMul _ _), ?_⟩ | refine ⟨(.inr ⟨by omega, by omega⟩ : CMul _ _), ?_⟩ | refine Or.inl ⟨_, rfl, ?_⟩ | refine Or.inr ⟨_, rfl, ?_⟩ | refine ⟨_, _, _, _, true, rfl, .ty _, .base (.str _), kit_ty (by decide +kernel), ?_⟩ | refine ⟨_, _, rfl, ⟨by rw [sizeLine_eq]; omega, rfl⟩, ?_⟩ | refine ⟨_, _, rfl, .inl ⟨_, SqL.of (by assumption), rfl⟩, ?_⟩ | refine ⟨_, _, rfl, .inr ⟨_, SqT.of (by assumption), rfl⟩, ?_⟩))
      (refine ⟨_, _, _, _, false, rfl, .ty _, .base (.int _), kit_ty (by decide +kernel), ?_⟩)
      (repeat (first | refine ⟨_, rfl, ?_⟩ | refine ⟨rfl, ?_⟩ | refine ⟨_, _, rfl, rfl, ?_⟩ | refine iteT ?_ | refine iteF ?_ | refine ⟨(by show (0 : Int) < _; omega), ?_⟩ | refine ⟨(⟨by omega, by omega⟩ : CDiv _ _), ?_⟩ | refine ⟨(⟨by decide, by decide, by decide⟩ : CPow _ _), ?_⟩ | refine ⟨(.inl ⟨by omega, by omega⟩ : CMul _ _), ?_⟩ | refine ⟨(.inr ⟨by omega, by omega⟩ : CMul _ _), ?_⟩ | refine Or.inl ⟨_, rfl, ?_⟩ | refine Or.inr ⟨_, rfl, ?_⟩ | refine ⟨_, _, _, _, true, rfl, .ty _, .base (.str _), kit_ty (by decide +kernel), ?_⟩ | refine ⟨_, _, rfl, ⟨by rw [sizeLine_eq]; omega, rfl⟩, ?_⟩ | refine ⟨_, _, rfl, .inl ⟨_, SqL.of (by assumption), rfl⟩, ?_⟩ | refine ⟨_, _, rfl, .inr ⟨_, SqT.of (by assumption), rfl⟩, ?_⟩))
      (refine ⟨_, _, _, _, true, rfl, .ty _, .base (.int _), kit_ty (by decide +kernel), ?_⟩)
      (repeat (first | refine ⟨_, rfl, ?_⟩ | refine ⟨rfl, ?_⟩ | refine ⟨_, _, rfl, rfl, ?_⟩ | refine iteT ?_ | refine iteF ?_ | refine ⟨(by show (0 : Int) < _; omega), ?_⟩ | refine ⟨(⟨by omega, by omega⟩ : CDiv _ _), ?_⟩ | refine ⟨(⟨by decide, by decide, by decide⟩ : CPow _ _), ?_⟩ | refine ⟨(.inl ⟨by omega, by omega⟩ : CMul _ _), ?_⟩ | refine ⟨(.inr ⟨by omega, by omega⟩ : CMul _ _), ?_⟩ | refine Or.inl ⟨_, rfl, ?_⟩ | refine Or.inr ⟨_, rfl, ?_⟩ | refine ⟨_, _, _, _, true, rfl, .ty _, .base (.str _), kit_ty (by decide +kernel), ?_⟩ | refine ⟨_, _, rfl, ⟨by rw [sizeLine_eq]; omega, rfl⟩, ?_⟩ | refine ⟨_, _, rfl, .inl ⟨_, SqL.of (by assumption), rfl⟩, ?_⟩ | refine ⟨_, _, rfl, .inr ⟨_, SqT.of (by assumption), rfl⟩, ?_⟩))
      cases hv with
      | str y =>
        (refine ⟨_, _, _, _, false, rfl, .ty _, .base (.str _), kit_ty (by decide +kernel), ?_⟩)
        (repeat (first | refine ⟨_, rfl, ?_⟩ | refine ⟨rfl, ?_⟩ | refine ⟨_, _, rfl, rfl, ?_⟩ | refine iteT ?_ | refine iteF ?_ | refine ⟨(by show (0 : Int) < _; omega), ?_⟩ | refine ⟨(⟨by omega, by omega⟩ : CDiv _ _), ?_⟩ | refine ⟨(⟨by decide, by decide, by decide⟩ : CPow _ _), ?_⟩ | refine ⟨(.inl ⟨by omega, by omega⟩ : CMul _ _), ?_⟩ | refine ⟨(.inr ⟨by omega, by omega⟩ : CMul _ _), ?_⟩ | refine Or.inl ⟨_, rfl, ?_⟩ | refine Or.inr ⟨_, rfl, ?_⟩ | refine ⟨_, _, _, _, true, rfl, .ty _, .base (.str _), kit_ty (by decide +kernel), ?_⟩ | refine ⟨_, _, rfl, ⟨by rw [sizeLine_eq]; omega, rfl⟩, ?_⟩ | refine ⟨_, _, rfl, .inl ⟨_, SqL.of (by assumption), rfl⟩, ?_⟩ | refine ⟨_, _, rfl, .inr ⟨_, SqT.of (by assumption), rfl⟩, ?_⟩))
        exact k _ rfl
      | int z =>
        (refine ⟨_, _, _, _, true, rfl, .ty _, .base (.int _), kit_ty (by decide +kernel), ?_⟩)
        (repeat (first | refine ⟨_, rfl, ?_⟩ | refine ⟨rfl, ?_⟩ | refine ⟨_, _, rfl, rfl, ?_⟩ | refine iteT ?_ | refine iteF ?_ | refine ⟨(by show (0 : Int) < _; omega), ?_⟩ | refine ⟨(⟨by omega, by omega⟩ : CDiv _ _), ?_⟩ | refine ⟨(⟨by decide, by decide, by decide⟩ : CPow _ _), ?_⟩ | refine ⟨(.inl ⟨by omega, by omega⟩ : CMul _ _), ?_⟩ | refine ⟨(.inr ⟨by omega, by omega⟩ : CMul _ _), ?_⟩ | refine Or.inl ⟨_, rfl, ?_⟩ | refine Or.inr ⟨_, rfl, ?_⟩ | refine ⟨_, _, _, _, true, rfl, .ty _, .base (.str _), kit_ty (by decide +kernel), ?_⟩ | refine ⟨_, _, rfl, ⟨by rw [sizeLine_eq]; omega, rfl⟩, ?_⟩ | refine ⟨_, _, rfl, .inl ⟨_, SqL.of (by assumption), rfl⟩, ?_⟩ | refine ⟨_, _, rfl, .inr ⟨_, SqT.of (by assumption), rfl⟩, ?_⟩))
        (refine ⟨_, _, _, _, false, rfl, .ty _, .base (.int _), kit_ty (by decide +kernel), ?_⟩)
        (repeat (first | refine ⟨_, rfl, ?_⟩ | refine ⟨rfl, ?_⟩ | refine ⟨_, _, rfl, rfl, ?_⟩ | refine iteT ?_ | refine iteF ?_ | refine ⟨(by show (0 : Int) < _; omega), ?_⟩ | refine ⟨(⟨by omega, by omega⟩ : CDiv _ _), ?_⟩ | refine ⟨(⟨by decide, by decide, by decide⟩ : CPow _ _), ?_⟩ | refine ⟨(.inl ⟨by omega, by omega⟩ : CMul _ _), ?_⟩ | refine ⟨(.inr ⟨by omega, by omega⟩ : CMul _ _), ?_⟩ | refine Or.inl ⟨_, rfl, ?_⟩ | refine Or.inr ⟨_, rfl, ?_⟩ | refine ⟨_, _, _, _, true, rfl, .ty _, .base (.str _), kit_ty (by decide +kernel), ?_⟩ | refine ⟨_, _, rfl, ⟨by rw [sizeLine_eq]; omega, rfl⟩, ?_⟩ | refine ⟨_, _, rfl, .inl ⟨_, SqL.of (by assumption), rfl⟩, ?_⟩ | refine ⟨_, _, rfl, .inr ⟨_, SqT.of (by assumption), rfl⟩, ?_⟩))
        exact k _ rfl
/-- told and due, lists or tuples of texts and numbers -/
inductive LikeC (H : Hp) : V → V → Bool → Prop
  | lst {a b : Addr} {xs ys : List V} : H a = some (.lst xs) → H b = some (.lst ys) → (∀ v ∈ xs, Sc v) → (∀ v ∈ ys, Sc v) → xs.length ≤ 1000 → ys.length ≤ 1000 → LikeC H (.ref a) (.ref b) (decide (xs = ys))
  | tup {a b : Addr} {xs ys : List V} : H a = some (.tup xs) → H b = some (.tup ys) → (∀ v ∈ xs, Sc v) → (∀ v ∈ ys, Sc v) → xs.length ≤ 1000 → ys.length ≤ 1000 → LikeC H (.ref a) (.ref b) (decide (xs = ys))
  | odd {a b : Addr} {xs ys : List V} : H a = some (.lst xs) → H b = some (.tup ys) → LikeC H (.ref a) (.ref b) false
  | non {b : Addr} {ys : List V} : H b = some (.tup ys) → LikeC H .non (.ref b) false
def spLike : Sp := fun vs H Q _ => ∃ v u r, vs = [v, u] ∧ LikeC H v u r ∧ ∀ H', Same H H' → Q (.bl r) H'
theorem all_alike : ∀ {n : Nat} {xs ys : List V}, xs.length = n → ys.length = n → ((List.range n).map fun i => decide (xs[i]? = ys[i]?)).all id = decide (xs = ys) := fun {n xs ys} hx hy => by
  rw [Bool.eq_iff_iff, List.all_eq_true, decide_eq_true_iff]
  constructor
  · intro h
    apply List.ext_getElem?
    intro i
    by_cases c : i < n
    · have := h (decide (xs[i]? = ys[i]?)) (List.mem_map.mpr ⟨i, List.mem_range.mpr c, rfl⟩)
      exact of_decide_eq_true this
    · rw [List.getElem?_eq_none (by omega), List.getElem?_eq_none (by omega)]
  · rintro rfl b hb
    obtain ⟨i, _, rfl⟩ := List.mem_map.mp hb
    simp
theorem cal_law_like (T : Txt K mg A) : Cal P w K mg base 2 "_law_like" spLike [] := by
  refine cal0 T.d_law_like T.b_law_like .nil sc_law_like (fun vs H Q E h => ?_) (fun cdv B outer s H vs Q E hr h => ?_)
  · obtain ⟨v, u, r, rfl, _⟩ := h
    rfl
  · obtain ⟨v, u, r, rfl, hc, k⟩ := h
    refine ⟨_, (pss_cons (ps_if (pt_cmpR op_isN (pv 1) pe_non (nomark _)) (pss_one (ps_ret (pe_cmpR op_isN (pv 0) pe_non (nomark _)))) pss_nil)
 (pss_cons (ps_if (pt_val (pe_callB (isiK K) (by rfl) T.z_isinstance (by decide +kernel) (pa_cons (pv 1) (pa_cons (pe_bltn (v := .ty "bool") (by rfl) T.z_bool (by decide +kernel) rfl) pa_nil)))) (pss_one (ps_ret (pe_and (pe_callB (isiK K) (by rfl) T.z_isinstance (by decide +kernel) (pa_cons (pv 0) (pa_cons (pe_bltn (v := .ty "bool") (by rfl) T.z_bool (by decide +kernel) rfl) pa_nil))) (pe_one (pe_cmpR (eqDK K hr) (pv 0) (pv 1) (nomark _)))))) pss_nil)
 (pss_cons (ps_if (pt_val (pe_callB (isiK K) (by rfl) T.z_isinstance (by decide +kernel) (pa_cons (pv 1) (pa_cons (pe_bltn (v := .ty "int") (by rfl) T.z_int (by decide +kernel) rfl) pa_nil)))) (pss_one (ps_ret (pe_and (pe_callB (isiK K) (by rfl) T.z_isinstance (by decide +kernel) (pa_cons (pv 0) (pa_cons (pe_bltn (v := .ty "int") (by rfl) T.z_int (by decide +kernel) rfl) pa_nil))) (pe_and (pe_not (pe_callB (isiK K) (by rfl) T.z_isinstance (by decide +kernel) (pa_cons (pv 0) (pa_cons (pe_bltn (v := .ty "bool") (by rfl) T.z_bool (by decide +kernel) rfl) pa_nil)))) (pe_one (pe_cmpR (eqDK K hr) (pv 0) (pv 1) (nomark _))))))) pss_nil)
 (pss_cons (ps_if (pt_val (pe_callB (isiK K) (by rfl) T.z_isinstance (by decide +kernel) (pa_cons (pv 1) (pa_cons (pe_bltn (v := .ty "str") (by rfl) T.z_str (by decide +kernel) rfl) pa_nil)))) (pss_one (ps_ret (pe_and (pe_callB (isiK K) (by rfl) T.z_isinstance (by decide +kernel) (pa_cons (pv 0) (pa_cons (pe_bltn (v := .ty "str") (by rfl) T.z_str (by decide +kernel) rfl) pa_nil))) (pe_one (pe_cmpR (eqDK K hr) (pv 0) (pv 1) (nomark _)))))) pss_nil)
 (pss_cons (ps_if (pt_val (pe_callB (isiK K) (by rfl) T.z_isinstance (by decide +kernel) (pa_cons (pv 1) (pa_cons (pe_bltn (v := .ty "dict") (by rfl) T.z_dict (by decide +kernel) rfl) pa_nil)))) (pss_cons (ps_if (PW.pt (pw_or (pt_not (pt_val (pe_callB (isiK K) (by rfl) T.z_isinstance (by decide +kernel) (pa_cons (pv 0) (pa_cons (pe_bltn (v := .ty "dict") (by rfl) T.z_dict (by decide +kernel) rfl) pa_nil))))) (pw_or1 (pt_cmpR op_ne (pe_callB (lenK K) (by rfl) T.z_len (by decide +kernel) (pa_cons (pv 0) pa_nil)) (pe_callB (lenK K) (by rfl) T.z_len (by decide +kernel) (pa_cons (pv 1) pa_nil)) (nomark _))))) (pss_one (ps_ret pe_bl)) pss_nil)
 (pss_one (ps_ret pe_no))) pss_nil)
 (pss_cons (ps_if (PW.pt (pw_and (pt_val (pe_callB (isiK K) (by rfl) T.z_isinstance (by decide +kernel) (pa_cons (pv 1) (pa_cons (pe_bltn (v := .ty "tuple") (by rfl) T.z_tuple (by decide +kernel) rfl) pa_nil)))) (pw_and1 (pt_not (pt_val (pe_callB (isiK K) (by rfl) T.z_isinstance (by decide +kernel) (pa_cons (pv 0) (pa_cons (pe_bltn (v := .ty "tuple") (by rfl) T.z_tuple (by decide +kernel) rfl) pa_nil)))))))) (pss_one (ps_ret pe_bl)) pss_nil)
 (pss_cons (ps_if (PW.pt (pw_or (PW.pt (pw_and (pt_val (pe_callB (isiK K) (by rfl) T.z_isinstance (by decide +kernel) (pa_cons (pv 1) (pa_cons (pe_bltn (v := .ty "list") (by rfl) T.z_list (by decide +kernel) rfl) pa_nil)))) (pw_and1 (pt_not (pt_val (pe_callB (isiK K) (by rfl) T.z_isinstance (by decide +kernel) (pa_cons (pv 0) (pa_cons (pe_bltn (v := .ty "list") (by rfl) T.z_list (by decide +kernel) rfl) pa_nil)))))))) (pw_or1 (pt_cmpR op_ne (pe_callB (lenK K) (by rfl) T.z_len (by decide +kernel) (pa_cons (pv 0) pa_nil)) (pe_callB (lenK K) (by rfl) T.z_len (by decide +kernel) (pa_cons (pv 1) pa_nil)) (nomark _))))) (pss_one (ps_ret pe_bl)) pss_nil)
 (pss_one (ps_ret (pe_callB (allK K rfl) (by rfl) T.z_all (by decide +kernel) (pa_cons (pe_lc (own := [("k", 2)]) (g := gName 2) rfl sc_law_like.nd (pi_range1 (by rfl) T.z_range (pa_cons (pe_callB (lenK K) (by rfl) T.z_len (by decide +kernel) (pa_cons (pv 1) pa_nil)) pa_nil)) (blkOk_by (own := [("k", 2)]) (N := N_law_like) (sc := fnScope s_law_like) (by decide +kernel)) (fun _ _ _ _ _ => (pg_name (i := 2) sc_law_like.nd rfl (by first | exact Or.inl rfl | exact Or.inr rfl))) (fun _ _ _ _ _ => pts_nil) (fun _ _ _ _ _ => (pe_c (cal_law_like0 T) hr (by decide) rfl (pa_cons (pe_ix (ixQK K) (pv 0) (pv 2) (fun _ _ => rfl)) (pa_cons (pe_ix (ixQK K) (pv 1) (pv 2) (fun _ _ => rfl)) pa_nil))))) pa_nil))))))))))), ?_⟩
    (repeat (first | refine ⟨_, rfl, ?_⟩ | refine ⟨rfl, ?_⟩ | refine ⟨_, _, rfl, rfl, ?_⟩ | refine iteT ?_ | refine iteF ?_ | refine ⟨(by show (0 : Int) < _; omega), ?_⟩ | refine ⟨(⟨by omega, by omega⟩ : CDiv _ _), ?_⟩ | refine ⟨(⟨by decide, by decide, by decide⟩ : CPow _ _), ?_⟩ | refine ⟨(.inl ⟨by omega, by omega⟩ : CMul _ _), ?_⟩ | refine ⟨(.inr ⟨by omega, by omega⟩ : CMul _ _), ?_⟩ | refine Or.inl ⟨_, rfl, ?_⟩ | refine Or.inr ⟨_, rfl, ?_⟩ | refine ⟨_, _, _, _, true, rfl, .ty _, .base (.str _), kit_ty (by decide +kernel), ?_⟩ | refine ⟨_, _, rfl, ⟨by rw [sizeLine_eq]; omega, rfl⟩, ?_⟩ | refine ⟨_, _, rfl, .inl ⟨_, SqL.of (by assumption), rfl⟩, ?_⟩ | refine ⟨_, _, rfl, .inr ⟨_, SqT.of (by assumption), rfl⟩, ?_⟩))
    cases hc with
    | @lst a b xs ys ha hb sx sy lx ly =>
      rw [decide_eq_false (fun e => by cases e)]
      (repeat (first | refine ⟨_, rfl, ?_⟩ | refine ⟨rfl, ?_⟩ | refine ⟨_, _, rfl, rfl, ?_⟩ | refine iteT ?_ | refine iteF ?_ | refine ⟨(by show (0 : Int) < _; omega), ?_⟩ | refine ⟨(⟨by omega, by omega⟩ : CDiv _ _), ?_⟩ | refine ⟨(⟨by decide, by decide, by decide⟩ : CPow _ _), ?_⟩ | refine ⟨(.inl ⟨by omega, by omega⟩ : CMul _ _), ?_⟩ | refine ⟨(.inr ⟨by omega, by omega⟩ : CMul _ _), ?_⟩ | refine Or.inl ⟨_, rfl, ?_⟩ | refine Or.inr ⟨_, rfl, ?_⟩ | refine ⟨_, _, _, _, true, rfl, .ty _, .base (.str _), kit_ty (by decide +kernel), ?_⟩ | refine ⟨_, _, rfl, ⟨by rw [sizeLine_eq]; omega, rfl⟩, ?_⟩ | refine ⟨_, _, rfl, .inl ⟨_, SqL.of (by assumption), rfl⟩, ?_⟩ | refine ⟨_, _, rfl, .inr ⟨_, SqT.of (by assumption), rfl⟩, ?_⟩))
      (refine ⟨_, _, _, _, false, rfl, .ty _, .base (.lst (by assumption)), kit_ty (by decide +kernel), ?_⟩)
      (repeat (first | refine ⟨_, rfl, ?_⟩ | refine ⟨rfl, ?_⟩ | refine ⟨_, _, rfl, rfl, ?_⟩ | refine iteT ?_ | refine iteF ?_ | refine ⟨(by show (0 : Int) < _; omega), ?_⟩ | refine ⟨(⟨by omega, by omega⟩ : CDiv _ _), ?_⟩ | refine ⟨(⟨by decide, by decide, by decide⟩ : CPow _ _), ?_⟩ | refine ⟨(.inl ⟨by omega, by omega⟩ : CMul _ _), ?_⟩ | refine ⟨(.inr ⟨by omega, by omega⟩ : CMul _ _), ?_⟩ | refine Or.inl ⟨_, rfl, ?_⟩ | refine Or.inr ⟨_, rfl, ?_⟩ | refine ⟨_, _, _, _, true, rfl, .ty _, .base (.str _), kit_ty (by decide +kernel), ?_⟩ | refine ⟨_, _, rfl, ⟨by rw [sizeLine_eq]; omega, rfl⟩, ?_⟩ | refine ⟨_, _, rfl, .inl ⟨_, SqL.of (by assumption), rfl⟩, ?_⟩ | refine ⟨_, _, rfl, .inr ⟨_, SqT.of (by assumption), rfl⟩, ?_⟩))
      (refine ⟨_, _, _, _, false, rfl, .ty _, .base (.lst (by assumption)), kit_ty (by decide +kernel), ?_⟩)
      (repeat (first | refine ⟨_, rfl, ?_⟩ | refine ⟨rfl, ?_⟩ | refine ⟨_, _, rfl, rfl, ?_⟩ | refine iteT ?_ | refine iteF ?_ | refine ⟨(by show (0 : Int) < _; omega), ?_⟩ | refine ⟨(⟨by omega, by omega⟩ : CDiv _ _), ?_⟩ | refine ⟨(⟨by decide, by decide, by decide⟩ : CPow _ _), ?_⟩ | refine ⟨(.inl ⟨by omega, by omega⟩ : CMul _ _), ?_⟩ | refine ⟨(.inr ⟨by omega, by omega⟩ : CMul _ _), ?_⟩ | refine Or.inl ⟨_, rfl, ?_⟩ | refine Or.inr ⟨_, rfl, ?_⟩ | refine ⟨_, _, _, _, true, rfl, .ty _, .base (.str _), kit_ty (by decide +kernel), ?_⟩ | refine ⟨_, _, rfl, ⟨by rw [sizeLine_eq]; omega, rfl⟩, ?_⟩ | refine ⟨_, _, rfl, .inl ⟨_, SqL.of (by assumption), rfl⟩, ?_⟩ | refine ⟨_, _, rfl, .inr ⟨_, SqT.of (by assumption), rfl⟩, ?_⟩))
      (refine ⟨_, _, _, _, false, rfl, .ty _, .base (.lst (by assumption)), kit_ty (by decide +kernel), ?_⟩)
      (repeat (first | refine ⟨_, rfl, ?_⟩ | refine ⟨rfl, ?_⟩ | refine ⟨_, _, rfl, rfl, ?_⟩ | refine iteT ?_ | refine iteF ?_ | refine ⟨(by show (0 : Int) < _; omega), ?_⟩ | refine ⟨(⟨by omega, by omega⟩ : CDiv _ _), ?_⟩ | refine ⟨(⟨by decide, by decide, by decide⟩ : CPow _ _), ?_⟩ | refine ⟨(.inl ⟨by omega, by omega⟩ : CMul _ _), ?_⟩ | refine ⟨(.inr ⟨by omega, by omega⟩ : CMul _ _), ?_⟩ | refine Or.inl ⟨_, rfl, ?_⟩ | refine Or.inr ⟨_, rfl, ?_⟩ | refine ⟨_, _, _, _, true, rfl, .ty _, .base (.str _), kit_ty (by decide +kernel), ?_⟩ | refine ⟨_, _, rfl, ⟨by rw [sizeLine_eq]; omega, rfl⟩, ?_⟩ | refine ⟨_, _, rfl, .inl ⟨_, SqL.of (by assumption), rfl⟩, ?_⟩ | refine ⟨_, _, rfl, .inr ⟨_, SqT.of (by assumption), rfl⟩, ?_⟩))
      (refine ⟨_, _, _, _, false, rfl, .ty _, .base (.lst (by assumption)), kit_ty (by decide +kernel), ?_⟩)
      (repeat (first | refine ⟨_, rfl, ?_⟩ | refine ⟨rfl, ?_⟩ | refine ⟨_, _, rfl, rfl, ?_⟩ | refine iteT ?_ | refine iteF ?_ | refine ⟨(by show (0 : Int) < _; omega), ?_⟩ | refine ⟨(⟨by omega, by omega⟩ : CDiv _ _), ?_⟩ | refine ⟨(⟨by decide, by decide, by decide⟩ : CPow _ _), ?_⟩ | refine ⟨(.inl ⟨by omega, by omega⟩ : CMul _ _), ?_⟩ | refine ⟨(.inr ⟨by omega, by omega⟩ : CMul _ _), ?_⟩ | refine Or.inl ⟨_, rfl, ?_⟩ | refine Or.inr ⟨_, rfl, ?_⟩ | refine ⟨_, _, _, _, true, rfl, .ty _, .base (.str _), kit_ty (by decide +kernel), ?_⟩ | refine ⟨_, _, rfl, ⟨by rw [sizeLine_eq]; omega, rfl⟩, ?_⟩ | refine ⟨_, _, rfl, .inl ⟨_, SqL.of (by assumption), rfl⟩, ?_⟩ | refine ⟨_, _, rfl, .inr ⟨_, SqT.of (by assumption), rfl⟩, ?_⟩))
      (refine ⟨_, _, _, _, false, rfl, .ty _, .base (.lst (by assumption)), kit_ty (by decide +kernel), ?_⟩)
      (repeat (first | refine ⟨_, rfl, ?_⟩ | refine ⟨rfl, ?_⟩ | refine ⟨_, _, rfl, rfl, ?_⟩ | refine iteT ?_ | refine iteF ?_ | refine ⟨(by show (0 : Int) < _; omega), ?_⟩ | refine ⟨(⟨by omega, by omega⟩ : CDiv _ _), ?_⟩ | refine ⟨(⟨by decide, by decide, by decide⟩ : CPow _ _), ?_⟩ | refine ⟨(.inl ⟨by omega, by omega⟩ : CMul _ _), ?_⟩ | refine ⟨(.inr ⟨by omega, by omega⟩ : CMul _ _), ?_⟩ | refine Or.inl ⟨_, rfl, ?_⟩ | refine Or.inr ⟨_, rfl, ?_⟩ | refine ⟨_, _, _, _, true, rfl, .ty _, .base (.str _), kit_ty (by decide +kernel), ?_⟩ | refine ⟨_, _, rfl, ⟨by rw [sizeLine_eq]; omega, rfl⟩, ?_⟩ | refine ⟨_, _, rfl, .inl ⟨_, SqL.of (by assumption), rfl⟩, ?_⟩ | refine ⟨_, _, rfl, .inr ⟨_, SqT.of (by assumption), rfl⟩, ?_⟩))
      (refine ⟨_, _, _, _, true, rfl, .ty _, .base (.lst (by assumption)), kit_ty (by decide +kernel), ?_⟩)
      (repeat (first | refine ⟨_, rfl, ?_⟩ | refine ⟨rfl, ?_⟩ | refine ⟨_, _, rfl, rfl, ?_⟩ | refine iteT ?_ | refine iteF ?_ | refine ⟨(by show (0 : Int) < _; omega), ?_⟩ | refine ⟨(⟨by omega, by omega⟩ : CDiv _ _), ?_⟩ | refine ⟨(⟨by decide, by decide, by decide⟩ : CPow _ _), ?_⟩ | refine ⟨(.inl ⟨by omega, by omega⟩ : CMul _ _), ?_⟩ | refine ⟨(.inr ⟨by omega, by omega⟩ : CMul _ _), ?_⟩ | refine Or.inl ⟨_, rfl, ?_⟩ | refine Or.inr ⟨_, rfl, ?_⟩ | refine ⟨_, _, _, _, true, rfl, .ty _, .base (.str _), kit_ty (by decide +kernel), ?_⟩ | refine ⟨_, _, rfl, ⟨by rw [sizeLine_eq]; omega, rfl⟩, ?_⟩ | refine ⟨_, _, rfl, .inl ⟨_, SqL.of (by assumption), rfl⟩, ?_⟩ | refine ⟨_, _, rfl, .inr ⟨_, SqT.of (by assumption), rfl⟩, ?_⟩))
      (refine ⟨_, _, _, _, true, rfl, .ty _, .base (.lst (by assumption)), kit_ty (by decide +kernel), ?_⟩)
      (repeat (first | refine ⟨_, rfl, ?_⟩ | refine ⟨rfl, ?_⟩ | refine ⟨_, _, rfl, rfl, ?_⟩ | refine iteT ?_ | refine iteF ?_ | refine ⟨(by show (0 : Int) < _; omega), ?_⟩ | refine ⟨(⟨by omega, by omega⟩ : CDiv _ _), ?_⟩ | refine ⟨(⟨by decide, by decide, by decide⟩ : CPow _ _), ?_⟩ | refine ⟨(.inl ⟨by omega, by omega⟩ : CMul _ _), ?_⟩ | refine ⟨(.inr ⟨by omega, by omega⟩ : CMul _ _), ?_⟩ | refine Or.inl ⟨_, rfl, ?_⟩ | refine Or.inr ⟨_, rfl, ?_⟩ | refine ⟨_, _, _, _, true, rfl, .ty _, .base (.str _), kit_ty (by decide +kernel), ?_⟩ | refine ⟨_, _, rfl, ⟨by rw [sizeLine_eq]; omega, rfl⟩, ?_⟩ | refine ⟨_, _, rfl, .inl ⟨_, SqL.of (by assumption), rfl⟩, ?_⟩ | refine ⟨_, _, rfl, .inr ⟨_, SqT.of (by assumption), rfl⟩, ?_⟩))
      by_cases hl : xs.length = ys.length
      · rw [show (!decide (V.int (xs.length : Nat) = V.int (ys.length : Nat))) = false by simp [hl]]
        (repeat (first | refine ⟨_, rfl, ?_⟩ | refine ⟨rfl, ?_⟩ | refine ⟨_, _, rfl, rfl, ?_⟩ | refine iteT ?_ | refine iteF ?_ | refine ⟨(by show (0 : Int) < _; omega), ?_⟩ | refine ⟨(⟨by omega, by omega⟩ : CDiv _ _), ?_⟩ | refine ⟨(⟨by decide, by decide, by decide⟩ : CPow _ _), ?_⟩ | refine ⟨(.inl ⟨by omega, by omega⟩ : CMul _ _), ?_⟩ | refine ⟨(.inr ⟨by omega, by omega⟩ : CMul _ _), ?_⟩ | refine Or.inl ⟨_, rfl, ?_⟩ | refine Or.inr ⟨_, rfl, ?_⟩ | refine ⟨_, _, _, _, true, rfl, .ty _, .base (.str _), kit_ty (by decide +kernel), ?_⟩ | refine ⟨_, _, rfl, ⟨by rw [sizeLine_eq]; omega, rfl⟩, ?_⟩ | refine ⟨_, _, rfl, .inl ⟨_, SqL.of (by assumption), rfl⟩, ?_⟩ | refine ⟨_, _, rfl, .inr ⟨_, SqT.of (by assumption), rfl⟩, ?_⟩))
        refine ⟨by omega, by omega, fun D nD => ?_⟩
        refine lc_it walk_range (fun i H' => Same H H' ∧ H' D = some (.lst (((List.range i).map fun i => decide (xs[i]? = ys[i]?)).map V.bl))) ⟨Same.new nD, upd_same⟩ (fun _ _ _ _ => True.intro) ?_ ?_
        · rintro i v H0 H1 hi ⟨s1, hD⟩ ⟨rfl, hv0⟩
          have hv0 : v = V.int ((i : Nat) : Int) := hv0.trans (congrArg V.int (Int.zero_add _))
          subst hv0
          have hi : i < ys.length := by simpa using hi
          have ex : xs[i]? = some xs[i] := List.getElem?_eq_getElem (by omega)
          have ey : ys[i]? = some ys[i] := List.getElem?_eq_getElem hi
          refine ⟨rfl, ?_⟩
          (repeat (first | refine ⟨_, rfl, ?_⟩ | refine ⟨rfl, ?_⟩ | refine ⟨_, _, rfl, rfl, ?_⟩ | refine iteT ?_ | refine iteF ?_ | refine ⟨(by show (0 : Int) < _; omega), ?_⟩ | refine ⟨(⟨by omega, by omega⟩ : CDiv _ _), ?_⟩ | refine ⟨(⟨by decide, by decide, by decide⟩ : CPow _ _), ?_⟩ | refine ⟨(.inl ⟨by omega, by omega⟩ : CMul _ _), ?_⟩ | refine ⟨(.inr ⟨by omega, by omega⟩ : CMul _ _), ?_⟩ | refine Or.inl ⟨_, rfl, ?_⟩ | refine Or.inr ⟨_, rfl, ?_⟩ | refine ⟨_, _, _, _, true, rfl, .ty _, .base (.str _), kit_ty (by decide +kernel), ?_⟩ | refine ⟨_, _, rfl, ⟨by rw [sizeLine_eq]; omega, rfl⟩, ?_⟩ | refine ⟨_, _, rfl, .inl ⟨_, SqL.of (by assumption), rfl⟩, ?_⟩ | refine ⟨_, _, rfl, .inr ⟨_, SqT.of (by assumption), rfl⟩, ?_⟩))
          refine Or.inl ⟨a, _, _, _, rfl, rfl, SqL.of (s1 _ _ ha), atI_nat ex, ?_⟩
          (repeat (first | refine ⟨_, rfl, ?_⟩ | refine ⟨rfl, ?_⟩ | refine ⟨_, _, rfl, rfl, ?_⟩ | refine iteT ?_ | refine iteF ?_ | refine ⟨(by show (0 : Int) < _; omega), ?_⟩ | refine ⟨(⟨by omega, by omega⟩ : CDiv _ _), ?_⟩ | refine ⟨(⟨by decide, by decide, by decide⟩ : CPow _ _), ?_⟩ | refine ⟨(.inl ⟨by omega, by omega⟩ : CMul _ _), ?_⟩ | refine ⟨(.inr ⟨by omega, by omega⟩ : CMul _ _), ?_⟩ | refine Or.inl ⟨_, rfl, ?_⟩ | refine Or.inr ⟨_, rfl, ?_⟩ | refine ⟨_, _, _, _, true, rfl, .ty _, .base (.str _), kit_ty (by decide +kernel), ?_⟩ | refine ⟨_, _, rfl, ⟨by rw [sizeLine_eq]; omega, rfl⟩, ?_⟩ | refine ⟨_, _, rfl, .inl ⟨_, SqL.of (by assumption), rfl⟩, ?_⟩ | refine ⟨_, _, rfl, .inr ⟨_, SqT.of (by assumption), rfl⟩, ?_⟩))
          refine Or.inl ⟨b, _, _, _, rfl, rfl, SqL.of (s1 _ _ hb), atI_nat ey, ?_⟩
          refine ⟨_, _, rfl, sx _ (List.getElem_mem _), sy _ (List.getElem_mem _), fun r er => ?_⟩
          refine ⟨_, hD, small1000 (by simp only [List.length_map, List.length_range]; omega), Same.put s1 nD, ?_⟩
          rw [upd_same, List.range_succ, List.map_append, List.map_append]
          show some (HO.lst (_ ++ [V.bl r])) = some (HO.lst (_ ++ [V.bl (decide (xs[i]? = ys[i]?))]))
          rw [er, ex, ey]
          simp
        · rintro H1 ⟨s1, hD⟩
          refine ⟨D, _, rfl, SqL.of hD, ?_⟩
          have q := k H1 s1
          rw [← all_alike hl rfl] at q
          have e : ((ys.length : Int)).toNat = ys.length := by omega
          first | exact q | (rw [show ((ys.length : Nat) : Int).toNat - 0 = ys.length by omega]; exact q) | trace_state
      · rw [show (!decide (V.int (xs.length : Nat) = V.int (ys.length : Nat))) = true by simp; omega]
        (repeat (first | refine ⟨_, rfl, ?_⟩ | refine ⟨rfl, ?_⟩ | refine ⟨_, _, rfl, rfl, ?_⟩ | refine iteT ?_ | refine iteF ?_ | refine ⟨(by show (0 : Int) < _; omega), ?_⟩ | refine ⟨(⟨by omega, by omega⟩ : CDiv _ _), ?_⟩ | refine ⟨(⟨by decide, by decide, by decide⟩ : CPow _ _), ?_⟩ | refine ⟨(.inl ⟨by omega, by omega⟩ : CMul _ _), ?_⟩ | refine ⟨(.inr ⟨by omega, by omega⟩ : CMul _ _), ?_⟩ | refine Or.inl ⟨_, rfl, ?_⟩ | refine Or.inr ⟨_, rfl, ?_⟩ | refine ⟨_, _, _, _, true, rfl, .ty _, .base (.str _), kit_ty (by decide +kernel), ?_⟩ | refine ⟨_, _, rfl, ⟨by rw [sizeLine_eq]; omega, rfl⟩, ?_⟩ | refine ⟨_, _, rfl, .inl ⟨_, SqL.of (by assumption), rfl⟩, ?_⟩ | refine ⟨_, _, rfl, .inr ⟨_, SqT.of (by assumption), rfl⟩, ?_⟩))
        have q := k H (Same.refl H)
        rw [decide_eq_false (fun e => hl (by rw [e]))] at q
        exact q
    | @tup a b xs ys ha hb sx sy lx ly =>
      rw [decide_eq_false (fun e => by cases e)]
      (repeat (first | refine ⟨_, rfl, ?_⟩ | refine ⟨rfl, ?_⟩ | refine ⟨_, _, rfl, rfl, ?_⟩ | refine iteT ?_ | refine iteF ?_ | refine ⟨(by show (0 : Int) < _; omega), ?_⟩ | refine ⟨(⟨by omega, by omega⟩ : CDiv _ _), ?_⟩ | refine ⟨(⟨by decide, by decide, by decide⟩ : CPow _ _), ?_⟩ | refine ⟨(.inl ⟨by omega, by omega⟩ : CMul _ _), ?_⟩ | refine ⟨(.inr ⟨by omega, by omega⟩ : CMul _ _), ?_⟩ | refine Or.inl ⟨_, rfl, ?_⟩ | refine Or.inr ⟨_, rfl, ?_⟩ | refine ⟨_, _, _, _, true, rfl, .ty _, .base (.str _), kit_ty (by decide +kernel), ?_⟩ | refine ⟨_, _, rfl, ⟨by rw [sizeLine_eq]; omega, rfl⟩, ?_⟩ | refine ⟨_, _, rfl, .inl ⟨_, SqL.of (by assumption), rfl⟩, ?_⟩ | refine ⟨_, _, rfl, .inr ⟨_, SqT.of (by assumption), rfl⟩, ?_⟩))
      (refine ⟨_, _, _, _, false, rfl, .ty _, .base (.tup (by assumption)), kit_ty (by decide +kernel), ?_⟩)
      (repeat (first | refine ⟨_, rfl, ?_⟩ | refine ⟨rfl, ?_⟩ | refine ⟨_, _, rfl, rfl, ?_⟩ | refine iteT ?_ | refine iteF ?_ | refine ⟨(by show (0 : Int) < _; omega), ?_⟩ | refine ⟨(⟨by omega, by omega⟩ : CDiv _ _), ?_⟩ | refine ⟨(⟨by decide, by decide, by decide⟩ : CPow _ _), ?_⟩ | refine ⟨(.inl ⟨by omega, by omega⟩ : CMul _ _), ?_⟩ | refine ⟨(.inr ⟨by omega, by omega⟩ : CMul _ _), ?_⟩ | refine Or.inl ⟨_, rfl, ?_⟩ | refine Or.inr ⟨_, rfl, ?_⟩ | refine ⟨_, _, _, _, true, rfl, .ty _, .base (.str _), kit_ty (by decide +kernel), ?_⟩ | refine ⟨_, _, rfl, ⟨by rw [sizeLine_eq]; omega, rfl⟩, ?_⟩ | refine ⟨_, _, rfl, .inl ⟨_, SqL.of (by assumption), rfl⟩, ?_⟩ | refine ⟨_, _, rfl, .inr ⟨_, SqT.of (by assumption), rfl⟩, ?_⟩))
      (refine ⟨_, _, _, _, false, rfl, .ty _, .base (.tup (by assumption)), kit_ty (by decide +kernel), ?_⟩)
      (repeat (first | refine ⟨_, rfl, ?_⟩ | refine ⟨rfl, ?_⟩ | refine ⟨_, _, rfl, rfl, ?_⟩ | refine iteT ?_ | refine iteF ?_ | refine ⟨(by show (0 : Int) < _; omega), ?_⟩ | refine ⟨(⟨by omega, by omega⟩ : CDiv _ _), ?_⟩ | refine ⟨(⟨by decide, by decide, by decide⟩ : CPow _ _), ?_⟩ | refine ⟨(.inl ⟨by omega, by omega⟩ : CMul _ _), ?_⟩ | refine ⟨(.inr ⟨by omega, by omega⟩ : CMul _ _), ?_⟩ | refine Or.inl ⟨_, rfl, ?_⟩ | refine Or.inr ⟨_, rfl, ?_⟩ | refine ⟨_, _, _, _, true, rfl, .ty _, .base (.str _), kit_ty (by decide +kernel), ?_⟩ | refine ⟨_, _, rfl, ⟨by rw [sizeLine_eq]; omega, rfl⟩, ?_⟩ | refine ⟨_, _, rfl, .inl ⟨_, SqL.of (by assumption), rfl⟩, ?_⟩ | refine ⟨_, _, rfl, .inr ⟨_, SqT.of (by assumption), rfl⟩, ?_⟩))
      (refine ⟨_, _, _, _, false, rfl, .ty _, .base (.tup (by assumption)), kit_ty (by decide +kernel), ?_⟩)
      (repeat (first | refine ⟨_, rfl, ?_⟩ | refine ⟨rfl, ?_⟩ | refine ⟨_, _, rfl, rfl, ?_⟩ | refine iteT ?_ | refine iteF ?_ | refine ⟨(by show (0 : Int) < _; omega), ?_⟩ | refine ⟨(⟨by omega, by omega⟩ : CDiv _ _), ?_⟩ | refine ⟨(⟨by decide, by decide, by decide⟩ : CPow _ _), ?_⟩ | refine ⟨(.inl ⟨by omega, by omega⟩ : CMul _ _), ?_⟩ | refine ⟨(.inr ⟨by omega, by omega⟩ : CMul _ _), ?_⟩ | refine Or.inl ⟨_, rfl, ?_⟩ | refine Or.inr ⟨_, rfl, ?_⟩ | refine ⟨_, _, _, _, true, rfl, .ty _, .base (.str _), kit_ty (by decide +kernel), ?_⟩ | refine ⟨_, _, rfl, ⟨by rw [sizeLine_eq]; omega, rfl⟩, ?_⟩ | refine ⟨_, _, rfl, .inl ⟨_, SqL.of (by assumption), rfl⟩, ?_⟩ | refine ⟨_, _, rfl, .inr ⟨_, SqT.of (by assumption), rfl⟩, ?_⟩))
      (refine ⟨_, _, _, _, false, rfl, .ty _, .base (.tup (by assumption)), kit_ty (by decide +kernel), ?_⟩)
      (repeat (first | refine ⟨_, rfl, ?_⟩ | refine ⟨rfl, ?_⟩ | refine ⟨_, _, rfl, rfl, ?_⟩ | refine iteT ?_ | refine iteF ?_ | refine ⟨(by show (0 : Int) < _; omega), ?_⟩ | refine ⟨(⟨by omega, by omega⟩ : CDiv _ _), ?_⟩ | refine ⟨(⟨by decide, by decide, by decide⟩ : CPow _ _), ?_⟩ | refine ⟨(.inl ⟨by omega, by omega⟩ : CMul _ _), ?_⟩ | refine ⟨(.inr ⟨by omega, by omega⟩ : CMul _ _), ?_⟩ | refine Or.inl ⟨_, rfl, ?_⟩ | refine Or.inr ⟨_, rfl, ?_⟩ | refine ⟨_, _, _, _, true, rfl, .ty _, .base (.str _), kit_ty (by decide +kernel), ?_⟩ | refine ⟨_, _, rfl, ⟨by rw [sizeLine_eq]; omega, rfl⟩, ?_⟩ | refine ⟨_, _, rfl, .inl ⟨_, SqL.of (by assumption), rfl⟩, ?_⟩ | refine ⟨_, _, rfl, .inr ⟨_, SqT.of (by assumption), rfl⟩, ?_⟩))
      (refine ⟨_, _, _, _, true, rfl, .ty _, .base (.tup (by assumption)), kit_ty (by decide +kernel), ?_⟩)
      (repeat (first | refine ⟨_, rfl, ?_⟩ | refine ⟨rfl, ?_⟩ | refine ⟨_, _, rfl, rfl, ?_⟩ | refine iteT ?_ | refine iteF ?_ | refine ⟨(by show (0 : Int) < _; omega), ?_⟩ | refine ⟨(⟨by omega, by omega⟩ : CDiv _ _), ?_⟩ | refine ⟨(⟨by decide, by decide, by decide⟩ : CPow _ _), ?_⟩ | refine ⟨(.inl ⟨by omega, by omega⟩ : CMul _ _), ?_⟩ | refine ⟨(.inr ⟨by omega, by omega⟩ : CMul _ _), ?_⟩ | refine Or.inl ⟨_, rfl, ?_⟩ | refine Or.inr ⟨_, rfl, ?_⟩ | refine ⟨_, _, _, _, true, rfl, .ty _, .base (.str _), kit_ty (by decide +kernel), ?_⟩ | refine ⟨_, _, rfl, ⟨by rw [sizeLine_eq]; omega, rfl⟩, ?_⟩ | refine ⟨_, _, rfl, .inl ⟨_, SqL.of (by assumption), rfl⟩, ?_⟩ | refine ⟨_, _, rfl, .inr ⟨_, SqT.of (by assumption), rfl⟩, ?_⟩))
      (refine ⟨_, _, _, _, true, rfl, .ty _, .base (.tup (by assumption)), kit_ty (by decide +kernel), ?_⟩)
      (repeat (first | refine ⟨_, rfl, ?_⟩ | refine ⟨rfl, ?_⟩ | refine ⟨_, _, rfl, rfl, ?_⟩ | refine iteT ?_ | refine iteF ?_ | refine ⟨(by show (0 : Int) < _; omega), ?_⟩ | refine ⟨(⟨by omega, by omega⟩ : CDiv _ _), ?_⟩ | refine ⟨(⟨by decide, by decide, by decide⟩ : CPow _ _), ?_⟩ | refine ⟨(.inl ⟨by omega, by omega⟩ : CMul _ _), ?_⟩ | refine ⟨(.inr ⟨by omega, by omega⟩ : CMul _ _), ?_⟩ | refine Or.inl ⟨_, rfl, ?_⟩ | refine Or.inr ⟨_, rfl, ?_⟩ | refine ⟨_, _, _, _, true, rfl, .ty _, .base (.str _), kit_ty (by decide +kernel), ?_⟩ | refine ⟨_, _, rfl, ⟨by rw [sizeLine_eq]; omega, rfl⟩, ?_⟩ | refine ⟨_, _, rfl, .inl ⟨_, SqL.of (by assumption), rfl⟩, ?_⟩ | refine ⟨_, _, rfl, .inr ⟨_, SqT.of (by assumption), rfl⟩, ?_⟩))
      (refine ⟨_, _, _, _, false, rfl, .ty _, .base (.tup (by assumption)), kit_ty (by decide +kernel), ?_⟩)
      (repeat (first | refine ⟨_, rfl, ?_⟩ | refine ⟨rfl, ?_⟩ | refine ⟨_, _, rfl, rfl, ?_⟩ | refine iteT ?_ | refine iteF ?_ | refine ⟨(by show (0 : Int) < _; omega), ?_⟩ | refine ⟨(⟨by omega, by omega⟩ : CDiv _ _), ?_⟩ | refine ⟨(⟨by decide, by decide, by decide⟩ : CPow _ _), ?_⟩ | refine ⟨(.inl ⟨by omega, by omega⟩ : CMul _ _), ?_⟩ | refine ⟨(.inr ⟨by omega, by omega⟩ : CMul _ _), ?_⟩ | refine Or.inl ⟨_, rfl, ?_⟩ | refine Or.inr ⟨_, rfl, ?_⟩ | refine ⟨_, _, _, _, true, rfl, .ty _, .base (.str _), kit_ty (by decide +kernel), ?_⟩ | refine ⟨_, _, rfl, ⟨by rw [sizeLine_eq]; omega, rfl⟩, ?_⟩ | refine ⟨_, _, rfl, .inl ⟨_, SqL.of (by assumption), rfl⟩, ?_⟩ | refine ⟨_, _, rfl, .inr ⟨_, SqT.of (by assumption), rfl⟩, ?_⟩))
      by_cases hl : xs.length = ys.length
      · rw [show (!decide (V.int (xs.length : Nat) = V.int (ys.length : Nat))) = false by simp [hl]]
        (repeat (first | refine ⟨_, rfl, ?_⟩ | refine ⟨rfl, ?_⟩ | refine ⟨_, _, rfl, rfl, ?_⟩ | refine iteT ?_ | refine iteF ?_ | refine ⟨(by show (0 : Int) < _; omega), ?_⟩ | refine ⟨(⟨by omega, by omega⟩ : CDiv _ _), ?_⟩ | refine ⟨(⟨by decide, by decide, by decide⟩ : CPow _ _), ?_⟩ | refine ⟨(.inl ⟨by omega, by omega⟩ : CMul _ _), ?_⟩ | refine ⟨(.inr ⟨by omega, by omega⟩ : CMul _ _), ?_⟩ | refine Or.inl ⟨_, rfl, ?_⟩ | refine Or.inr ⟨_, rfl, ?_⟩ | refine ⟨_, _, _, _, true, rfl, .ty _, .base (.str _), kit_ty (by decide +kernel), ?_⟩ | refine ⟨_, _, rfl, ⟨by rw [sizeLine_eq]; omega, rfl⟩, ?_⟩ | refine ⟨_, _, rfl, .inl ⟨_, SqL.of (by assumption), rfl⟩, ?_⟩ | refine ⟨_, _, rfl, .inr ⟨_, SqT.of (by assumption), rfl⟩, ?_⟩))
        refine ⟨by omega, by omega, fun D nD => ?_⟩
        refine lc_it walk_range (fun i H' => Same H H' ∧ H' D = some (.lst (((List.range i).map fun i => decide (xs[i]? = ys[i]?)).map V.bl))) ⟨Same.new nD, upd_same⟩ (fun _ _ _ _ => True.intro) ?_ ?_
        · rintro i v H0 H1 hi ⟨s1, hD⟩ ⟨rfl, hv0⟩
          have hv0 : v = V.int ((i : Nat) : Int) := hv0.trans (congrArg V.int (Int.zero_add _))
          subst hv0
          have hi : i < ys.length := by simpa using hi
          have ex : xs[i]? = some xs[i] := List.getElem?_eq_getElem (by omega)
          have ey : ys[i]? = some ys[i] := List.getElem?_eq_getElem hi
          refine ⟨rfl, ?_⟩
          (repeat (first | refine ⟨_, rfl, ?_⟩ | refine ⟨rfl, ?_⟩ | refine ⟨_, _, rfl, rfl, ?_⟩ | refine iteT ?_ | refine iteF ?_ | refine ⟨(by show (0 : Int) < _; omega), ?_⟩ | refine ⟨(⟨by omega, by omega⟩ : CDiv _ _), ?_⟩ | refine ⟨(⟨by decide, by decide, by decide⟩ : CPow _ _), ?_⟩ | refine ⟨(.inl ⟨by omega, by omega⟩ : CMul _ _), ?_⟩ | refine ⟨(.inr ⟨by omega, by omega⟩ : CMul _ _), ?_⟩ | refine Or.inl ⟨_, rfl, ?_⟩ | refine Or.inr ⟨_, rfl, ?_⟩ | refine ⟨_, _, _, _, true, rfl, .ty _, .base (.str _), kit_ty (by decide +kernel), ?_⟩ | refine ⟨_, _, rfl, ⟨by rw [sizeLine_eq]; omega, rfl⟩, ?_⟩ | refine ⟨_, _, rfl, .inl ⟨_, SqL.of (by assumption), rfl⟩, ?_⟩ | refine ⟨_, _, rfl, .inr ⟨_, SqT.of (by assumption), rfl⟩, ?_⟩))
          refine Or.inr (Or.inl ⟨a, _, _, _, rfl, rfl, SqT.of (s1 _ _ ha), atI_nat ex, ?_⟩)
          (repeat (first | refine ⟨_, rfl, ?_⟩ | refine ⟨rfl, ?_⟩ | refine ⟨_, _, rfl, rfl, ?_⟩ | refine iteT ?_ | refine iteF ?_ | refine ⟨(by show (0 : Int) < _; omega), ?_⟩ | refine ⟨(⟨by omega, by omega⟩ : CDiv _ _), ?_⟩ | refine ⟨(⟨by decide, by decide, by decide⟩ : CPow _ _), ?_⟩ | refine ⟨(.inl ⟨by omega, by omega⟩ : CMul _ _), ?_⟩ | refine ⟨(.inr ⟨by omega, by omega⟩ : CMul _ _), ?_⟩ | refine Or.inl ⟨_, rfl, ?_⟩ | refine Or.inr ⟨_, rfl, ?_⟩ | refine ⟨_, _, _, _, true, rfl, .ty _, .base (.str _), kit_ty (by decide +kernel), ?_⟩ | refine ⟨_, _, rfl, ⟨by rw [sizeLine_eq]; omega, rfl⟩, ?_⟩ | refine ⟨_, _, rfl, .inl ⟨_, SqL.of (by assumption), rfl⟩, ?_⟩ | refine ⟨_, _, rfl, .inr ⟨_, SqT.of (by assumption), rfl⟩, ?_⟩))
          refine Or.inr (Or.inl ⟨b, _, _, _, rfl, rfl, SqT.of (s1 _ _ hb), atI_nat ey, ?_⟩)
          refine ⟨_, _, rfl, sx _ (List.getElem_mem _), sy _ (List.getElem_mem _), fun r er => ?_⟩
          refine ⟨_, hD, small1000 (by simp only [List.length_map, List.length_range]; omega), Same.put s1 nD, ?_⟩
          rw [upd_same, List.range_succ, List.map_append, List.map_append]
          show some (HO.lst (_ ++ [V.bl r])) = some (HO.lst (_ ++ [V.bl (decide (xs[i]? = ys[i]?))]))
          rw [er, ex, ey]
          simp
        · rintro H1 ⟨s1, hD⟩
          refine ⟨D, _, rfl, SqL.of hD, ?_⟩
          have q := k H1 s1
          rw [← all_alike hl rfl] at q
          have e : ((ys.length : Int)).toNat = ys.length := by omega
          first | exact q | (rw [show ((ys.length : Nat) : Int).toNat - 0 = ys.length by omega]; exact q) | trace_state
      · rw [show (!decide (V.int (xs.length : Nat) = V.int (ys.length : Nat))) = true by simp; omega]
        (repeat (first | refine ⟨_, rfl, ?_⟩ | refine ⟨rfl, ?_⟩ | refine ⟨_, _, rfl, rfl, ?_⟩ | refine iteT ?_ | refine iteF ?_ | refine ⟨(by show (0 : Int) < _; omega), ?_⟩ | refine ⟨(⟨by omega, by omega⟩ : CDiv _ _), ?_⟩ | refine ⟨(⟨by decide, by decide, by decide⟩ : CPow _ _), ?_⟩ | refine ⟨(.inl ⟨by omega, by omega⟩ : CMul _ _), ?_⟩ | refine ⟨(.inr ⟨by omega, by omega⟩ : CMul _ _), ?_⟩ | refine Or.inl ⟨_, rfl, ?_⟩ | refine Or.inr ⟨_, rfl, ?_⟩ | refine ⟨_, _, _, _, true, rfl, .ty _, .base (.str _), kit_ty (by decide +kernel), ?_⟩ | refine ⟨_, _, rfl, ⟨by rw [sizeLine_eq]; omega, rfl⟩, ?_⟩ | refine ⟨_, _, rfl, .inl ⟨_, SqL.of (by assumption), rfl⟩, ?_⟩ | refine ⟨_, _, rfl, .inr ⟨_, SqT.of (by assumption), rfl⟩, ?_⟩))
        have q := k H (Same.refl H)
        rw [decide_eq_false (fun e => hl (by rw [e]))] at q
        exact q
    | @odd a b xs ys ha hb =>
      rw [decide_eq_false (fun e => by cases e)]
      (repeat (first | refine ⟨_, rfl, ?_⟩ | refine ⟨rfl, ?_⟩ | refine ⟨_, _, rfl, rfl, ?_⟩ | refine iteT ?_ | refine iteF ?_ | refine ⟨(by show (0 : Int) < _; omega), ?_⟩ | refine ⟨(⟨by omega, by omega⟩ : CDiv _ _), ?_⟩ | refine ⟨(⟨by decide, by decide, by decide⟩ : CPow _ _), ?_⟩ | refine ⟨(.inl ⟨by omega, by omega⟩ : CMul _ _), ?_⟩ | refine ⟨(.inr ⟨by omega, by omega⟩ : CMul _ _), ?_⟩ | refine Or.inl ⟨_, rfl, ?_⟩ | refine Or.inr ⟨_, rfl, ?_⟩ | refine ⟨_, _, _, _, true, rfl, .ty _, .base (.str _), kit_ty (by decide +kernel), ?_⟩ | refine ⟨_, _, rfl, ⟨by rw [sizeLine_eq]; omega, rfl⟩, ?_⟩ | refine ⟨_, _, rfl, .inl ⟨_, SqL.of (by assumption), rfl⟩, ?_⟩ | refine ⟨_, _, rfl, .inr ⟨_, SqT.of (by assumption), rfl⟩, ?_⟩))
      (refine ⟨_, _, _, _, false, rfl, .ty _, .base (.tup (by assumption)), kit_ty (by decide +kernel), ?_⟩)
      (repeat (first | refine ⟨_, rfl, ?_⟩ | refine ⟨rfl, ?_⟩ | refine ⟨_, _, rfl, rfl, ?_⟩ | refine iteT ?_ | refine iteF ?_ | refine ⟨(by show (0 : Int) < _; omega), ?_⟩ | refine ⟨(⟨by omega, by omega⟩ : CDiv _ _), ?_⟩ | refine ⟨(⟨by decide, by decide, by decide⟩ : CPow _ _), ?_⟩ | refine ⟨(.inl ⟨by omega, by omega⟩ : CMul _ _), ?_⟩ | refine ⟨(.inr ⟨by omega, by omega⟩ : CMul _ _), ?_⟩ | refine Or.inl ⟨_, rfl, ?_⟩ | refine Or.inr ⟨_, rfl, ?_⟩ | refine ⟨_, _, _, _, true, rfl, .ty _, .base (.str _), kit_ty (by decide +kernel), ?_⟩ | refine ⟨_, _, rfl, ⟨by rw [sizeLine_eq]; omega, rfl⟩, ?_⟩ | refine ⟨_, _, rfl, .inl ⟨_, SqL.of (by assumption), rfl⟩, ?_⟩ | refine ⟨_, _, rfl, .inr ⟨_, SqT.of (by assumption), rfl⟩, ?_⟩))
      (refine ⟨_, _, _, _, false, rfl, .ty _, .base (.tup (by assumption)), kit_ty (by decide +kernel), ?_⟩)
      (repeat (first | refine ⟨_, rfl, ?_⟩ | refine ⟨rfl, ?_⟩ | refine ⟨_, _, rfl, rfl, ?_⟩ | refine iteT ?_ | refine iteF ?_ | refine ⟨(by show (0 : Int) < _; omega), ?_⟩ | refine ⟨(⟨by omega, by omega⟩ : CDiv _ _), ?_⟩ | refine ⟨(⟨by decide, by decide, by decide⟩ : CPow _ _), ?_⟩ | refine ⟨(.inl ⟨by omega, by omega⟩ : CMul _ _), ?_⟩ | refine ⟨(.inr ⟨by omega, by omega⟩ : CMul _ _), ?_⟩ | refine Or.inl ⟨_, rfl, ?_⟩ | refine Or.inr ⟨_, rfl, ?_⟩ | refine ⟨_, _, _, _, true, rfl, .ty _, .base (.str _), kit_ty (by decide +kernel), ?_⟩ | refine ⟨_, _, rfl, ⟨by rw [sizeLine_eq]; omega, rfl⟩, ?_⟩ | refine ⟨_, _, rfl, .inl ⟨_, SqL.of (by assumption), rfl⟩, ?_⟩ | refine ⟨_, _, rfl, .inr ⟨_, SqT.of (by assumption), rfl⟩, ?_⟩))
      (refine ⟨_, _, _, _, false, rfl, .ty _, .base (.tup (by assumption)), kit_ty (by decide +kernel), ?_⟩)
      (repeat (first | refine ⟨_, rfl, ?_⟩ | refine ⟨rfl, ?_⟩ | refine ⟨_, _, rfl, rfl, ?_⟩ | refine iteT ?_ | refine iteF ?_ | refine ⟨(by show (0 : Int) < _; omega), ?_⟩ | refine ⟨(⟨by omega, by omega⟩ : CDiv _ _), ?_⟩ | refine ⟨(⟨by decide, by decide, by decide⟩ : CPow _ _), ?_⟩ | refine ⟨(.inl ⟨by omega, by omega⟩ : CMul _ _), ?_⟩ | refine ⟨(.inr ⟨by omega, by omega⟩ : CMul _ _), ?_⟩ | refine Or.inl ⟨_, rfl, ?_⟩ | refine Or.inr ⟨_, rfl, ?_⟩ | refine ⟨_, _, _, _, true, rfl, .ty _, .base (.str _), kit_ty (by decide +kernel), ?_⟩ | refine ⟨_, _, rfl, ⟨by rw [sizeLine_eq]; omega, rfl⟩, ?_⟩ | refine ⟨_, _, rfl, .inl ⟨_, SqL.of (by assumption), rfl⟩, ?_⟩ | refine ⟨_, _, rfl, .inr ⟨_, SqT.of (by assumption), rfl⟩, ?_⟩))
      (refine ⟨_, _, _, _, false, rfl, .ty _, .base (.tup (by assumption)), kit_ty (by decide +kernel), ?_⟩)
      (repeat (first | refine ⟨_, rfl, ?_⟩ | refine ⟨rfl, ?_⟩ | refine ⟨_, _, rfl, rfl, ?_⟩ | refine iteT ?_ | refine iteF ?_ | refine ⟨(by show (0 : Int) < _; omega), ?_⟩ | refine ⟨(⟨by omega, by omega⟩ : CDiv _ _), ?_⟩ | refine ⟨(⟨by decide, by decide, by decide⟩ : CPow _ _), ?_⟩ | refine ⟨(.inl ⟨by omega, by omega⟩ : CMul _ _), ?_⟩ | refine ⟨(.inr ⟨by omega, by omega⟩ : CMul _ _), ?_⟩ | refine Or.inl ⟨_, rfl, ?_⟩ | refine Or.inr ⟨_, rfl, ?_⟩ | refine ⟨_, _, _, _, true, rfl, .ty _, .base (.str _), kit_ty (by decide +kernel), ?_⟩ | refine ⟨_, _, rfl, ⟨by rw [sizeLine_eq]; omega, rfl⟩, ?_⟩ | refine ⟨_, _, rfl, .inl ⟨_, SqL.of (by assumption), rfl⟩, ?_⟩ | refine ⟨_, _, rfl, .inr ⟨_, SqT.of (by assumption), rfl⟩, ?_⟩))
      (refine ⟨_, _, _, _, true, rfl, .ty _, .base (.tup (by assumption)), kit_ty (by decide +kernel), ?_⟩)
      (repeat (first | refine ⟨_, rfl, ?_⟩ | refine ⟨rfl, ?_⟩ | refine ⟨_, _, rfl, rfl, ?_⟩ | refine iteT ?_ | refine iteF ?_ | refine ⟨(by show (0 : Int) < _; omega), ?_⟩ | refine ⟨(⟨by omega, by omega⟩ : CDiv _ _), ?_⟩ | refine ⟨(⟨by decide, by decide, by decide⟩ : CPow _ _), ?_⟩ | refine ⟨(.inl ⟨by omega, by omega⟩ : CMul _ _), ?_⟩ | refine ⟨(.inr ⟨by omega, by omega⟩ : CMul _ _), ?_⟩ | refine Or.inl ⟨_, rfl, ?_⟩ | refine Or.inr ⟨_, rfl, ?_⟩ | refine ⟨_, _, _, _, true, rfl, .ty _, .base (.str _), kit_ty (by decide +kernel), ?_⟩ | refine ⟨_, _, rfl, ⟨by rw [sizeLine_eq]; omega, rfl⟩, ?_⟩ | refine ⟨_, _, rfl, .inl ⟨_, SqL.of (by assumption), rfl⟩, ?_⟩ | refine ⟨_, _, rfl, .inr ⟨_, SqT.of (by assumption), rfl⟩, ?_⟩))
      (refine ⟨_, _, _, _, false, rfl, .ty _, .base (.lst (by assumption)), kit_ty (by decide +kernel), ?_⟩)
      (repeat (first | refine ⟨_, rfl, ?_⟩ | refine ⟨rfl, ?_⟩ | refine ⟨_, _, rfl, rfl, ?_⟩ | refine iteT ?_ | refine iteF ?_ | refine ⟨(by show (0 : Int) < _; omega), ?_⟩ | refine ⟨(⟨by omega, by omega⟩ : CDiv _ _), ?_⟩ | refine ⟨(⟨by decide, by decide, by decide⟩ : CPow _ _), ?_⟩ | refine ⟨(.inl ⟨by omega, by omega⟩ : CMul _ _), ?_⟩ | refine ⟨(.inr ⟨by omega, by omega⟩ : CMul _ _), ?_⟩ | refine Or.inl ⟨_, rfl, ?_⟩ | refine Or.inr ⟨_, rfl, ?_⟩ | refine ⟨_, _, _, _, true, rfl, .ty _, .base (.str _), kit_ty (by decide +kernel), ?_⟩ | refine ⟨_, _, rfl, ⟨by rw [sizeLine_eq]; omega, rfl⟩, ?_⟩ | refine ⟨_, _, rfl, .inl ⟨_, SqL.of (by assumption), rfl⟩, ?_⟩ | refine ⟨_, _, rfl, .inr ⟨_, SqT.of (by assumption), rfl⟩, ?_⟩))
      exact k H (Same.refl H)
    | @non b ys hb =>
      rw [decide_eq_false (fun e => by cases e)]
      (repeat (first | refine ⟨_, rfl, ?_⟩ | refine ⟨rfl, ?_⟩ | refine ⟨_, _, rfl, rfl, ?_⟩ | refine iteT ?_ | refine iteF ?_ | refine ⟨(by show (0 : Int) < _; omega), ?_⟩ | refine ⟨(⟨by omega, by omega⟩ : CDiv _ _), ?_⟩ | refine ⟨(⟨by decide, by decide, by decide⟩ : CPow _ _), ?_⟩ | refine ⟨(.inl ⟨by omega, by omega⟩ : CMul _ _), ?_⟩ | refine ⟨(.inr ⟨by omega, by omega⟩ : CMul _ _), ?_⟩ | refine Or.inl ⟨_, rfl, ?_⟩ | refine Or.inr ⟨_, rfl, ?_⟩ | refine ⟨_, _, _, _, true, rfl, .ty _, .base (.str _), kit_ty (by decide +kernel), ?_⟩ | refine ⟨_, _, rfl, ⟨by rw [sizeLine_eq]; omega, rfl⟩, ?_⟩ | refine ⟨_, _, rfl, .inl ⟨_, SqL.of (by assumption), rfl⟩, ?_⟩ | refine ⟨_, _, rfl, .inr ⟨_, SqT.of (by assumption), rfl⟩, ?_⟩))
      (refine ⟨_, _, _, _, false, rfl, .ty _, .base (.tup (by assumption)), kit_ty (by decide +kernel), ?_⟩)
      (repeat (first | refine ⟨_, rfl, ?_⟩ | refine ⟨rfl, ?_⟩ | refine ⟨_, _, rfl, rfl, ?_⟩ | refine iteT ?_ | refine iteF ?_ | refine ⟨(by show (0 : Int) < _; omega), ?_⟩ | refine ⟨(⟨by omega, by omega⟩ : CDiv _ _), ?_⟩ | refine ⟨(⟨by decide, by decide, by decide⟩ : CPow _ _), ?_⟩ | refine ⟨(.inl ⟨by omega, by omega⟩ : CMul _ _), ?_⟩ | refine ⟨(.inr ⟨by omega, by omega⟩ : CMul _ _), ?_⟩ | refine Or.inl ⟨_, rfl, ?_⟩ | refine Or.inr ⟨_, rfl, ?_⟩ | refine ⟨_, _, _, _, true, rfl, .ty _, .base (.str _), kit_ty (by decide +kernel), ?_⟩ | refine ⟨_, _, rfl, ⟨by rw [sizeLine_eq]; omega, rfl⟩, ?_⟩ | refine ⟨_, _, rfl, .inl ⟨_, SqL.of (by assumption), rfl⟩, ?_⟩ | refine ⟨_, _, rfl, .inr ⟨_, SqT.of (by assumption), rfl⟩, ?_⟩))
      (refine ⟨_, _, _, _, false, rfl, .ty _, .base (.tup (by assumption)), kit_ty (by decide +kernel), ?_⟩)
      (repeat (first | refine ⟨_, rfl, ?_⟩ | refine ⟨rfl, ?_⟩ | refine ⟨_, _, rfl, rfl, ?_⟩ | refine iteT ?_ | refine iteF ?_ | refine ⟨(by show (0 : Int) < _; omega), ?_⟩ | refine ⟨(⟨by omega, by omega⟩ : CDiv _ _), ?_⟩ | refine ⟨(⟨by decide, by decide, by decide⟩ : CPow _ _), ?_⟩ | refine ⟨(.inl ⟨by omega, by omega⟩ : CMul _ _), ?_⟩ | refine ⟨(.inr ⟨by omega, by omega⟩ : CMul _ _), ?_⟩ | refine Or.inl ⟨_, rfl, ?_⟩ | refine Or.inr ⟨_, rfl, ?_⟩ | refine ⟨_, _, _, _, true, rfl, .ty _, .base (.str _), kit_ty (by decide +kernel), ?_⟩ | refine ⟨_, _, rfl, ⟨by rw [sizeLine_eq]; omega, rfl⟩, ?_⟩ | refine ⟨_, _, rfl, .inl ⟨_, SqL.of (by assumption), rfl⟩, ?_⟩ | refine ⟨_, _, rfl, .inr ⟨_, SqT.of (by assumption), rfl⟩, ?_⟩))
      (refine ⟨_, _, _, _, false, rfl, .ty _, .base (.tup (by assumption)), kit_ty (by decide +kernel), ?_⟩)
      (repeat (first | refine ⟨_, rfl, ?_⟩ | refine ⟨rfl, ?_⟩ | refine ⟨_, _, rfl, rfl, ?_⟩ | refine iteT ?_ | refine iteF ?_ | refine ⟨(by show (0 : Int) < _; omega), ?_⟩ | refine ⟨(⟨by omega, by omega⟩ : CDiv _ _), ?_⟩ | refine ⟨(⟨by decide, by decide, by decide⟩ : CPow _ _), ?_⟩ | refine ⟨(.inl ⟨by omega, by omega⟩ : CMul _ _), ?_⟩ | refine ⟨(.inr ⟨by omega, by omega⟩ : CMul _ _), ?_⟩ | refine Or.inl ⟨_, rfl, ?_⟩ | refine Or.inr ⟨_, rfl, ?_⟩ | refine ⟨_, _, _, _, true, rfl, .ty _, .base (.str _), kit_ty (by decide +kernel), ?_⟩ | refine ⟨_, _, rfl, ⟨by rw [sizeLine_eq]; omega, rfl⟩, ?_⟩ | refine ⟨_, _, rfl, .inl ⟨_, SqL.of (by assumption), rfl⟩, ?_⟩ | refine ⟨_, _, rfl, .inr ⟨_, SqT.of (by assumption), rfl⟩, ?_⟩))
      (refine ⟨_, _, _, _, false, rfl, .ty _, .base (.tup (by assumption)), kit_ty (by decide +kernel), ?_⟩)
      (repeat (first | refine ⟨_, rfl, ?_⟩ | refine ⟨rfl, ?_⟩ | refine ⟨_, _, rfl, rfl, ?_⟩ | refine iteT ?_ | refine iteF ?_ | refine ⟨(by show (0 : Int) < _; omega), ?_⟩ | refine ⟨(⟨by omega, by omega⟩ : CDiv _ _), ?_⟩ | refine ⟨(⟨by decide, by decide, by decide⟩ : CPow _ _), ?_⟩ | refine ⟨(.inl ⟨by omega, by omega⟩ : CMul _ _), ?_⟩ | refine ⟨(.inr ⟨by omega, by omega⟩ : CMul _ _), ?_⟩ | refine Or.inl ⟨_, rfl, ?_⟩ | refine Or.inr ⟨_, rfl, ?_⟩ | refine ⟨_, _, _, _, true, rfl, .ty _, .base (.str _), kit_ty (by decide +kernel), ?_⟩ | refine ⟨_, _, rfl, ⟨by rw [sizeLine_eq]; omega, rfl⟩, ?_⟩ | refine ⟨_, _, rfl, .inl ⟨_, SqL.of (by assumption), rfl⟩, ?_⟩ | refine ⟨_, _, rfl, .inr ⟨_, SqT.of (by assumption), rfl⟩, ?_⟩))
      (refine ⟨_, _, _, _, true, rfl, .ty _, .base (.tup (by assumption)), kit_ty (by decide +kernel), ?_⟩)
      (repeat (first | refine ⟨_, rfl, ?_⟩ | refine ⟨rfl, ?_⟩ | refine ⟨_, _, rfl, rfl, ?_⟩ | refine iteT ?_ | refine iteF ?_ | refine ⟨(by show (0 : Int) < _; omega), ?_⟩ | refine ⟨(⟨by omega, by omega⟩ : CDiv _ _), ?_⟩ | refine ⟨(⟨by decide, by decide, by decide⟩ : CPow _ _), ?_⟩ | refine ⟨(.inl ⟨by omega, by omega⟩ : CMul _ _), ?_⟩ | refine ⟨(.inr ⟨by omega, by omega⟩ : CMul _ _), ?_⟩ | refine Or.inl ⟨_, rfl, ?_⟩ | refine Or.inr ⟨_, rfl, ?_⟩ | refine ⟨_, _, _, _, true, rfl, .ty _, .base (.str _), kit_ty (by decide +kernel), ?_⟩ | refine ⟨_, _, rfl, ⟨by rw [sizeLine_eq]; omega, rfl⟩, ?_⟩ | refine ⟨_, _, rfl, .inl ⟨_, SqL.of (by assumption), rfl⟩, ?_⟩ | refine ⟨_, _, rfl, .inr ⟨_, SqT.of (by assumption), rfl⟩, ?_⟩))
      (refine ⟨_, _, _, _, false, rfl, .ty _, .base .non, kit_ty (by decide +kernel), ?_⟩)
      (repeat (first | refine ⟨_, rfl, ?_⟩ | refine ⟨rfl, ?_⟩ | refine ⟨_, _, rfl, rfl, ?_⟩ | refine iteT ?_ | refine iteF ?_ | refine ⟨(by show (0 : Int) < _; omega), ?_⟩ | refine ⟨(⟨by omega, by omega⟩ : CDiv _ _), ?_⟩ | refine ⟨(⟨by decide, by decide, by decide⟩ : CPow _ _), ?_⟩ | refine ⟨(.inl ⟨by omega, by omega⟩ : CMul _ _), ?_⟩ | refine ⟨(.inr ⟨by omega, by omega⟩ : CMul _ _), ?_⟩ | refine Or.inl ⟨_, rfl, ?_⟩ | refine Or.inr ⟨_, rfl, ?_⟩ | refine ⟨_, _, _, _, true, rfl, .ty _, .base (.str _), kit_ty (by decide +kernel), ?_⟩ | refine ⟨_, _, rfl, ⟨by rw [sizeLine_eq]; omega, rfl⟩, ?_⟩ | refine ⟨_, _, rfl, .inl ⟨_, SqL.of (by assumption), rfl⟩, ?_⟩ | refine ⟨_, _, rfl, .inr ⟨_, SqT.of (by assumption), rfl⟩, ?_⟩))
      exact k H (Same.refl H)
end
end BF25
set_option Elab.async false
set_option linter.all false
set_option maxRecDepth 100000
set_option maxHeartbeats 4000000
namespace BF25
open BF
open PySem PySem.Spec PyProof.Rows L2
open C8 (Cal CalAt Met Mak cal0 met0 mak0 fn0 pe_c pe_mk pe_mt pe_mt0 pe_gc fnScope fnBody fnArgs fnScope_by)
open SX
section
variable {P : Program} {w : World} {K : PySem.W.Frag} {mg : Str → Option Value} {base : Heap} {A : Ad}
inductive DueH | things (k : Int) | jobs (n : Str) | made
def dueH (ps : List Str) (rows : List Rw) : DueH := match peF ps with
  | some k => .things k
  | none => match joF ps rows with
    | some n => .jobs n
    | none => .made
def dueT : DueH → List V
  | .things k => [.str "things", .int k]
  | .jobs n => [.str "jobs", .str n]
  | .made => [.str "made"]
theorem due_things {ps : List Str} {rows : List Rw} {k : Int} (h : peF ps = some k) : dueT (dueH ps rows) = [.str "things", .int k] := by unfold dueH; rw [h]; rfl
theorem due_jobs {ps : List Str} {rows : List Rw} {n : Str} (h : peF ps = none) (h1 : joF ps rows = some n) : dueT (dueH ps rows) = [.str "jobs", .str n] := by unfold dueH; rw [h]; dsimp only; rw [h1]; rfl
theorem due_made {ps : List Str} {rows : List Rw} (h : peF ps = none) (h1 : joF ps rows = none) : dueT (dueH ps rows) = [.str "made"] := by unfold dueH; rw [h]; dsimp only; rw [h1]; rfl
/-- a making: the heap at the __init__ -/
theorem made_at {H : Hp} {x dx C : Addr} (nx : H x = none) (ndx : H dx = none) (ne : dx ≠ x) : Same H (upd (upd H dx (.own x)) x (.ins C dx [])) := fun b o e => by
  rw [upd_ne (ne_of_none e nx), upd_ne (ne_of_none e ndx)]
  exact e
theorem made_fr {H H' : Hp} {x dx C : Addr} (nx : H x = none) (ndx : H dx = none) (ne : dx ≠ x) (f : FrH x (upd (upd H dx (.own x)) x (.ins C dx [])) H') : Same H H' := fun b o e => f b o (ne_of_none e nx) (made_at nx ndx ne b o e)
/-- hires, as a def is handed them -/
structure Given (H : Hp) (a d : Addr) (ps : List Str) (rows : List Rw) : Prop where
  ex : ∃ kvs N, H d = some (.dK kvs) ∧ RowsN N H kvs rows
  ha : H a = some (.lst (ps.map V.str))
  nk : (rows.map (·.1)).Nodup
  lr : rows.length ≤ 30
  lp : ps.length ≤ 1000
  lx : ∀ x ∈ ps, x.length ≤ 1000
  md : Mid rows
theorem Given.same {H G : Hp} {a d : Addr} {ps : List Str} {rows : List Rw} (g : Given H a d ps rows) (s : Same H G) : Given G a d ps rows := ⟨let ⟨kvs, N, e, r⟩ := g.ex; ⟨kvs, N, s _ _ e, r.same s⟩, s _ _ g.ha, g.nk, g.lr, g.lp, g.lx, g.md⟩
def spMade : Sp := fun vs H Q _ => ∃ (a d : Addr) (ps : List Str) (rows : List Rw), vs = [.ref a, .ref d] ∧ Given H a d ps rows ∧ ∀ p H', H p = none → Same H H' → H' p = some (.tup (dueT (dueH ps rows))) → Q (.ref p) H'
theorem cal_law_made_so (T : Txt K mg A) : Cal P w K mg base 6 "_law_made_so" spMade [] := by
  refine cal0 T.d_law_made_so T.b_law_made_so .nil sc_law_made_so (fun vs H Q E h => ?_) (fun cdv B outer s H vs Q E hr h => ?_)
  · obtain ⟨a, d, ps, rows, rfl, _⟩ := h
    rfl
  · obtain ⟨a, d, ps, rows, rfl, ⟨⟨kvs, N, hd, hR⟩, ha, nk, lr, lp, lx, md⟩, k⟩ := h
    refine ⟨_, (pss_cons (ps_set (i := 2) sc_law_made_so.nd rfl (by first | exact Or.inl rfl | exact Or.inr rfl) (pe_tup (pa_cons pe_str pa_nil)))
 (pss_cons (ps_try_manyA sc_law_made_so.nd rfl rfl takes0 (fun W pn xe tk _ => (pss_one (ps_expr (by exact (pe_mkS2 (mak_Hires (K := K) T) hr (by decide) (fun σ => passAt tk σ) (pa_cons (pv 0) (pa_cons (pv 1) pa_nil)))))))
  (HdsA.cons (i := 3) rfl rfl ⟨rfl, by decide, Or.inl T.gC_LotError⟩ (fun a oe cls d pn hz hf => (pss_one (ps_if (pt_val (pe_callB (call_isE (isE_LotError T) hz hf) (by rfl) T.z_isinstance (by decide +kernel) (pa_cons (pv 3) (pa_cons (pe_gc (v := .ref A.C_BadThings) rfl ⟨_, T.gC_BadThings, rfl⟩) pa_nil)))) (pss_one (ps_set (i := 2) sc_law_made_so.nd rfl (by first | exact Or.inl rfl | exact Or.inr rfl) (pe_tup (pa_cons pe_str (pa_cons (pe_xf T.xf_BadThings T.nx_BadThings_index hz hf (pv 3)) pa_nil))))) (pss_one (ps_if (pt_val (pe_callB (call_isE (isE_LotError T) hz hf) (by rfl) T.z_isinstance (by decide +kernel) (pa_cons (pv 3) (pa_cons (pe_gc (v := .ref A.C_BadJobs) rfl ⟨_, T.gC_BadJobs, rfl⟩) pa_nil)))) (pss_one (ps_set (i := 2) sc_law_made_so.nd rfl (by first | exact Or.inl rfl | exact Or.inr rfl) (pe_tup (pa_cons pe_str (pa_cons (pe_xf T.xf_BadJobs T.nx_BadJobs_person hz hf (pv 3)) pa_nil))))) pss_nil)))))
  HdsA.nil))
 (pss_one (ps_ret (pv 2))))), ?_⟩
    refine ⟨by show 1 ≤ sizeLine; rw [sizeLine_eq]; omega, fun t nt => ?_⟩
    have s0 : Same H (upd H t (.tup [V.str "made"])) := Same.new nt
    have ht := upd_same (H := H) (a := t) (o := .tup [V.str "made"])
    generalize hH : upd H t (.tup [V.str "made"]) = H0 at *
    (repeat (first | refine ⟨_, rfl, ?_⟩ | refine ⟨rfl, ?_⟩ | refine ⟨_, _, rfl, rfl, ?_⟩ | refine iteT ?_ | refine iteF ?_ | refine ⟨(by show (0 : Int) < _; omega), ?_⟩ | refine ⟨(⟨by omega, by omega⟩ : CDiv _ _), ?_⟩ | refine ⟨(⟨by decide, by decide, by decide⟩ : CPow _ _), ?_⟩ | refine ⟨(.inl ⟨by omega, by omega⟩ : CMul _ _), ?_⟩ | refine ⟨(.inr ⟨by omega, by omega⟩ : CMul _ _), ?_⟩ | refine Or.inl ⟨_, rfl, ?_⟩ | refine Or.inr ⟨_, rfl, ?_⟩ | refine ⟨_, _, _, _, true, rfl, .ty _, .base (.str _), kit_ty (by decide +kernel), ?_⟩ | refine ⟨_, _, rfl, ⟨by rw [sizeLine_eq]; omega, rfl⟩, ?_⟩ | refine ⟨_, _, rfl, .inl ⟨_, SqL.of (by assumption), rfl⟩, ?_⟩ | refine ⟨_, _, rfl, .inr ⟨_, SqT.of (by assumption), rfl⟩, ?_⟩))
    refine fun x dx nx ndx ne => ?_
    have s1 := made_at (C := A.C_Hires) nx ndx ne
    have sF : ∀ {H'}, FrH x (upd (upd H0 dx (.own x)) x (.ins A.C_Hires dx [])) H' → Same H0 H' := fun f => made_fr nx ndx ne f
    have s01 := s0.trans s1
    refine ⟨x, dx, a, d, ps, kvs, rows, N, rfl, upd_same, s01 _ _ ha, lp, lx, s01 _ _ hd, hR.same s01, nk, lr, md, fun k1 hk e H' f he => ?_, fun h0 n hn e H' f he => ?_, fun h0 h1 H' f hO => ?_⟩
    · have s2 := s0.trans (sF f)
      refine ⟨true, T.xm_BadThings_LotError, fun _ e ne => ?_, fun h => by cases h⟩
      (repeat (first | refine ⟨_, rfl, ?_⟩ | refine ⟨rfl, ?_⟩ | refine ⟨_, _, rfl, rfl, ?_⟩ | refine iteT ?_ | refine iteF ?_ | refine ⟨(by show (0 : Int) < _; omega), ?_⟩ | refine ⟨(⟨by omega, by omega⟩ : CDiv _ _), ?_⟩ | refine ⟨(⟨by decide, by decide, by decide⟩ : CPow _ _), ?_⟩ | refine ⟨(.inl ⟨by omega, by omega⟩ : CMul _ _), ?_⟩ | refine ⟨(.inr ⟨by omega, by omega⟩ : CMul _ _), ?_⟩ | refine Or.inl ⟨_, rfl, ?_⟩ | refine Or.inr ⟨_, rfl, ?_⟩ | refine ⟨_, _, _, _, true, rfl, .ty _, .base (.str _), kit_ty (by decide +kernel), ?_⟩ | refine ⟨_, _, rfl, ⟨by rw [sizeLine_eq]; omega, rfl⟩, ?_⟩ | refine ⟨_, _, rfl, .inl ⟨_, SqL.of (by assumption), rfl⟩, ?_⟩ | refine ⟨_, _, rfl, .inr ⟨_, SqT.of (by assumption), rfl⟩, ?_⟩))
      refine ⟨A.C_BadThings, .inl rfl, _, _, true, _, _, rfl, .own _, rfl, rfl, he, T.ky_BadThings_BadThings, ?_⟩
      (repeat (first | refine ⟨_, rfl, ?_⟩ | refine ⟨rfl, ?_⟩ | refine ⟨_, _, rfl, rfl, ?_⟩ | refine iteT ?_ | refine iteF ?_ | refine ⟨(by show (0 : Int) < _; omega), ?_⟩ | refine ⟨(⟨by omega, by omega⟩ : CDiv _ _), ?_⟩ | refine ⟨(⟨by decide, by decide, by decide⟩ : CPow _ _), ?_⟩ | refine ⟨(.inl ⟨by omega, by omega⟩ : CMul _ _), ?_⟩ | refine ⟨(.inr ⟨by omega, by omega⟩ : CMul _ _), ?_⟩ | refine Or.inl ⟨_, rfl, ?_⟩ | refine Or.inr ⟨_, rfl, ?_⟩ | refine ⟨_, _, _, _, true, rfl, .ty _, .base (.str _), kit_ty (by decide +kernel), ?_⟩ | refine ⟨_, _, rfl, ⟨by rw [sizeLine_eq]; omega, rfl⟩, ?_⟩ | refine ⟨_, _, rfl, .inl ⟨_, SqL.of (by assumption), rfl⟩, ?_⟩ | refine ⟨_, _, rfl, .inr ⟨_, SqT.of (by assumption), rfl⟩, ?_⟩))
      refine ⟨_, _, _, rfl, he, rfl, ?_⟩
      (repeat (first | refine ⟨_, rfl, ?_⟩ | refine ⟨rfl, ?_⟩ | refine ⟨_, _, rfl, rfl, ?_⟩ | refine iteT ?_ | refine iteF ?_ | refine ⟨(by show (0 : Int) < _; omega), ?_⟩ | refine ⟨(⟨by omega, by omega⟩ : CDiv _ _), ?_⟩ | refine ⟨(⟨by decide, by decide, by decide⟩ : CPow _ _), ?_⟩ | refine ⟨(.inl ⟨by omega, by omega⟩ : CMul _ _), ?_⟩ | refine ⟨(.inr ⟨by omega, by omega⟩ : CMul _ _), ?_⟩ | refine Or.inl ⟨_, rfl, ?_⟩ | refine Or.inr ⟨_, rfl, ?_⟩ | refine ⟨_, _, _, _, true, rfl, .ty _, .base (.str _), kit_ty (by decide +kernel), ?_⟩ | refine ⟨_, _, rfl, ⟨by rw [sizeLine_eq]; omega, rfl⟩, ?_⟩ | refine ⟨_, _, rfl, .inl ⟨_, SqL.of (by assumption), rfl⟩, ?_⟩ | refine ⟨_, _, rfl, .inr ⟨_, SqT.of (by assumption), rfl⟩, ?_⟩))
      refine ⟨(by show 2 ≤ sizeLine; rw [sizeLine_eq]; omega), fun p np => ?_⟩
      (repeat (first | refine ⟨_, rfl, ?_⟩ | refine ⟨rfl, ?_⟩ | refine ⟨_, _, rfl, rfl, ?_⟩ | refine iteT ?_ | refine iteF ?_ | refine ⟨(by show (0 : Int) < _; omega), ?_⟩ | refine ⟨(⟨by omega, by omega⟩ : CDiv _ _), ?_⟩ | refine ⟨(⟨by decide, by decide, by decide⟩ : CPow _ _), ?_⟩ | refine ⟨(.inl ⟨by omega, by omega⟩ : CMul _ _), ?_⟩ | refine ⟨(.inr ⟨by omega, by omega⟩ : CMul _ _), ?_⟩ | refine Or.inl ⟨_, rfl, ?_⟩ | refine Or.inr ⟨_, rfl, ?_⟩ | refine ⟨_, _, _, _, true, rfl, .ty _, .base (.str _), kit_ty (by decide +kernel), ?_⟩ | refine ⟨_, _, rfl, ⟨by rw [sizeLine_eq]; omega, rfl⟩, ?_⟩ | refine ⟨_, _, rfl, .inl ⟨_, SqL.of (by assumption), rfl⟩, ?_⟩ | refine ⟨_, _, rfl, .inr ⟨_, SqT.of (by assumption), rfl⟩, ?_⟩))
      exact k p _ (s2.free np) (Same.put s2 (s2.free np)) (by rw [due_things hk]; exact upd_same)
    · have s2 := s0.trans (sF f)
      refine ⟨true, T.xm_BadJobs_LotError, fun _ e ne => ?_, fun h => by cases h⟩
      (repeat (first | refine ⟨_, rfl, ?_⟩ | refine ⟨rfl, ?_⟩ | refine ⟨_, _, rfl, rfl, ?_⟩ | refine iteT ?_ | refine iteF ?_ | refine ⟨(by show (0 : Int) < _; omega), ?_⟩ | refine ⟨(⟨by omega, by omega⟩ : CDiv _ _), ?_⟩ | refine ⟨(⟨by decide, by decide, by decide⟩ : CPow _ _), ?_⟩ | refine ⟨(.inl ⟨by omega, by omega⟩ : CMul _ _), ?_⟩ | refine ⟨(.inr ⟨by omega, by omega⟩ : CMul _ _), ?_⟩ | refine Or.inl ⟨_, rfl, ?_⟩ | refine Or.inr ⟨_, rfl, ?_⟩ | refine ⟨_, _, _, _, true, rfl, .ty _, .base (.str _), kit_ty (by decide +kernel), ?_⟩ | refine ⟨_, _, rfl, ⟨by rw [sizeLine_eq]; omega, rfl⟩, ?_⟩ | refine ⟨_, _, rfl, .inl ⟨_, SqL.of (by assumption), rfl⟩, ?_⟩ | refine ⟨_, _, rfl, .inr ⟨_, SqT.of (by assumption), rfl⟩, ?_⟩))
      refine ⟨A.C_BadJobs, .inr rfl, _, _, false, _, _, rfl, .own _, rfl, rfl, he, T.ky_BadJobs_BadThings, ?_⟩
      (repeat (first | refine ⟨_, rfl, ?_⟩ | refine ⟨rfl, ?_⟩ | refine ⟨_, _, rfl, rfl, ?_⟩ | refine iteT ?_ | refine iteF ?_ | refine ⟨(by show (0 : Int) < _; omega), ?_⟩ | refine ⟨(⟨by omega, by omega⟩ : CDiv _ _), ?_⟩ | refine ⟨(⟨by decide, by decide, by decide⟩ : CPow _ _), ?_⟩ | refine ⟨(.inl ⟨by omega, by omega⟩ : CMul _ _), ?_⟩ | refine ⟨(.inr ⟨by omega, by omega⟩ : CMul _ _), ?_⟩ | refine Or.inl ⟨_, rfl, ?_⟩ | refine Or.inr ⟨_, rfl, ?_⟩ | refine ⟨_, _, _, _, true, rfl, .ty _, .base (.str _), kit_ty (by decide +kernel), ?_⟩ | refine ⟨_, _, rfl, ⟨by rw [sizeLine_eq]; omega, rfl⟩, ?_⟩ | refine ⟨_, _, rfl, .inl ⟨_, SqL.of (by assumption), rfl⟩, ?_⟩ | refine ⟨_, _, rfl, .inr ⟨_, SqT.of (by assumption), rfl⟩, ?_⟩))
      refine ⟨A.C_BadJobs, .inr rfl, _, _, true, _, _, rfl, .own _, rfl, rfl, he, T.ky_BadJobs_BadJobs, ?_⟩
      (repeat (first | refine ⟨_, rfl, ?_⟩ | refine ⟨rfl, ?_⟩ | refine ⟨_, _, rfl, rfl, ?_⟩ | refine iteT ?_ | refine iteF ?_ | refine ⟨(by show (0 : Int) < _; omega), ?_⟩ | refine ⟨(⟨by omega, by omega⟩ : CDiv _ _), ?_⟩ | refine ⟨(⟨by decide, by decide, by decide⟩ : CPow _ _), ?_⟩ | refine ⟨(.inl ⟨by omega, by omega⟩ : CMul _ _), ?_⟩ | refine ⟨(.inr ⟨by omega, by omega⟩ : CMul _ _), ?_⟩ | refine Or.inl ⟨_, rfl, ?_⟩ | refine Or.inr ⟨_, rfl, ?_⟩ | refine ⟨_, _, _, _, true, rfl, .ty _, .base (.str _), kit_ty (by decide +kernel), ?_⟩ | refine ⟨_, _, rfl, ⟨by rw [sizeLine_eq]; omega, rfl⟩, ?_⟩ | refine ⟨_, _, rfl, .inl ⟨_, SqL.of (by assumption), rfl⟩, ?_⟩ | refine ⟨_, _, rfl, .inr ⟨_, SqT.of (by assumption), rfl⟩, ?_⟩))
      refine ⟨_, _, _, rfl, he, rfl, ?_⟩
      (repeat (first | refine ⟨_, rfl, ?_⟩ | refine ⟨rfl, ?_⟩ | refine ⟨_, _, rfl, rfl, ?_⟩ | refine iteT ?_ | refine iteF ?_ | refine ⟨(by show (0 : Int) < _; omega), ?_⟩ | refine ⟨(⟨by omega, by omega⟩ : CDiv _ _), ?_⟩ | refine ⟨(⟨by decide, by decide, by decide⟩ : CPow _ _), ?_⟩ | refine ⟨(.inl ⟨by omega, by omega⟩ : CMul _ _), ?_⟩ | refine ⟨(.inr ⟨by omega, by omega⟩ : CMul _ _), ?_⟩ | refine Or.inl ⟨_, rfl, ?_⟩ | refine Or.inr ⟨_, rfl, ?_⟩ | refine ⟨_, _, _, _, true, rfl, .ty _, .base (.str _), kit_ty (by decide +kernel), ?_⟩ | refine ⟨_, _, rfl, ⟨by rw [sizeLine_eq]; omega, rfl⟩, ?_⟩ | refine ⟨_, _, rfl, .inl ⟨_, SqL.of (by assumption), rfl⟩, ?_⟩ | refine ⟨_, _, rfl, .inr ⟨_, SqT.of (by assumption), rfl⟩, ?_⟩))
      refine ⟨(by show 2 ≤ sizeLine; rw [sizeLine_eq]; omega), fun p np => ?_⟩
      (repeat (first | refine ⟨_, rfl, ?_⟩ | refine ⟨rfl, ?_⟩ | refine ⟨_, _, rfl, rfl, ?_⟩ | refine iteT ?_ | refine iteF ?_ | refine ⟨(by show (0 : Int) < _; omega), ?_⟩ | refine ⟨(⟨by omega, by omega⟩ : CDiv _ _), ?_⟩ | refine ⟨(⟨by decide, by decide, by decide⟩ : CPow _ _), ?_⟩ | refine ⟨(.inl ⟨by omega, by omega⟩ : CMul _ _), ?_⟩ | refine ⟨(.inr ⟨by omega, by omega⟩ : CMul _ _), ?_⟩ | refine Or.inl ⟨_, rfl, ?_⟩ | refine Or.inr ⟨_, rfl, ?_⟩ | refine ⟨_, _, _, _, true, rfl, .ty _, .base (.str _), kit_ty (by decide +kernel), ?_⟩ | refine ⟨_, _, rfl, ⟨by rw [sizeLine_eq]; omega, rfl⟩, ?_⟩ | refine ⟨_, _, rfl, .inl ⟨_, SqL.of (by assumption), rfl⟩, ?_⟩ | refine ⟨_, _, rfl, .inr ⟨_, SqT.of (by assumption), rfl⟩, ?_⟩))
      exact k p _ (s2.free np) (Same.put s2 (s2.free np)) (by rw [due_jobs h0 hn]; exact upd_same)
    · have s2 := s0.trans (sF f)
      refine ⟨rfl, ?_⟩
      (repeat (first | refine ⟨_, rfl, ?_⟩ | refine ⟨rfl, ?_⟩ | refine ⟨_, _, rfl, rfl, ?_⟩ | refine iteT ?_ | refine iteF ?_ | refine ⟨(by show (0 : Int) < _; omega), ?_⟩ | refine ⟨(⟨by omega, by omega⟩ : CDiv _ _), ?_⟩ | refine ⟨(⟨by decide, by decide, by decide⟩ : CPow _ _), ?_⟩ | refine ⟨(.inl ⟨by omega, by omega⟩ : CMul _ _), ?_⟩ | refine ⟨(.inr ⟨by omega, by omega⟩ : CMul _ _), ?_⟩ | refine Or.inl ⟨_, rfl, ?_⟩ | refine Or.inr ⟨_, rfl, ?_⟩ | refine ⟨_, _, _, _, true, rfl, .ty _, .base (.str _), kit_ty (by decide +kernel), ?_⟩ | refine ⟨_, _, rfl, ⟨by rw [sizeLine_eq]; omega, rfl⟩, ?_⟩ | refine ⟨_, _, rfl, .inl ⟨_, SqL.of (by assumption), rfl⟩, ?_⟩ | refine ⟨_, _, rfl, .inr ⟨_, SqT.of (by assumption), rfl⟩, ?_⟩))
      exact k t H' nt s2 (by rw [due_made h0 h1]; exact sF f _ _ ht)
end
end BF25
set_option Elab.async false
set_option linter.all false
set_option maxRecDepth 100000
set_option maxHeartbeats 4000000
namespace BF25
open BF
open PySem PySem.Spec PyProof.Rows L2
open C8 (Cal CalAt Met Mak cal0 met0 mak0 fn0 pe_c pe_mk pe_mt pe_mt0 pe_gc fnScope fnBody fnArgs fnScope_by)
open SX
section
variable {P : Program} {w : World} {K : PySem.W.Frag} {mg : Str → Option Value} {base : Heap} {A : Ad}
def spNobody (A : Ad) : Sp := fun vs H Q _ => ∃ (x : Addr) (n : Str) (ps : List Str) (rows : List Rw) (N : Addr → Prop), vs = [.ref x, .str n] ∧ HireO A.C_Hires N H x ps rows ∧
  (∀ ws, rows.lookup n = some ws → ∀ p H', H p = none → Same H H' → H' p = some (.lst (ws.map V.str)) → Q (.ref p) H') ∧ (rows.lookup n = none → ∀ p H', H p = none → Same H H' → H' p = some (.tup [.str "thing", .str n]) → Q (.ref p) H')
theorem cal_law_nobody (T : Txt K mg A) : Cal P w K mg base 5 "_law_nobody" (spNobody A) [] := by
  refine cal0 T.d_law_nobody T.b_law_nobody .nil sc_law_nobody (fun vs H Q E h => ?_) (fun cdv B outer s H vs Q E hr h => ?_)
  · obtain ⟨x, n, ps, rows, N, rfl, _⟩ := h
    rfl
  · obtain ⟨x, n, ps, rows, N, rfl, hx, k1, k2⟩ := h
    refine ⟨_, (pss_cons (ps_set (i := 2) sc_law_nobody.nd rfl (by first | exact Or.inl rfl | exact Or.inr rfl) pe_non)
 (pss_cons (ps_try_manyA sc_law_nobody.nd rfl rfl takes0 (fun W pn xe tk _ => (pss_one (ps_set (i := 2) sc_law_nobody.nd rfl (by first | exact Or.inl rfl | exact Or.inr rfl) (by exact (pe_mtS (met_Hires_jobs_of (K := K) T) hr (by decide) (fun σ => passAt tk σ) (pv 0) (pa_cons (pv 1) pa_nil))))))
  (HdsA.cons (i := 3) rfl rfl ⟨rfl, by decide, Or.inl T.gC_NoThing⟩ (fun a oe cls d pn hz hf => (pss_one (ps_set (i := 2) sc_law_nobody.nd rfl (by first | exact Or.inl rfl | exact Or.inr rfl) (pe_tup (pa_cons pe_str (pa_cons (pe_xf T.xf_NoThing T.nx_NoThing_thing hz hf (pv 3)) pa_nil))))))
  HdsA.nil))
 (pss_one (ps_ret (pv 2))))), ?_⟩
    (repeat (first | refine ⟨_, rfl, ?_⟩ | refine ⟨rfl, ?_⟩ | refine ⟨_, _, rfl, rfl, ?_⟩ | refine iteT ?_ | refine iteF ?_ | refine ⟨(by show (0 : Int) < _; omega), ?_⟩ | refine ⟨(⟨by omega, by omega⟩ : CDiv _ _), ?_⟩ | refine ⟨(⟨by decide, by decide, by decide⟩ : CPow _ _), ?_⟩ | refine ⟨(.inl ⟨by omega, by omega⟩ : CMul _ _), ?_⟩ | refine ⟨(.inr ⟨by omega, by omega⟩ : CMul _ _), ?_⟩ | refine Or.inl ⟨_, rfl, ?_⟩ | refine Or.inr ⟨_, rfl, ?_⟩ | refine ⟨_, _, _, _, true, rfl, .ty _, .base (.str _), kit_ty (by decide +kernel), ?_⟩ | refine ⟨_, _, rfl, ⟨by rw [sizeLine_eq]; omega, rfl⟩, ?_⟩ | refine ⟨_, _, rfl, .inl ⟨_, SqL.of (by assumption), rfl⟩, ?_⟩ | refine ⟨_, _, rfl, .inr ⟨_, SqT.of (by assumption), rfl⟩, ?_⟩))
    have hx0 := id hx
    obtain ⟨dx, lp, td, kvs, _, _, _, e1, _⟩ := hx0
    refine ⟨x, dx, _, rfl, e1, hfl_no _ _ (by decide +kernel) (by decide +kernel), ?_⟩
    (repeat (first | refine ⟨_, rfl, ?_⟩ | refine ⟨rfl, ?_⟩ | refine ⟨_, _, rfl, rfl, ?_⟩ | refine iteT ?_ | refine iteF ?_ | refine ⟨(by show (0 : Int) < _; omega), ?_⟩ | refine ⟨(⟨by omega, by omega⟩ : CDiv _ _), ?_⟩ | refine ⟨(⟨by decide, by decide, by decide⟩ : CPow _ _), ?_⟩ | refine ⟨(.inl ⟨by omega, by omega⟩ : CMul _ _), ?_⟩ | refine ⟨(.inr ⟨by omega, by omega⟩ : CMul _ _), ?_⟩ | refine Or.inl ⟨_, rfl, ?_⟩ | refine Or.inr ⟨_, rfl, ?_⟩ | refine ⟨_, _, _, _, true, rfl, .ty _, .base (.str _), kit_ty (by decide +kernel), ?_⟩ | refine ⟨_, _, rfl, ⟨by rw [sizeLine_eq]; omega, rfl⟩, ?_⟩ | refine ⟨_, _, rfl, .inl ⟨_, SqL.of (by assumption), rfl⟩, ?_⟩ | refine ⟨_, _, rfl, .inr ⟨_, SqT.of (by assumption), rfl⟩, ?_⟩))
    refine ⟨x, n, ps, rows, N, rfl, hx, fun ws hw p H' np s1 hp => ?_, fun hn e H' s1 he => ?_⟩
    · (repeat (first | refine ⟨_, rfl, ?_⟩ | refine ⟨rfl, ?_⟩ | refine ⟨_, _, rfl, rfl, ?_⟩ | refine iteT ?_ | refine iteF ?_ | refine ⟨(by show (0 : Int) < _; omega), ?_⟩ | refine ⟨(⟨by omega, by omega⟩ : CDiv _ _), ?_⟩ | refine ⟨(⟨by decide, by decide, by decide⟩ : CPow _ _), ?_⟩ | refine ⟨(.inl ⟨by omega, by omega⟩ : CMul _ _), ?_⟩ | refine ⟨(.inr ⟨by omega, by omega⟩ : CMul _ _), ?_⟩ | refine Or.inl ⟨_, rfl, ?_⟩ | refine Or.inr ⟨_, rfl, ?_⟩ | refine ⟨_, _, _, _, true, rfl, .ty _, .base (.str _), kit_ty (by decide +kernel), ?_⟩ | refine ⟨_, _, rfl, ⟨by rw [sizeLine_eq]; omega, rfl⟩, ?_⟩ | refine ⟨_, _, rfl, .inl ⟨_, SqL.of (by assumption), rfl⟩, ?_⟩ | refine ⟨_, _, rfl, .inr ⟨_, SqT.of (by assumption), rfl⟩, ?_⟩))
      exact k1 ws hw p H' np s1 hp
    · refine ⟨true, T.xm_NoThing_NoThing, fun _ e ne => ?_, fun h => by cases h⟩
      (repeat (first | refine ⟨_, rfl, ?_⟩ | refine ⟨rfl, ?_⟩ | refine ⟨_, _, rfl, rfl, ?_⟩ | refine iteT ?_ | refine iteF ?_ | refine ⟨(by show (0 : Int) < _; omega), ?_⟩ | refine ⟨(⟨by omega, by omega⟩ : CDiv _ _), ?_⟩ | refine ⟨(⟨by decide, by decide, by decide⟩ : CPow _ _), ?_⟩ | refine ⟨(.inl ⟨by omega, by omega⟩ : CMul _ _), ?_⟩ | refine ⟨(.inr ⟨by omega, by omega⟩ : CMul _ _), ?_⟩ | refine Or.inl ⟨_, rfl, ?_⟩ | refine Or.inr ⟨_, rfl, ?_⟩ | refine ⟨_, _, _, _, true, rfl, .ty _, .base (.str _), kit_ty (by decide +kernel), ?_⟩ | refine ⟨_, _, rfl, ⟨by rw [sizeLine_eq]; omega, rfl⟩, ?_⟩ | refine ⟨_, _, rfl, .inl ⟨_, SqL.of (by assumption), rfl⟩, ?_⟩ | refine ⟨_, _, rfl, .inr ⟨_, SqT.of (by assumption), rfl⟩, ?_⟩))
      refine ⟨_, _, _, rfl, he, rfl, ?_⟩
      (repeat (first | refine ⟨_, rfl, ?_⟩ | refine ⟨rfl, ?_⟩ | refine ⟨_, _, rfl, rfl, ?_⟩ | refine iteT ?_ | refine iteF ?_ | refine ⟨(by show (0 : Int) < _; omega), ?_⟩ | refine ⟨(⟨by omega, by omega⟩ : CDiv _ _), ?_⟩ | refine ⟨(⟨by decide, by decide, by decide⟩ : CPow _ _), ?_⟩ | refine ⟨(.inl ⟨by omega, by omega⟩ : CMul _ _), ?_⟩ | refine ⟨(.inr ⟨by omega, by omega⟩ : CMul _ _), ?_⟩ | refine Or.inl ⟨_, rfl, ?_⟩ | refine Or.inr ⟨_, rfl, ?_⟩ | refine ⟨_, _, _, _, true, rfl, .ty _, .base (.str _), kit_ty (by decide +kernel), ?_⟩ | refine ⟨_, _, rfl, ⟨by rw [sizeLine_eq]; omega, rfl⟩, ?_⟩ | refine ⟨_, _, rfl, .inl ⟨_, SqL.of (by assumption), rfl⟩, ?_⟩ | refine ⟨_, _, rfl, .inr ⟨_, SqT.of (by assumption), rfl⟩, ?_⟩))
      refine ⟨(by show 2 ≤ sizeLine; rw [sizeLine_eq]; omega), fun p np => ?_⟩
      (repeat (first | refine ⟨_, rfl, ?_⟩ | refine ⟨rfl, ?_⟩ | refine ⟨_, _, rfl, rfl, ?_⟩ | refine iteT ?_ | refine iteF ?_ | refine ⟨(by show (0 : Int) < _; omega), ?_⟩ | refine ⟨(⟨by omega, by omega⟩ : CDiv _ _), ?_⟩ | refine ⟨(⟨by decide, by decide, by decide⟩ : CPow _ _), ?_⟩ | refine ⟨(.inl ⟨by omega, by omega⟩ : CMul _ _), ?_⟩ | refine ⟨(.inr ⟨by omega, by omega⟩ : CMul _ _), ?_⟩ | refine Or.inl ⟨_, rfl, ?_⟩ | refine Or.inr ⟨_, rfl, ?_⟩ | refine ⟨_, _, _, _, true, rfl, .ty _, .base (.str _), kit_ty (by decide +kernel), ?_⟩ | refine ⟨_, _, rfl, ⟨by rw [sizeLine_eq]; omega, rfl⟩, ?_⟩ | refine ⟨_, _, rfl, .inl ⟨_, SqL.of (by assumption), rfl⟩, ?_⟩ | refine ⟨_, _, rfl, .inr ⟨_, SqT.of (by assumption), rfl⟩, ?_⟩))
      exact k2 hn p _ (s1.free np) (Same.put s1 (s1.free np)) upd_same
theorem take_filt {α : Type} {p : α → Bool} {l : List α} {i : Nat} {r : α} (h : l[i]? = some r) : (l.take (i + 1)).filter p = (l.take i).filter p ++ if p r = true then [r] else [] := by
  rw [List.take_succ, h, List.filter_append]
  congr 1
  by_cases e : p r = true
  · simp [e]
  · simp [e]
def spDue : Sp := fun vs H Q _ => ∃ (a d : Addr) (ps : List Str) (rows : List Rw), vs = [.ref a, .ref d] ∧ Given H a d ps rows ∧ ∀ p H', H p = none → Same H H' → H' p = some (.tup (dueT (dueH ps rows))) → Q (.ref p) H'
theorem cal_law_due (T : Txt K mg A) : Cal P w K mg base 3 "_law_due" spDue [] := by
  refine cal0 T.d_law_due T.b_law_due .nil sc_law_due (fun vs H Q E h => ?_) (fun cdv B outer s H vs Q E hr h => ?_)
  · obtain ⟨a, d, ps, rows, rfl, _⟩ := h
    rfl
  · obtain ⟨a, d, ps, rows, rfl, ⟨⟨kvs, N, hd, hR⟩, ha, nk, lr, lp, lx, md⟩, k⟩ := h
    refine ⟨_, (pss_cons (ps_if (pt_cmpR op_gt (pe_callB (lenK K) (by rfl) T.z_len (by decide +kernel) (pa_cons (pv 0) pa_nil)) pe_int (nomark _)) (pss_one (ps_ret (pe_tup (pa_cons pe_str (pa_cons (pe_un un_neg pe_int) pa_nil))))) pss_nil)
 (pss_cons (ps_set (i := 2) sc_law_due.nd rfl (by first | exact Or.inl rfl | exact Or.inr rfl) (pe_c (cal_law_first_wrong T) hr (by decide) rfl (pa_cons (pv 0) pa_nil)))
 (pss_cons (ps_if (pt_cmpR op_notN (pv 2) pe_non (nomark _)) (pss_one (ps_ret (pe_tup (pa_cons pe_str (pa_cons (pv 2) pa_nil))))) pss_nil)
 (pss_cons (ps_for PassesOwn.never rfl (pi_list (pe_callB (sortedSK K) (by rfl) T.z_sorted (by decide +kernel) (pa_cons (pe_op op_cat (pv 0) (pe_lock (pe_lc (own := [("one", 4)]) (g := gName 4) rfl sc_law_due.nd (pi_keys (pv 1)) (blkOk_by (own := [("one", 4)]) (N := N_law_due) (sc := fnScope s_law_due) (by decide +kernel)) (fun _ _ _ _ _ => (pg_name (i := 4) sc_law_due.nd rfl (by first | exact Or.inl rfl | exact Or.inr rfl))) (fun _ _ _ _ _ => (pts_one (pt_cmpR (notIn_seqK K) (pv 4) (pv 0) rfl))) (fun _ _ _ _ _ => (pv 4))))) pa_nil))) (pg_name (i := 3) sc_law_due.nd rfl (by first | exact Or.inl rfl | exact Or.inr rfl)) (pss_cons (ps_if (PW.pt (pw_or (pt_cmpR (notIn_seqK K) (pv 3) (pv 0) rfl) (pw_or (pt_cmp (pc_dnotin (hu_of hr) (pv 3) (pv 1))) (pw_or1 (pt_cmpR op_gt (pe_callB (lenK K) (by rfl) T.z_len (by decide +kernel) (pa_cons (pe_dget (hu_of hr) (pv 1) (pv 3) (fun _ _ => rfl)) pa_nil)) pe_int (nomark _)))))) (pss_one (ps_ret (pe_tup (pa_cons pe_str (pa_cons (pv 3) pa_nil))))) pss_nil)
 (pss_one (ps_if (pt_cmpR op_notN (pe_c (cal_law_first_wrong T) hr (by decide) rfl (pa_cons (pe_dget (hu_of hr) (pv 1) (pv 3) (fun _ _ => rfl)) pa_nil)) pe_non (nomark _)) (pss_one (ps_ret (pe_tup (pa_cons pe_str (pa_cons (pv 3) pa_nil))))) pss_nil))))
 (pss_one (ps_ret (pe_tup (pa_cons pe_str pa_nil)))))))), ?_⟩
    (repeat (first | refine ⟨_, rfl, ?_⟩ | refine ⟨rfl, ?_⟩ | refine ⟨_, _, rfl, rfl, ?_⟩ | refine iteT ?_ | refine iteF ?_ | refine ⟨(by show (0 : Int) < _; omega), ?_⟩ | refine ⟨(⟨by omega, by omega⟩ : CDiv _ _), ?_⟩ | refine ⟨(⟨by decide, by decide, by decide⟩ : CPow _ _), ?_⟩ | refine ⟨(.inl ⟨by omega, by omega⟩ : CMul _ _), ?_⟩ | refine ⟨(.inr ⟨by omega, by omega⟩ : CMul _ _), ?_⟩ | refine Or.inl ⟨_, rfl, ?_⟩ | refine Or.inr ⟨_, rfl, ?_⟩ | refine ⟨_, _, _, _, true, rfl, .ty _, .base (.str _), kit_ty (by decide +kernel), ?_⟩ | refine ⟨_, _, rfl, ⟨by rw [sizeLine_eq]; omega, rfl⟩, ?_⟩ | refine ⟨_, _, rfl, .inl ⟨_, SqL.of (by assumption), rfl⟩, ?_⟩ | refine ⟨_, _, rfl, .inr ⟨_, SqT.of (by assumption), rfl⟩, ?_⟩))
    by_cases h24 : (24 : Int) < ((ps.map V.str).length : Int)
    · rw [decide_eq_true h24]
      rw [List.length_map] at h24
      (repeat (first | refine ⟨_, rfl, ?_⟩ | refine ⟨rfl, ?_⟩ | refine ⟨_, _, rfl, rfl, ?_⟩ | refine iteT ?_ | refine iteF ?_ | refine ⟨(by show (0 : Int) < _; omega), ?_⟩ | refine ⟨(⟨by omega, by omega⟩ : CDiv _ _), ?_⟩ | refine ⟨(⟨by decide, by decide, by decide⟩ : CPow _ _), ?_⟩ | refine ⟨(.inl ⟨by omega, by omega⟩ : CMul _ _), ?_⟩ | refine ⟨(.inr ⟨by omega, by omega⟩ : CMul _ _), ?_⟩ | refine Or.inl ⟨_, rfl, ?_⟩ | refine Or.inr ⟨_, rfl, ?_⟩ | refine ⟨_, _, _, _, true, rfl, .ty _, .base (.str _), kit_ty (by decide +kernel), ?_⟩ | refine ⟨_, _, rfl, ⟨by rw [sizeLine_eq]; omega, rfl⟩, ?_⟩ | refine ⟨_, _, rfl, .inl ⟨_, SqL.of (by assumption), rfl⟩, ?_⟩ | refine ⟨_, _, rfl, .inr ⟨_, SqT.of (by assumption), rfl⟩, ?_⟩))
      refine ⟨(by show 2 ≤ sizeLine; rw [sizeLine_eq]; omega), fun p np => ?_⟩
      (repeat (first | refine ⟨_, rfl, ?_⟩ | refine ⟨rfl, ?_⟩ | refine ⟨_, _, rfl, rfl, ?_⟩ | refine iteT ?_ | refine iteF ?_ | refine ⟨(by show (0 : Int) < _; omega), ?_⟩ | refine ⟨(⟨by omega, by omega⟩ : CDiv _ _), ?_⟩ | refine ⟨(⟨by decide, by decide, by decide⟩ : CPow _ _), ?_⟩ | refine ⟨(.inl ⟨by omega, by omega⟩ : CMul _ _), ?_⟩ | refine ⟨(.inr ⟨by omega, by omega⟩ : CMul _ _), ?_⟩ | refine Or.inl ⟨_, rfl, ?_⟩ | refine Or.inr ⟨_, rfl, ?_⟩ | refine ⟨_, _, _, _, true, rfl, .ty _, .base (.str _), kit_ty (by decide +kernel), ?_⟩ | refine ⟨_, _, rfl, ⟨by rw [sizeLine_eq]; omega, rfl⟩, ?_⟩ | refine ⟨_, _, rfl, .inl ⟨_, SqL.of (by assumption), rfl⟩, ?_⟩ | refine ⟨_, _, rfl, .inr ⟨_, SqT.of (by assumption), rfl⟩, ?_⟩))
      exact k p _ np (Same.new np) (by rw [due_things (k := -1) (by unfold peF; rw [if_neg (by omega)])]; exact upd_same)
    · rw [decide_eq_false h24]
      rw [List.length_map] at h24
      have hin : ps.length ≤ 24 := by omega
      (repeat (first | refine ⟨_, rfl, ?_⟩ | refine ⟨rfl, ?_⟩ | refine ⟨_, _, rfl, rfl, ?_⟩ | refine iteT ?_ | refine iteF ?_ | refine ⟨(by show (0 : Int) < _; omega), ?_⟩ | refine ⟨(⟨by omega, by omega⟩ : CDiv _ _), ?_⟩ | refine ⟨(⟨by decide, by decide, by decide⟩ : CPow _ _), ?_⟩ | refine ⟨(.inl ⟨by omega, by omega⟩ : CMul _ _), ?_⟩ | refine ⟨(.inr ⟨by omega, by omega⟩ : CMul _ _), ?_⟩ | refine Or.inl ⟨_, rfl, ?_⟩ | refine Or.inr ⟨_, rfl, ?_⟩ | refine ⟨_, _, _, _, true, rfl, .ty _, .base (.str _), kit_ty (by decide +kernel), ?_⟩ | refine ⟨_, _, rfl, ⟨by rw [sizeLine_eq]; omega, rfl⟩, ?_⟩ | refine ⟨_, _, rfl, .inl ⟨_, SqL.of (by assumption), rfl⟩, ?_⟩ | refine ⟨_, _, rfl, .inr ⟨_, SqT.of (by assumption), rfl⟩, ?_⟩))
      refine ⟨a, ps, rfl, ha, lp, lx, fun H1 s1 => ?_⟩
      cases hf : fwF ps with
      | some i =>
        have e : fwV ps = .int (i : Nat) := by unfold fwV; rw [hf]
        rw [e]
        (repeat (first | refine ⟨_, rfl, ?_⟩ | refine ⟨rfl, ?_⟩ | refine ⟨_, _, rfl, rfl, ?_⟩ | refine iteT ?_ | refine iteF ?_ | refine ⟨(by show (0 : Int) < _; omega), ?_⟩ | refine ⟨(⟨by omega, by omega⟩ : CDiv _ _), ?_⟩ | refine ⟨(⟨by decide, by decide, by decide⟩ : CPow _ _), ?_⟩ | refine ⟨(.inl ⟨by omega, by omega⟩ : CMul _ _), ?_⟩ | refine ⟨(.inr ⟨by omega, by omega⟩ : CMul _ _), ?_⟩ | refine Or.inl ⟨_, rfl, ?_⟩ | refine Or.inr ⟨_, rfl, ?_⟩ | refine ⟨_, _, _, _, true, rfl, .ty _, .base (.str _), kit_ty (by decide +kernel), ?_⟩ | refine ⟨_, _, rfl, ⟨by rw [sizeLine_eq]; omega, rfl⟩, ?_⟩ | refine ⟨_, _, rfl, .inl ⟨_, SqL.of (by assumption), rfl⟩, ?_⟩ | refine ⟨_, _, rfl, .inr ⟨_, SqT.of (by assumption), rfl⟩, ?_⟩))
        refine ⟨(by show 2 ≤ sizeLine; rw [sizeLine_eq]; omega), fun p np => ?_⟩
        (repeat (first | refine ⟨_, rfl, ?_⟩ | refine ⟨rfl, ?_⟩ | refine ⟨_, _, rfl, rfl, ?_⟩ | refine iteT ?_ | refine iteF ?_ | refine ⟨(by show (0 : Int) < _; omega), ?_⟩ | refine ⟨(⟨by omega, by omega⟩ : CDiv _ _), ?_⟩ | refine ⟨(⟨by decide, by decide, by decide⟩ : CPow _ _), ?_⟩ | refine ⟨(.inl ⟨by omega, by omega⟩ : CMul _ _), ?_⟩ | refine ⟨(.inr ⟨by omega, by omega⟩ : CMul _ _), ?_⟩ | refine Or.inl ⟨_, rfl, ?_⟩ | refine Or.inr ⟨_, rfl, ?_⟩ | refine ⟨_, _, _, _, true, rfl, .ty _, .base (.str _), kit_ty (by decide +kernel), ?_⟩ | refine ⟨_, _, rfl, ⟨by rw [sizeLine_eq]; omega, rfl⟩, ?_⟩ | refine ⟨_, _, rfl, .inl ⟨_, SqL.of (by assumption), rfl⟩, ?_⟩ | refine ⟨_, _, rfl, .inr ⟨_, SqT.of (by assumption), rfl⟩, ?_⟩))
        exact k p _ (s1.free np) (Same.put s1 (s1.free np)) (by rw [due_things (k := (i : Int)) (by unfold peF; rw [if_pos hin, hf]; rfl)]; exact upd_same)
      | none =>
        have e : fwV ps = .non := by unfold fwV; rw [hf]
        rw [e]
        have nd := fw_nd hf
        have p0 : peF ps = none := by unfold peF; rw [if_pos hin, hf]; rfl
        (repeat (first | refine ⟨_, rfl, ?_⟩ | refine ⟨rfl, ?_⟩ | refine ⟨_, _, rfl, rfl, ?_⟩ | refine iteT ?_ | refine iteF ?_ | refine ⟨(by show (0 : Int) < _; omega), ?_⟩ | refine ⟨(⟨by omega, by omega⟩ : CDiv _ _), ?_⟩ | refine ⟨(⟨by decide, by decide, by decide⟩ : CPow _ _), ?_⟩ | refine ⟨(.inl ⟨by omega, by omega⟩ : CMul _ _), ?_⟩ | refine ⟨(.inr ⟨by omega, by omega⟩ : CMul _ _), ?_⟩ | refine Or.inl ⟨_, rfl, ?_⟩ | refine Or.inr ⟨_, rfl, ?_⟩ | refine ⟨_, _, _, _, true, rfl, .ty _, .base (.str _), kit_ty (by decide +kernel), ?_⟩ | refine ⟨_, _, rfl, ⟨by rw [sizeLine_eq]; omega, rfl⟩, ?_⟩ | refine ⟨_, _, rfl, .inl ⟨_, SqL.of (by assumption), rfl⟩, ?_⟩ | refine ⟨_, _, rfl, .inr ⟨_, SqT.of (by assumption), rfl⟩, ?_⟩))
        have ha1 := s1 _ _ ha
        have hd1 := s1 _ _ hd
        have hR1 := hR.same s1
        have lk : kvs.length = rows.length := hR.length
        refine ⟨d, _, hd1, trivial, fun od => ?_⟩
        refine ⟨_, rfl, d, od, rfl, .inl ⟨kvs, upd_same, fun D nD => ?_⟩⟩
        refine lc_it walk_keys (fun i H' => Same (upd H1 d (.frz od (.dK kvs))) H' ∧ H' D = some (.lst ((((rows.map (·.1)).take i).filter fun x => !decide (x ∈ ps)).map V.str))) ⟨Same.new nD, upd_same⟩ (fun _ H' _ q => q.1 _ _ upd_same) ?_ ?_
        · rintro i v Hx H2 hi ⟨sL, hD⟩ ⟨rfl, kk, u, hku, rfl⟩
          have key : ∃ nm, (rows.map (·.1))[i]? = some nm ∧ kk = .inr nm := by
            have z := congrArg (·[i]?) hR.keys
            simp only [List.getElem?_map, hku, Option.map_some] at z
            rw [List.getElem?_map]
            cases e : rows[i]? with
            | none => rw [e] at z; cases z
            | some r => rw [e] at z; exact ⟨r.1, rfl, Option.some.inj z⟩
          obtain ⟨nm, hnm, rfl⟩ := key
          have hil : i < rows.length := by omega
          refine ⟨rfl, ?_⟩
          (repeat (first | refine ⟨_, rfl, ?_⟩ | refine ⟨rfl, ?_⟩ | refine ⟨_, _, rfl, rfl, ?_⟩ | refine iteT ?_ | refine iteF ?_ | refine ⟨(by show (0 : Int) < _; omega), ?_⟩ | refine ⟨(⟨by omega, by omega⟩ : CDiv _ _), ?_⟩ | refine ⟨(⟨by decide, by decide, by decide⟩ : CPow _ _), ?_⟩ | refine ⟨(.inl ⟨by omega, by omega⟩ : CMul _ _), ?_⟩ | refine ⟨(.inr ⟨by omega, by omega⟩ : CMul _ _), ?_⟩ | refine Or.inl ⟨_, rfl, ?_⟩ | refine Or.inr ⟨_, rfl, ?_⟩ | refine ⟨_, _, _, _, true, rfl, .ty _, .base (.str _), kit_ty (by decide +kernel), ?_⟩ | refine ⟨_, _, rfl, ⟨by rw [sizeLine_eq]; omega, rfl⟩, ?_⟩ | refine ⟨_, _, rfl, .inl ⟨_, SqL.of (by assumption), rfl⟩, ?_⟩ | refine ⟨_, _, rfl, .inr ⟨_, SqT.of (by assumption), rfl⟩, ?_⟩))
          refine ⟨a, _, rfl, .inl (SqL.of (sL _ _ (by rw [upd_ne (fun e => by rw [e, hd1] at ha1; cases ha1)]; exact ha1))), rfl, flat_strs _, ?_⟩
          rw [if_pos rfl, show (kV (Sum.inr nm : Key)) = V.str nm from rfl, inV_strs]
          (repeat (first | refine ⟨_, rfl, ?_⟩ | refine ⟨rfl, ?_⟩ | refine ⟨_, _, rfl, rfl, ?_⟩ | refine iteT ?_ | refine iteF ?_ | refine ⟨(by show (0 : Int) < _; omega), ?_⟩ | refine ⟨(⟨by omega, by omega⟩ : CDiv _ _), ?_⟩ | refine ⟨(⟨by decide, by decide, by decide⟩ : CPow _ _), ?_⟩ | refine ⟨(.inl ⟨by omega, by omega⟩ : CMul _ _), ?_⟩ | refine ⟨(.inr ⟨by omega, by omega⟩ : CMul _ _), ?_⟩ | refine Or.inl ⟨_, rfl, ?_⟩ | refine Or.inr ⟨_, rfl, ?_⟩ | refine ⟨_, _, _, _, true, rfl, .ty _, .base (.str _), kit_ty (by decide +kernel), ?_⟩ | refine ⟨_, _, rfl, ⟨by rw [sizeLine_eq]; omega, rfl⟩, ?_⟩ | refine ⟨_, _, rfl, .inl ⟨_, SqL.of (by assumption), rfl⟩, ?_⟩ | refine ⟨_, _, rfl, .inr ⟨_, SqT.of (by assumption), rfl⟩, ?_⟩))
          by_cases hm : nm ∈ ps
          · rw [decide_eq_true hm]
            (repeat (first | refine ⟨_, rfl, ?_⟩ | refine ⟨rfl, ?_⟩ | refine ⟨_, _, rfl, rfl, ?_⟩ | refine iteT ?_ | refine iteF ?_ | refine ⟨(by show (0 : Int) < _; omega), ?_⟩ | refine ⟨(⟨by omega, by omega⟩ : CDiv _ _), ?_⟩ | refine ⟨(⟨by decide, by decide, by decide⟩ : CPow _ _), ?_⟩ | refine ⟨(.inl ⟨by omega, by omega⟩ : CMul _ _), ?_⟩ | refine ⟨(.inr ⟨by omega, by omega⟩ : CMul _ _), ?_⟩ | refine Or.inl ⟨_, rfl, ?_⟩ | refine Or.inr ⟨_, rfl, ?_⟩ | refine ⟨_, _, _, _, true, rfl, .ty _, .base (.str _), kit_ty (by decide +kernel), ?_⟩ | refine ⟨_, _, rfl, ⟨by rw [sizeLine_eq]; omega, rfl⟩, ?_⟩ | refine ⟨_, _, rfl, .inl ⟨_, SqL.of (by assumption), rfl⟩, ?_⟩ | refine ⟨_, _, rfl, .inr ⟨_, SqT.of (by assumption), rfl⟩, ?_⟩))
            refine ⟨sL, ?_⟩
            rw [take_filt hnm, show (!decide (nm ∈ ps)) = false by simp [hm], if_neg (by decide), List.append_nil]
            exact hD
          · rw [decide_eq_false hm]
            (repeat (first | refine ⟨_, rfl, ?_⟩ | refine ⟨rfl, ?_⟩ | refine ⟨_, _, rfl, rfl, ?_⟩ | refine iteT ?_ | refine iteF ?_ | refine ⟨(by show (0 : Int) < _; omega), ?_⟩ | refine ⟨(⟨by omega, by omega⟩ : CDiv _ _), ?_⟩ | refine ⟨(⟨by decide, by decide, by decide⟩ : CPow _ _), ?_⟩ | refine ⟨(.inl ⟨by omega, by omega⟩ : CMul _ _), ?_⟩ | refine ⟨(.inr ⟨by omega, by omega⟩ : CMul _ _), ?_⟩ | refine Or.inl ⟨_, rfl, ?_⟩ | refine Or.inr ⟨_, rfl, ?_⟩ | refine ⟨_, _, _, _, true, rfl, .ty _, .base (.str _), kit_ty (by decide +kernel), ?_⟩ | refine ⟨_, _, rfl, ⟨by rw [sizeLine_eq]; omega, rfl⟩, ?_⟩ | refine ⟨_, _, rfl, .inl ⟨_, SqL.of (by assumption), rfl⟩, ?_⟩ | refine ⟨_, _, rfl, .inr ⟨_, SqT.of (by assumption), rfl⟩, ?_⟩))
            have sm : ((((rows.map (·.1)).take i).filter fun x => !decide (x ∈ ps)).map V.str).length < sizeLine := small1000 (by
              have z1 := List.length_filter_le (fun x => !decide (x ∈ ps)) ((rows.map (·.1)).take i)
              rw [List.length_take, List.length_map] at z1
              rw [List.length_map]
              omega)
            first | refine ⟨_, hD, sm, Same.put sL nD, ?_⟩ | refine ⟨_, rfl, _, hD, sm, Same.put sL nD, ?_⟩
            rw [upd_same, take_filt hnm, show (!decide (nm ∈ ps)) = true by simp [hm], if_pos rfl, List.map_append]
            rfl
        · rintro H2 ⟨sL, hD⟩
          rw [lk, List.take_of_length_le (by rw [List.length_map]; exact Nat.le_refl _)] at hD
          have dD : d ≠ D := fun e => by rw [← e, upd_same] at nD; cases nD
          have s2 := lock_same hd1 sL
          refine ⟨sL _ _ upd_same, ?_⟩
          have hD2 : upd H2 d (.dK kvs) D = some (.lst (((rows.map (·.1)).filter fun x => !decide (x ∈ ps)).map V.str)) := (upd_ne dD.symm).trans hD
          generalize hG : upd H2 d (.dK kvs) = G at *
          have s12 := s1.trans s2
          refine ⟨a, D, _, _, rfl, rfl, s12 _ _ ha, hD2, ?_, fun c nc => ?_⟩
          · have z1 := List.length_filter_le (fun x => !decide (x ∈ ps)) (rows.map (·.1))
            rw [List.length_map] at z1
            rw [List.length_map, List.length_map, sizeLine_eq]
            omega
          rw [← List.map_append]
          have s3 := Same.put (o := .lst ((ps ++ (rows.map (·.1)).filter fun x => !decide (x ∈ ps)).map V.str)) s12 (s12.free nc)
          have hc := upd_same (H := G) (a := c) (o := .lst ((ps ++ (rows.map (·.1)).filter fun x => !decide (x ∈ ps)).map V.str))
          generalize hG2 : upd G c (.lst ((ps ++ (rows.map (·.1)).filter fun x => !decide (x ∈ ps)).map V.str)) = G2 at *
          have lN : (namesH ps rows).length ≤ 60 := by
            unfold namesH
            rw [sortS_length, List.length_append]
            have := List.length_filter_le (fun k => !decide (k ∈ ps)) (rows.map (·.1))
            rw [List.length_map] at this
            omega
          (repeat (first | refine ⟨_, rfl, ?_⟩ | refine ⟨rfl, ?_⟩ | refine ⟨_, _, rfl, rfl, ?_⟩ | refine iteT ?_ | refine iteF ?_ | refine ⟨(by show (0 : Int) < _; omega), ?_⟩ | refine ⟨(⟨by omega, by omega⟩ : CDiv _ _), ?_⟩ | refine ⟨(⟨by decide, by decide, by decide⟩ : CPow _ _), ?_⟩ | refine ⟨(.inl ⟨by omega, by omega⟩ : CMul _ _), ?_⟩ | refine ⟨(.inr ⟨by omega, by omega⟩ : CMul _ _), ?_⟩ | refine Or.inl ⟨_, rfl, ?_⟩ | refine Or.inr ⟨_, rfl, ?_⟩ | refine ⟨_, _, _, _, true, rfl, .ty _, .base (.str _), kit_ty (by decide +kernel), ?_⟩ | refine ⟨_, _, rfl, ⟨by rw [sizeLine_eq]; omega, rfl⟩, ?_⟩ | refine ⟨_, _, rfl, .inl ⟨_, SqL.of (by assumption), rfl⟩, ?_⟩ | refine ⟨_, _, rfl, .inr ⟨_, SqT.of (by assumption), rfl⟩, ?_⟩))
          refine ⟨c, _, rfl, SqL.of hc, ?_, fun ys l pm so nl => ?_⟩
          · rw [List.length_append]
            have := List.length_filter_le (fun k => !decide (k ∈ ps)) (rows.map (·.1))
            rw [List.length_map] at this
            omega
          rw [sortS_eq pm so]
          have ndN : (namesH ps rows).Nodup := nodup_sortS (names_nodup nd nk)
          have s4 := Same.put (o := .lst ((namesH ps rows).map V.str)) s3 (s3.free nl)
          have hl : upd G2 l (.lst ((namesH ps rows).map V.str)) l = _ := upd_same
          (repeat (first | refine ⟨_, rfl, ?_⟩ | refine ⟨rfl, ?_⟩ | refine ⟨_, _, rfl, rfl, ?_⟩ | refine iteT ?_ | refine iteF ?_ | refine ⟨(by show (0 : Int) < _; omega), ?_⟩ | refine ⟨(⟨by omega, by omega⟩ : CDiv _ _), ?_⟩ | refine ⟨(⟨by decide, by decide, by decide⟩ : CPow _ _), ?_⟩ | refine ⟨(.inl ⟨by omega, by omega⟩ : CMul _ _), ?_⟩ | refine ⟨(.inr ⟨by omega, by omega⟩ : CMul _ _), ?_⟩ | refine Or.inl ⟨_, rfl, ?_⟩ | refine Or.inr ⟨_, rfl, ?_⟩ | refine ⟨_, _, _, _, true, rfl, .ty _, .base (.str _), kit_ty (by decide +kernel), ?_⟩ | refine ⟨_, _, rfl, ⟨by rw [sizeLine_eq]; omega, rfl⟩, ?_⟩ | refine ⟨_, _, rfl, .inl ⟨_, SqL.of (by assumption), rfl⟩, ?_⟩ | refine ⟨_, _, rfl, .inr ⟨_, SqT.of (by assumption), rfl⟩, ?_⟩))
          refine ⟨⟨_, SqL.of hl⟩, for_it walk_list (fun i σ H' => ∃ (v3 v4 : Option V), σ = [some (.ref a), some (.ref d), some .non, v3, v4] ∧ Same H H' ∧ H' l = some (.lst ((namesH ps rows).map V.str)) ∧ ∀ j, j < i → ∀ m, (namesH ps rows)[j]? = some m → badH ps rows m = false)
            ⟨_, _, rfl, s4, hl, fun j hj => absurd hj (Nat.not_lt_zero _)⟩ (fun i σ H' _ ⟨_, _, _, _, h, _⟩ => SqL.of h) ?_ ?_⟩
          · clear hG hG2 hl s4 s3 hc nl s12 hD2 s2 hD sL nD nc
            rintro i v σ Hx H1 hi ⟨v3, v4, rfl, s1, hL, hok⟩ ⟨rfl, hv⟩
            rw [List.length_map] at hi
            obtain ⟨n, hn⟩ : ∃ n, (namesH ps rows)[i]? = some n := ⟨_, List.getElem?_eq_getElem hi⟩
            have ev : v = V.str n := by
              rw [List.getElem?_map, hn] at hv
              exact (Option.some.inj hv).symm
            subst ev
            have bad : badH ps rows n = true → ∀ G, Same H1 G → ∀ p, G p = none → Q (.ref p) (upd G p (.tup [V.str "jobs", V.str n])) := fun h G sg p np =>
              k p _ ((s1.trans sg).free np) (Same.put (s1.trans sg) ((s1.trans sg).free np)) (by rw [due_jobs p0 (jo_some hn h hok)]; exact upd_same)
            (repeat (first | refine ⟨_, rfl, ?_⟩ | refine ⟨rfl, ?_⟩ | refine ⟨_, _, rfl, rfl, ?_⟩ | refine iteT ?_ | refine iteF ?_ | refine ⟨(by show (0 : Int) < _; omega), ?_⟩ | refine ⟨(⟨by omega, by omega⟩ : CDiv _ _), ?_⟩ | refine ⟨(⟨by decide, by decide, by decide⟩ : CPow _ _), ?_⟩ | refine ⟨(.inl ⟨by omega, by omega⟩ : CMul _ _), ?_⟩ | refine ⟨(.inr ⟨by omega, by omega⟩ : CMul _ _), ?_⟩ | refine Or.inl ⟨_, rfl, ?_⟩ | refine Or.inr ⟨_, rfl, ?_⟩ | refine ⟨_, _, _, _, true, rfl, .ty _, .base (.str _), kit_ty (by decide +kernel), ?_⟩ | refine ⟨_, _, rfl, ⟨by rw [sizeLine_eq]; omega, rfl⟩, ?_⟩ | refine ⟨_, _, rfl, .inl ⟨_, SqL.of (by assumption), rfl⟩, ?_⟩ | refine ⟨_, _, rfl, .inr ⟨_, SqT.of (by assumption), rfl⟩, ?_⟩))
            refine ⟨a, _, rfl, .inl (SqL.of (s1 _ _ ha)), rfl, flat_strs _, ?_⟩
            rw [if_pos rfl, inV_strs]
            by_cases hm : n ∈ ps
            · rw [decide_eq_true hm]
              (repeat (first | refine ⟨_, rfl, ?_⟩ | refine ⟨rfl, ?_⟩ | refine ⟨_, _, rfl, rfl, ?_⟩ | refine iteT ?_ | refine iteF ?_ | refine ⟨(by show (0 : Int) < _; omega), ?_⟩ | refine ⟨(⟨by omega, by omega⟩ : CDiv _ _), ?_⟩ | refine ⟨(⟨by decide, by decide, by decide⟩ : CPow _ _), ?_⟩ | refine ⟨(.inl ⟨by omega, by omega⟩ : CMul _ _), ?_⟩ | refine ⟨(.inr ⟨by omega, by omega⟩ : CMul _ _), ?_⟩ | refine Or.inl ⟨_, rfl, ?_⟩ | refine Or.inr ⟨_, rfl, ?_⟩ | refine ⟨_, _, _, _, true, rfl, .ty _, .base (.str _), kit_ty (by decide +kernel), ?_⟩ | refine ⟨_, _, rfl, ⟨by rw [sizeLine_eq]; omega, rfl⟩, ?_⟩ | refine ⟨_, _, rfl, .inl ⟨_, SqL.of (by assumption), rfl⟩, ?_⟩ | refine ⟨_, _, rfl, .inr ⟨_, SqT.of (by assumption), rfl⟩, ?_⟩))
              have g := hR.get n
              cases lk1 : rows.lookup n with
              | none =>
                rw [lk1] at g
                refine ⟨d, none, rfl, .inl ⟨kvs, .inr n, .inl (s1 _ _ hd), rfl, g.symm⟩, ?_⟩
                (repeat (first | refine ⟨_, rfl, ?_⟩ | refine ⟨rfl, ?_⟩ | refine ⟨_, _, rfl, rfl, ?_⟩ | refine iteT ?_ | refine iteF ?_ | refine ⟨(by show (0 : Int) < _; omega), ?_⟩ | refine ⟨(⟨by omega, by omega⟩ : CDiv _ _), ?_⟩ | refine ⟨(⟨by decide, by decide, by decide⟩ : CPow _ _), ?_⟩ | refine ⟨(.inl ⟨by omega, by omega⟩ : CMul _ _), ?_⟩ | refine ⟨(.inr ⟨by omega, by omega⟩ : CMul _ _), ?_⟩ | refine Or.inl ⟨_, rfl, ?_⟩ | refine Or.inr ⟨_, rfl, ?_⟩ | refine ⟨_, _, _, _, true, rfl, .ty _, .base (.str _), kit_ty (by decide +kernel), ?_⟩ | refine ⟨_, _, rfl, ⟨by rw [sizeLine_eq]; omega, rfl⟩, ?_⟩ | refine ⟨_, _, rfl, .inl ⟨_, SqL.of (by assumption), rfl⟩, ?_⟩ | refine ⟨_, _, rfl, .inr ⟨_, SqT.of (by assumption), rfl⟩, ?_⟩))
                refine ⟨(by show 2 ≤ sizeLine; rw [sizeLine_eq]; omega), fun p np => ?_⟩
                (repeat (first | refine ⟨_, rfl, ?_⟩ | refine ⟨rfl, ?_⟩ | refine ⟨_, _, rfl, rfl, ?_⟩ | refine iteT ?_ | refine iteF ?_ | refine ⟨(by show (0 : Int) < _; omega), ?_⟩ | refine ⟨(⟨by omega, by omega⟩ : CDiv _ _), ?_⟩ | refine ⟨(⟨by decide, by decide, by decide⟩ : CPow _ _), ?_⟩ | refine ⟨(.inl ⟨by omega, by omega⟩ : CMul _ _), ?_⟩ | refine ⟨(.inr ⟨by omega, by omega⟩ : CMul _ _), ?_⟩ | refine Or.inl ⟨_, rfl, ?_⟩ | refine Or.inr ⟨_, rfl, ?_⟩ | refine ⟨_, _, _, _, true, rfl, .ty _, .base (.str _), kit_ty (by decide +kernel), ?_⟩ | refine ⟨_, _, rfl, ⟨by rw [sizeLine_eq]; omega, rfl⟩, ?_⟩ | refine ⟨_, _, rfl, .inl ⟨_, SqL.of (by assumption), rfl⟩, ?_⟩ | refine ⟨_, _, rfl, .inr ⟨_, SqT.of (by assumption), rfl⟩, ?_⟩))
                exact bad (by unfold badH; rw [lk1]; simp) H1 (Same.refl _) p np
              | some ws =>
                rw [lk1] at g
                obtain ⟨rl, g1, g2, g3⟩ := g
                obtain ⟨lw, lx2⟩ := md _ (mem_of_look lk1)
                have get1 : ∀ {G : Hp}, Same H G → DGet G d (.str n) (some (.ref rl)) := fun {G} sg => .inl ⟨kvs, .inr n, .inl (sg _ _ hd), rfl, g1.symm⟩
                refine ⟨d, some (.ref rl), rfl, get1 s1, ?_⟩
                (repeat (first | refine ⟨_, rfl, ?_⟩ | refine ⟨rfl, ?_⟩ | refine ⟨_, _, rfl, rfl, ?_⟩ | refine iteT ?_ | refine iteF ?_ | refine ⟨(by show (0 : Int) < _; omega), ?_⟩ | refine ⟨(⟨by omega, by omega⟩ : CDiv _ _), ?_⟩ | refine ⟨(⟨by decide, by decide, by decide⟩ : CPow _ _), ?_⟩ | refine ⟨(.inl ⟨by omega, by omega⟩ : CMul _ _), ?_⟩ | refine ⟨(.inr ⟨by omega, by omega⟩ : CMul _ _), ?_⟩ | refine Or.inl ⟨_, rfl, ?_⟩ | refine Or.inr ⟨_, rfl, ?_⟩ | refine ⟨_, _, _, _, true, rfl, .ty _, .base (.str _), kit_ty (by decide +kernel), ?_⟩ | refine ⟨_, _, rfl, ⟨by rw [sizeLine_eq]; omega, rfl⟩, ?_⟩ | refine ⟨_, _, rfl, .inl ⟨_, SqL.of (by assumption), rfl⟩, ?_⟩ | refine ⟨_, _, rfl, .inr ⟨_, SqT.of (by assumption), rfl⟩, ?_⟩))
                refine ⟨d, .ref rl, rfl, get1 s1, ?_⟩
                (repeat (first | refine ⟨_, rfl, ?_⟩ | refine ⟨rfl, ?_⟩ | refine ⟨_, _, rfl, rfl, ?_⟩ | refine iteT ?_ | refine iteF ?_ | refine ⟨(by show (0 : Int) < _; omega), ?_⟩ | refine ⟨(⟨by omega, by omega⟩ : CDiv _ _), ?_⟩ | refine ⟨(⟨by decide, by decide, by decide⟩ : CPow _ _), ?_⟩ | refine ⟨(.inl ⟨by omega, by omega⟩ : CMul _ _), ?_⟩ | refine ⟨(.inr ⟨by omega, by omega⟩ : CMul _ _), ?_⟩ | refine Or.inl ⟨_, rfl, ?_⟩ | refine Or.inr ⟨_, rfl, ?_⟩ | refine ⟨_, _, _, _, true, rfl, .ty _, .base (.str _), kit_ty (by decide +kernel), ?_⟩ | refine ⟨_, _, rfl, ⟨by rw [sizeLine_eq]; omega, rfl⟩, ?_⟩ | refine ⟨_, _, rfl, .inl ⟨_, SqL.of (by assumption), rfl⟩, ?_⟩ | refine ⟨_, _, rfl, .inr ⟨_, SqT.of (by assumption), rfl⟩, ?_⟩))
                refine ⟨_, _, rfl, .inl ⟨_, SqL.of (s1 _ _ g3), rfl⟩, ?_⟩
                (repeat (first | refine ⟨_, rfl, ?_⟩ | refine ⟨rfl, ?_⟩ | refine ⟨_, _, rfl, rfl, ?_⟩ | refine iteT ?_ | refine iteF ?_ | refine ⟨(by show (0 : Int) < _; omega), ?_⟩ | refine ⟨(⟨by omega, by omega⟩ : CDiv _ _), ?_⟩ | refine ⟨(⟨by decide, by decide, by decide⟩ : CPow _ _), ?_⟩ | refine ⟨(.inl ⟨by omega, by omega⟩ : CMul _ _), ?_⟩ | refine ⟨(.inr ⟨by omega, by omega⟩ : CMul _ _), ?_⟩ | refine Or.inl ⟨_, rfl, ?_⟩ | refine Or.inr ⟨_, rfl, ?_⟩ | refine ⟨_, _, _, _, true, rfl, .ty _, .base (.str _), kit_ty (by decide +kernel), ?_⟩ | refine ⟨_, _, rfl, ⟨by rw [sizeLine_eq]; omega, rfl⟩, ?_⟩ | refine ⟨_, _, rfl, .inl ⟨_, SqL.of (by assumption), rfl⟩, ?_⟩ | refine ⟨_, _, rfl, .inr ⟨_, SqT.of (by assumption), rfl⟩, ?_⟩))
                by_cases c24 : (24 : Int) < ((ws.map V.str).length : Int)
                · rw [decide_eq_true c24]
                  rw [List.length_map] at c24
                  (repeat (first | refine ⟨_, rfl, ?_⟩ | refine ⟨rfl, ?_⟩ | refine ⟨_, _, rfl, rfl, ?_⟩ | refine iteT ?_ | refine iteF ?_ | refine ⟨(by show (0 : Int) < _; omega), ?_⟩ | refine ⟨(⟨by omega, by omega⟩ : CDiv _ _), ?_⟩ | refine ⟨(⟨by decide, by decide, by decide⟩ : CPow _ _), ?_⟩ | refine ⟨(.inl ⟨by omega, by omega⟩ : CMul _ _), ?_⟩ | refine ⟨(.inr ⟨by omega, by omega⟩ : CMul _ _), ?_⟩ | refine Or.inl ⟨_, rfl, ?_⟩ | refine Or.inr ⟨_, rfl, ?_⟩ | refine ⟨_, _, _, _, true, rfl, .ty _, .base (.str _), kit_ty (by decide +kernel), ?_⟩ | refine ⟨_, _, rfl, ⟨by rw [sizeLine_eq]; omega, rfl⟩, ?_⟩ | refine ⟨_, _, rfl, .inl ⟨_, SqL.of (by assumption), rfl⟩, ?_⟩ | refine ⟨_, _, rfl, .inr ⟨_, SqT.of (by assumption), rfl⟩, ?_⟩))
                  refine ⟨(by show 2 ≤ sizeLine; rw [sizeLine_eq]; omega), fun p np => ?_⟩
                  (repeat (first | refine ⟨_, rfl, ?_⟩ | refine ⟨rfl, ?_⟩ | refine ⟨_, _, rfl, rfl, ?_⟩ | refine iteT ?_ | refine iteF ?_ | refine ⟨(by show (0 : Int) < _; omega), ?_⟩ | refine ⟨(⟨by omega, by omega⟩ : CDiv _ _), ?_⟩ | refine ⟨(⟨by decide, by decide, by decide⟩ : CPow _ _), ?_⟩ | refine ⟨(.inl ⟨by omega, by omega⟩ : CMul _ _), ?_⟩ | refine ⟨(.inr ⟨by omega, by omega⟩ : CMul _ _), ?_⟩ | refine Or.inl ⟨_, rfl, ?_⟩ | refine Or.inr ⟨_, rfl, ?_⟩ | refine ⟨_, _, _, _, true, rfl, .ty _, .base (.str _), kit_ty (by decide +kernel), ?_⟩ | refine ⟨_, _, rfl, ⟨by rw [sizeLine_eq]; omega, rfl⟩, ?_⟩ | refine ⟨_, _, rfl, .inl ⟨_, SqL.of (by assumption), rfl⟩, ?_⟩ | refine ⟨_, _, rfl, .inr ⟨_, SqT.of (by assumption), rfl⟩, ?_⟩))
                  exact bad (by unfold badH; rw [lk1]; simp [show 24 < ws.length by omega]) H1 (Same.refl _) p np
                · rw [decide_eq_false c24]
                  rw [List.length_map] at c24
                  (repeat (first | refine ⟨_, rfl, ?_⟩ | refine ⟨rfl, ?_⟩ | refine ⟨_, _, rfl, rfl, ?_⟩ | refine iteT ?_ | refine iteF ?_ | refine ⟨(by show (0 : Int) < _; omega), ?_⟩ | refine ⟨(⟨by omega, by omega⟩ : CDiv _ _), ?_⟩ | refine ⟨(⟨by decide, by decide, by decide⟩ : CPow _ _), ?_⟩ | refine ⟨(.inl ⟨by omega, by omega⟩ : CMul _ _), ?_⟩ | refine ⟨(.inr ⟨by omega, by omega⟩ : CMul _ _), ?_⟩ | refine Or.inl ⟨_, rfl, ?_⟩ | refine Or.inr ⟨_, rfl, ?_⟩ | refine ⟨_, _, _, _, true, rfl, .ty _, .base (.str _), kit_ty (by decide +kernel), ?_⟩ | refine ⟨_, _, rfl, ⟨by rw [sizeLine_eq]; omega, rfl⟩, ?_⟩ | refine ⟨_, _, rfl, .inl ⟨_, SqL.of (by assumption), rfl⟩, ?_⟩ | refine ⟨_, _, rfl, .inr ⟨_, SqT.of (by assumption), rfl⟩, ?_⟩))
                  refine ⟨d, .ref rl, rfl, get1 s1, ?_⟩
                  (repeat (first | refine ⟨_, rfl, ?_⟩ | refine ⟨rfl, ?_⟩ | refine ⟨_, _, rfl, rfl, ?_⟩ | refine iteT ?_ | refine iteF ?_ | refine ⟨(by show (0 : Int) < _; omega), ?_⟩ | refine ⟨(⟨by omega, by omega⟩ : CDiv _ _), ?_⟩ | refine ⟨(⟨by decide, by decide, by decide⟩ : CPow _ _), ?_⟩ | refine ⟨(.inl ⟨by omega, by omega⟩ : CMul _ _), ?_⟩ | refine ⟨(.inr ⟨by omega, by omega⟩ : CMul _ _), ?_⟩ | refine Or.inl ⟨_, rfl, ?_⟩ | refine Or.inr ⟨_, rfl, ?_⟩ | refine ⟨_, _, _, _, true, rfl, .ty _, .base (.str _), kit_ty (by decide +kernel), ?_⟩ | refine ⟨_, _, rfl, ⟨by rw [sizeLine_eq]; omega, rfl⟩, ?_⟩ | refine ⟨_, _, rfl, .inl ⟨_, SqL.of (by assumption), rfl⟩, ?_⟩ | refine ⟨_, _, rfl, .inr ⟨_, SqT.of (by assumption), rfl⟩, ?_⟩))
                  refine ⟨rl, ws, rfl, s1 _ _ g3, lw, lx2, fun H3 s3 => ?_⟩
                  cases hf2 : fwF ws with
                  | some k2 =>
                    have e : fwV ws = .int (k2 : Nat) := by unfold fwV; rw [hf2]
                    rw [e]
                    (repeat (first | refine ⟨_, rfl, ?_⟩ | refine ⟨rfl, ?_⟩ | refine ⟨_, _, rfl, rfl, ?_⟩ | refine iteT ?_ | refine iteF ?_ | refine ⟨(by show (0 : Int) < _; omega), ?_⟩ | refine ⟨(⟨by omega, by omega⟩ : CDiv _ _), ?_⟩ | refine ⟨(⟨by decide, by decide, by decide⟩ : CPow _ _), ?_⟩ | refine ⟨(.inl ⟨by omega, by omega⟩ : CMul _ _), ?_⟩ | refine ⟨(.inr ⟨by omega, by omega⟩ : CMul _ _), ?_⟩ | refine Or.inl ⟨_, rfl, ?_⟩ | refine Or.inr ⟨_, rfl, ?_⟩ | refine ⟨_, _, _, _, true, rfl, .ty _, .base (.str _), kit_ty (by decide +kernel), ?_⟩ | refine ⟨_, _, rfl, ⟨by rw [sizeLine_eq]; omega, rfl⟩, ?_⟩ | refine ⟨_, _, rfl, .inl ⟨_, SqL.of (by assumption), rfl⟩, ?_⟩ | refine ⟨_, _, rfl, .inr ⟨_, SqT.of (by assumption), rfl⟩, ?_⟩))
                    refine ⟨(by show 2 ≤ sizeLine; rw [sizeLine_eq]; omega), fun p np => ?_⟩
                    (repeat (first | refine ⟨_, rfl, ?_⟩ | refine ⟨rfl, ?_⟩ | refine ⟨_, _, rfl, rfl, ?_⟩ | refine iteT ?_ | refine iteF ?_ | refine ⟨(by show (0 : Int) < _; omega), ?_⟩ | refine ⟨(⟨by omega, by omega⟩ : CDiv _ _), ?_⟩ | refine ⟨(⟨by decide, by decide, by decide⟩ : CPow _ _), ?_⟩ | refine ⟨(.inl ⟨by omega, by omega⟩ : CMul _ _), ?_⟩ | refine ⟨(.inr ⟨by omega, by omega⟩ : CMul _ _), ?_⟩ | refine Or.inl ⟨_, rfl, ?_⟩ | refine Or.inr ⟨_, rfl, ?_⟩ | refine ⟨_, _, _, _, true, rfl, .ty _, .base (.str _), kit_ty (by decide +kernel), ?_⟩ | refine ⟨_, _, rfl, ⟨by rw [sizeLine_eq]; omega, rfl⟩, ?_⟩ | refine ⟨_, _, rfl, .inl ⟨_, SqL.of (by assumption), rfl⟩, ?_⟩ | refine ⟨_, _, rfl, .inr ⟨_, SqT.of (by assumption), rfl⟩, ?_⟩))
                    exact bad (by unfold badH; rw [lk1]; simp [hf2]) H3 s3 p np
                  | none =>
                    have e : fwV ws = .non := by unfold fwV; rw [hf2]
                    rw [e]
                    have good : badH ps rows n = false := by
                      unfold badH
                      rw [lk1]
                      simp [hm, hf2]
                      omega
                    (repeat (first | refine ⟨_, rfl, ?_⟩ | refine ⟨rfl, ?_⟩ | refine ⟨_, _, rfl, rfl, ?_⟩ | refine iteT ?_ | refine iteF ?_ | refine ⟨(by show (0 : Int) < _; omega), ?_⟩ | refine ⟨(⟨by omega, by omega⟩ : CDiv _ _), ?_⟩ | refine ⟨(⟨by decide, by decide, by decide⟩ : CPow _ _), ?_⟩ | refine ⟨(.inl ⟨by omega, by omega⟩ : CMul _ _), ?_⟩ | refine ⟨(.inr ⟨by omega, by omega⟩ : CMul _ _), ?_⟩ | refine Or.inl ⟨_, rfl, ?_⟩ | refine Or.inr ⟨_, rfl, ?_⟩ | refine ⟨_, _, _, _, true, rfl, .ty _, .base (.str _), kit_ty (by decide +kernel), ?_⟩ | refine ⟨_, _, rfl, ⟨by rw [sizeLine_eq]; omega, rfl⟩, ?_⟩ | refine ⟨_, _, rfl, .inl ⟨_, SqL.of (by assumption), rfl⟩, ?_⟩ | refine ⟨_, _, rfl, .inr ⟨_, SqT.of (by assumption), rfl⟩, ?_⟩))
                    refine ⟨_, _, rfl, s1.trans s3, s3 _ _ hL, fun j hj m hm2 => ?_⟩
                    by_cases e : j = i
                    · subst e
                      rw [hn] at hm2
                      cases hm2
                      exact good
                    · exact hok j (by omega) m hm2
            · rw [decide_eq_false hm]
              (repeat (first | refine ⟨_, rfl, ?_⟩ | refine ⟨rfl, ?_⟩ | refine ⟨_, _, rfl, rfl, ?_⟩ | refine iteT ?_ | refine iteF ?_ | refine ⟨(by show (0 : Int) < _; omega), ?_⟩ | refine ⟨(⟨by omega, by omega⟩ : CDiv _ _), ?_⟩ | refine ⟨(⟨by decide, by decide, by decide⟩ : CPow _ _), ?_⟩ | refine ⟨(.inl ⟨by omega, by omega⟩ : CMul _ _), ?_⟩ | refine ⟨(.inr ⟨by omega, by omega⟩ : CMul _ _), ?_⟩ | refine Or.inl ⟨_, rfl, ?_⟩ | refine Or.inr ⟨_, rfl, ?_⟩ | refine ⟨_, _, _, _, true, rfl, .ty _, .base (.str _), kit_ty (by decide +kernel), ?_⟩ | refine ⟨_, _, rfl, ⟨by rw [sizeLine_eq]; omega, rfl⟩, ?_⟩ | refine ⟨_, _, rfl, .inl ⟨_, SqL.of (by assumption), rfl⟩, ?_⟩ | refine ⟨_, _, rfl, .inr ⟨_, SqT.of (by assumption), rfl⟩, ?_⟩))
              refine ⟨(by show 2 ≤ sizeLine; rw [sizeLine_eq]; omega), fun p np => ?_⟩
              (repeat (first | refine ⟨_, rfl, ?_⟩ | refine ⟨rfl, ?_⟩ | refine ⟨_, _, rfl, rfl, ?_⟩ | refine iteT ?_ | refine iteF ?_ | refine ⟨(by show (0 : Int) < _; omega), ?_⟩ | refine ⟨(⟨by omega, by omega⟩ : CDiv _ _), ?_⟩ | refine ⟨(⟨by decide, by decide, by decide⟩ : CPow _ _), ?_⟩ | refine ⟨(.inl ⟨by omega, by omega⟩ : CMul _ _), ?_⟩ | refine ⟨(.inr ⟨by omega, by omega⟩ : CMul _ _), ?_⟩ | refine Or.inl ⟨_, rfl, ?_⟩ | refine Or.inr ⟨_, rfl, ?_⟩ | refine ⟨_, _, _, _, true, rfl, .ty _, .base (.str _), kit_ty (by decide +kernel), ?_⟩ | refine ⟨_, _, rfl, ⟨by rw [sizeLine_eq]; omega, rfl⟩, ?_⟩ | refine ⟨_, _, rfl, .inl ⟨_, SqL.of (by assumption), rfl⟩, ?_⟩ | refine ⟨_, _, rfl, .inr ⟨_, SqT.of (by assumption), rfl⟩, ?_⟩))
              exact bad (by unfold badH; simp [hm]) H1 (Same.refl _) p np
          · rintro σ H1 ⟨v3, v4, rfl, s1, hL, hok⟩
            have none_ : joF ps rows = none := jo_none fun m hm => by
              obtain ⟨j, hj⟩ := List.mem_iff_getElem?.mp hm
              have := List.getElem?_eq_some_iff.mp hj
              exact hok j (by first | exact this.1 | (rw [List.length_map]; exact this.1)) m hj
            (repeat (first | refine ⟨_, rfl, ?_⟩ | refine ⟨rfl, ?_⟩ | refine ⟨_, _, rfl, rfl, ?_⟩ | refine iteT ?_ | refine iteF ?_ | refine ⟨(by show (0 : Int) < _; omega), ?_⟩ | refine ⟨(⟨by omega, by omega⟩ : CDiv _ _), ?_⟩ | refine ⟨(⟨by decide, by decide, by decide⟩ : CPow _ _), ?_⟩ | refine ⟨(.inl ⟨by omega, by omega⟩ : CMul _ _), ?_⟩ | refine ⟨(.inr ⟨by omega, by omega⟩ : CMul _ _), ?_⟩ | refine Or.inl ⟨_, rfl, ?_⟩ | refine Or.inr ⟨_, rfl, ?_⟩ | refine ⟨_, _, _, _, true, rfl, .ty _, .base (.str _), kit_ty (by decide +kernel), ?_⟩ | refine ⟨_, _, rfl, ⟨by rw [sizeLine_eq]; omega, rfl⟩, ?_⟩ | refine ⟨_, _, rfl, .inl ⟨_, SqL.of (by assumption), rfl⟩, ?_⟩ | refine ⟨_, _, rfl, .inr ⟨_, SqT.of (by assumption), rfl⟩, ?_⟩))
            refine ⟨(by show 1 ≤ sizeLine; rw [sizeLine_eq]; omega), fun p np => ?_⟩
            (repeat (first | refine ⟨_, rfl, ?_⟩ | refine ⟨rfl, ?_⟩ | refine ⟨_, _, rfl, rfl, ?_⟩ | refine iteT ?_ | refine iteF ?_ | refine ⟨(by show (0 : Int) < _; omega), ?_⟩ | refine ⟨(⟨by omega, by omega⟩ : CDiv _ _), ?_⟩ | refine ⟨(⟨by decide, by decide, by decide⟩ : CPow _ _), ?_⟩ | refine ⟨(.inl ⟨by omega, by omega⟩ : CMul _ _), ?_⟩ | refine ⟨(.inr ⟨by omega, by omega⟩ : CMul _ _), ?_⟩ | refine Or.inl ⟨_, rfl, ?_⟩ | refine Or.inr ⟨_, rfl, ?_⟩ | refine ⟨_, _, _, _, true, rfl, .ty _, .base (.str _), kit_ty (by decide +kernel), ?_⟩ | refine ⟨_, _, rfl, ⟨by rw [sizeLine_eq]; omega, rfl⟩, ?_⟩ | refine ⟨_, _, rfl, .inl ⟨_, SqL.of (by assumption), rfl⟩, ?_⟩ | refine ⟨_, _, rfl, .inr ⟨_, SqT.of (by assumption), rfl⟩, ?_⟩))
            exact k p _ (s1.free np) (Same.put s1 (s1.free np)) (by rw [due_made p0 none_]; exact upd_same)
end
end BF25
set_option Elab.async false
set_option linter.all false
set_option maxRecDepth 100000
set_option maxHeartbeats 4000000
namespace BF25
open BF
open PySem PySem.Spec PyProof.Rows L2
open C8 (Cal CalAt Met Mak cal0 met0 mak0 fn0 pe_c pe_mk pe_mt pe_mt0 pe_gc fnScope fnBody fnArgs fnScope_by)
open SX
section
variable {P : Program} {w : World} {K : PySem.W.Frag} {mg : Str → Option Value} {base : Heap} {A : Ad}
theorem strs_sub {ys : List V} {ks : List Str} (h : ys.Sublist (ks.map V.str)) : ∃ zs : List Str, zs.Sublist ks ∧ ys = zs.map V.str := by
  obtain ⟨zs, h1, h2⟩ := List.sublist_map_iff.mp h
  exact ⟨zs, h1, h2⟩
/-- what is drawn: people with their lists -/
structure Drawn (ps : List Str) (rows : List Rw) : Prop where
  len : ps.length ≤ 24
  nd : ps.Nodup
  nm : ∀ x ∈ ps, isNm x = true
  keys : rows.map (·.1) = ps
  row : ∀ r ∈ rows, r.2.length ≤ 24 ∧ r.2.Nodup ∧ ∀ x ∈ r.2, isNm x = true
def spPeople (K : PySem.W.Frag) : Sp := fun vs H Q _ => ∃ (s p : Addr) (ns : List Int), vs = [.ref s, .ref p, .int 24, .int 10] ∧ Scr K H s p ns ∧ ns.length ≤ 63 ∧ PoolAt H p ∧
  ∀ t a d kvs ps rows H', H a = none → H d = none → KpP p H H' → H' t = some (.tup [.ref a, .ref d]) → H' a = some (.lst (ps.map V.str)) → H' d = some (.dK kvs) → RowsN (fun l => H l = none) H' kvs rows → Drawn ps rows → Q (.ref t) H'
theorem cal_law_people (T : Txt K mg A) : Cal P w K mg base 4 "_law_people" (spPeople K) [] := by
  refine cal0 T.d_law_people T.b_law_people .nil sc_law_people (fun vs H Q E h => ?_) (fun cdv B outer s H vs Q E hr h => ?_)
  · obtain ⟨s, p, ns, rfl, _⟩ := h
    rfl
  · obtain ⟨sc, wl, ns, rfl, hs, hn, hw, k⟩ := h
    refine ⟨_, (pss_cons (ps_set (i := 4) sc_law_people.nd rfl (by first | exact Or.inl rfl | exact Or.inr rfl) (pe_c (cal_law_names T) hr (by decide) rfl (pa_cons (pv 0) (pa_cons (pv 1) (pa_cons (pe_c (cal_law_take T) hr (by decide) rfl (pa_cons (pv 0) (pa_cons (pv 1) (pa_cons (pe_op op_add (pv 2) pe_int) pa_nil)))) pa_nil)))))
 (pss_cons (ps_set (i := 5) sc_law_people.nd rfl (by first | exact Or.inl rfl | exact Or.inr rfl) (pe_c (cal_law_names T) hr (by decide) rfl (pa_cons (pv 0) (pa_cons (pv 1) (pa_cons (pe_op op_add pe_int (pe_c (cal_law_take T) hr (by decide) rfl (pa_cons (pv 0) (pa_cons (pv 1) (pa_cons (pv 3) pa_nil))))) pa_nil)))))
 (pss_cons (ps_set (i := 6) sc_law_people.nd rfl (by first | exact Or.inl rfl | exact Or.inr rfl) pe_dnewK)
 (pss_cons (ps_set (i := 7) sc_law_people.nd rfl (by first | exact Or.inl rfl | exact Or.inr rfl) (pe_c (cal_law_take T) hr (by decide) rfl (pa_cons (pv 0) (pa_cons (pv 1) (pa_cons pe_int pa_nil)))))
 (pss_cons (ps_for PassesOwn.never rfl (pi_list (pv 4)) (pg_name (i := 8) sc_law_people.nd rfl (by first | exact Or.inl rfl | exact Or.inr rfl)) (pss_cons (ps_set (i := 9) sc_law_people.nd rfl (by first | exact Or.inl rfl | exact Or.inr rfl) (pe_c (cal_law_shuffled T) hr (by decide) rfl (pa_cons (pv 0) (pa_cons (pv 1) (pa_cons (pe_c (cal_law_some T) hr (by decide) rfl (pa_cons (pv 0) (pa_cons (pv 1) (pa_cons (pv 5) pa_nil)))) pa_nil)))))
 (pss_cons (ps_if (pt_cmpR op_gt (pv 7) pe_int (nomark _)) (pss_one (ps_set (i := 9) sc_law_people.nd rfl (by first | exact Or.inl rfl | exact Or.inr rfl) (pe_slice (slLK K) (pv 9) po_none (po_some (pe_op op_add pe_int (pv 7)))))) pss_nil)
 (pss_one (ps_dput (hu_of hr) (pv 6) (pv 8) (pv 9) rfl)))))
 (pss_one (ps_ret (pe_tup (pa_cons (pv 4) (pa_cons (pv 6) pa_nil)))))))))), ?_⟩
    (repeat (first | refine ⟨_, rfl, ?_⟩ | refine ⟨rfl, ?_⟩ | refine ⟨_, _, rfl, rfl, ?_⟩ | refine iteT ?_ | refine iteF ?_ | refine ⟨(by show (0 : Int) < _; omega), ?_⟩ | refine ⟨(⟨by omega, by omega⟩ : CDiv _ _), ?_⟩ | refine ⟨(⟨by decide, by decide, by decide⟩ : CPow _ _), ?_⟩ | refine ⟨(.inl ⟨by omega, by omega⟩ : CMul _ _), ?_⟩ | refine ⟨(.inr ⟨by omega, by omega⟩ : CMul _ _), ?_⟩ | refine Or.inl ⟨_, rfl, ?_⟩ | refine Or.inr ⟨_, rfl, ?_⟩ | refine ⟨_, _, _, _, true, rfl, .ty _, .base (.str _), kit_ty (by decide +kernel), ?_⟩ | refine ⟨_, _, rfl, ⟨by rw [sizeLine_eq]; omega, rfl⟩, ?_⟩ | refine ⟨_, _, rfl, .inl ⟨_, SqL.of (by assumption), rfl⟩, ?_⟩ | refine ⟨_, _, rfl, .inr ⟨_, SqT.of (by assumption), rfl⟩, ?_⟩))
    refine ⟨sc, wl, 25, ns, rfl, hs, hw, by omega, by omega, hn, fun n1 H1 a1 b1 k1 => ?_⟩
    (repeat (first | refine ⟨_, rfl, ?_⟩ | refine ⟨rfl, ?_⟩ | refine ⟨_, _, rfl, rfl, ?_⟩ | refine iteT ?_ | refine iteF ?_ | refine ⟨(by show (0 : Int) < _; omega), ?_⟩ | refine ⟨(⟨by omega, by omega⟩ : CDiv _ _), ?_⟩ | refine ⟨(⟨by decide, by decide, by decide⟩ : CPow _ _), ?_⟩ | refine ⟨(.inl ⟨by omega, by omega⟩ : CMul _ _), ?_⟩ | refine ⟨(.inr ⟨by omega, by omega⟩ : CMul _ _), ?_⟩ | refine Or.inl ⟨_, rfl, ?_⟩ | refine Or.inr ⟨_, rfl, ?_⟩ | refine ⟨_, _, _, _, true, rfl, .ty _, .base (.str _), kit_ty (by decide +kernel), ?_⟩ | refine ⟨_, _, rfl, ⟨by rw [sizeLine_eq]; omega, rfl⟩, ?_⟩ | refine ⟨_, _, rfl, .inl ⟨_, SqL.of (by assumption), rfl⟩, ?_⟩ | refine ⟨_, _, rfl, .inr ⟨_, SqT.of (by assumption), rfl⟩, ?_⟩))
    refine ⟨sc, wl, n1, ns, rfl, (hs.kp k1), hn, k1.pool hw, a1, by omega, fun a ps H2 na k2 ha lps nm nd => ?_⟩
    have k02 := k1.trans k2
    have na0 : H a = none := k1.free hw na
    refine g_name ?_
    try dsimp only
    refine seq_asg ?_
    (repeat (first | refine ⟨_, rfl, ?_⟩ | refine ⟨rfl, ?_⟩ | refine ⟨_, _, rfl, rfl, ?_⟩ | refine iteT ?_ | refine iteF ?_ | refine ⟨(by show (0 : Int) < _; omega), ?_⟩ | refine ⟨(⟨by omega, by omega⟩ : CDiv _ _), ?_⟩ | refine ⟨(⟨by decide, by decide, by decide⟩ : CPow _ _), ?_⟩ | refine ⟨(.inl ⟨by omega, by omega⟩ : CMul _ _), ?_⟩ | refine ⟨(.inr ⟨by omega, by omega⟩ : CMul _ _), ?_⟩ | refine Or.inl ⟨_, rfl, ?_⟩ | refine Or.inr ⟨_, rfl, ?_⟩ | refine ⟨_, _, _, _, true, rfl, .ty _, .base (.str _), kit_ty (by decide +kernel), ?_⟩ | refine ⟨_, _, rfl, ⟨by rw [sizeLine_eq]; omega, rfl⟩, ?_⟩ | refine ⟨_, _, rfl, .inl ⟨_, SqL.of (by assumption), rfl⟩, ?_⟩ | refine ⟨_, _, rfl, .inr ⟨_, SqT.of (by assumption), rfl⟩, ?_⟩))
    refine ⟨sc, wl, 10, ns, rfl, (hs.kp k02), k02.pool hw, by omega, by omega, hn, fun n2 H3 a2 b2 k3 => ?_⟩
    have k03 := k02.trans k3
    have aw : a ≠ wl := hw.ne na0
    (repeat (first | refine ⟨_, rfl, ?_⟩ | refine ⟨rfl, ?_⟩ | refine ⟨_, _, rfl, rfl, ?_⟩ | refine iteT ?_ | refine iteF ?_ | refine ⟨(by show (0 : Int) < _; omega), ?_⟩ | refine ⟨(⟨by omega, by omega⟩ : CDiv _ _), ?_⟩ | refine ⟨(⟨by decide, by decide, by decide⟩ : CPow _ _), ?_⟩ | refine ⟨(.inl ⟨by omega, by omega⟩ : CMul _ _), ?_⟩ | refine ⟨(.inr ⟨by omega, by omega⟩ : CMul _ _), ?_⟩ | refine Or.inl ⟨_, rfl, ?_⟩ | refine Or.inr ⟨_, rfl, ?_⟩ | refine ⟨_, _, _, _, true, rfl, .ty _, .base (.str _), kit_ty (by decide +kernel), ?_⟩ | refine ⟨_, _, rfl, ⟨by rw [sizeLine_eq]; omega, rfl⟩, ?_⟩ | refine ⟨_, _, rfl, .inl ⟨_, SqL.of (by assumption), rfl⟩, ?_⟩ | refine ⟨_, _, rfl, .inr ⟨_, SqT.of (by assumption), rfl⟩, ?_⟩))
    refine ⟨sc, wl, 1 + n2, ns, rfl, (hs.kp k03), hn, k03.pool hw, by omega, by omega, fun c ks H4 nc k4 hc lks nmk ndk => ?_⟩
    have k04 := k03.trans k4
    have nc0 : H c = none := k03.free hw nc
    have cw : c ≠ wl := hw.ne nc0
    have ha4 : H4 a = some (.lst (ps.map V.str)) := k4.keep _ _ aw (k3.keep _ _ aw ha)
    refine g_name ?_
    try dsimp only
    refine seq_asg ?_
    refine fun d nd4 => ?_
    have nd0 : H d = none := k04.free hw nd4
    have dw : d ≠ wl := hw.ne nd0
    have k05 : KpP wl H (upd H4 d (.dK [])) := k04.put hw nd0
    have ad : a ≠ d := ne_of_none ha4 nd4
    have cd : c ≠ d := ne_of_none hc nd4
    have ha5 : upd H4 d (.dK []) a = some (.lst (ps.map V.str)) := (upd_ne ad).trans ha4
    have hc5 : upd H4 d (.dK []) c = some (.lst (ks.map V.str)) := (upd_ne cd).trans hc
    have hd5 := upd_same (H := H4) (a := d) (o := .dK [])
    generalize hG : upd H4 d (.dK []) = G at *
    refine g_name ?_
    try dsimp only
    refine seq_asg ?_
    (repeat (first | refine ⟨_, rfl, ?_⟩ | refine ⟨rfl, ?_⟩ | refine ⟨_, _, rfl, rfl, ?_⟩ | refine iteT ?_ | refine iteF ?_ | refine ⟨(by show (0 : Int) < _; omega), ?_⟩ | refine ⟨(⟨by omega, by omega⟩ : CDiv _ _), ?_⟩ | refine ⟨(⟨by decide, by decide, by decide⟩ : CPow _ _), ?_⟩ | refine ⟨(.inl ⟨by omega, by omega⟩ : CMul _ _), ?_⟩ | refine ⟨(.inr ⟨by omega, by omega⟩ : CMul _ _), ?_⟩ | refine Or.inl ⟨_, rfl, ?_⟩ | refine Or.inr ⟨_, rfl, ?_⟩ | refine ⟨_, _, _, _, true, rfl, .ty _, .base (.str _), kit_ty (by decide +kernel), ?_⟩ | refine ⟨_, _, rfl, ⟨by rw [sizeLine_eq]; omega, rfl⟩, ?_⟩ | refine ⟨_, _, rfl, .inl ⟨_, SqL.of (by assumption), rfl⟩, ?_⟩ | refine ⟨_, _, rfl, .inr ⟨_, SqT.of (by assumption), rfl⟩, ?_⟩))
    refine ⟨sc, wl, 3, ns, rfl, (hs.kp k05), k05.pool hw, by omega, by omega, hn, fun ln H6 a3 b3 k6 => ?_⟩
    refine g_name ?_
    try dsimp only
    obtain ⟨m, rfl⟩ : ∃ m : Nat, ln = m := ⟨ln.toNat, by omega⟩
    (repeat (first | refine ⟨_, rfl, ?_⟩ | refine ⟨rfl, ?_⟩ | refine ⟨_, _, rfl, rfl, ?_⟩ | refine iteT ?_ | refine iteF ?_ | refine ⟨(by show (0 : Int) < _; omega), ?_⟩ | refine ⟨(⟨by omega, by omega⟩ : CDiv _ _), ?_⟩ | refine ⟨(⟨by decide, by decide, by decide⟩ : CPow _ _), ?_⟩ | refine ⟨(.inl ⟨by omega, by omega⟩ : CMul _ _), ?_⟩ | refine ⟨(.inr ⟨by omega, by omega⟩ : CMul _ _), ?_⟩ | refine Or.inl ⟨_, rfl, ?_⟩ | refine Or.inr ⟨_, rfl, ?_⟩ | refine ⟨_, _, _, _, true, rfl, .ty _, .base (.str _), kit_ty (by decide +kernel), ?_⟩ | refine ⟨_, _, rfl, ⟨by rw [sizeLine_eq]; omega, rfl⟩, ?_⟩ | refine ⟨_, _, rfl, .inl ⟨_, SqL.of (by assumption), rfl⟩, ?_⟩ | refine ⟨_, _, rfl, .inr ⟨_, SqT.of (by assumption), rfl⟩, ?_⟩))
    have aw6 := k6.keep _ _ aw ha5
    refine ⟨⟨_, SqL.of aw6⟩, for_it walk_list (fun i σ H' => ∃ (kvs : List (Key × V)) (rows : List Rw) (v8 v9 : Option V), σ = [some (.ref sc), some (.ref wl), some (.int 24), some (.int 10), some (.ref a), some (.ref c), some (.ref d), some (.int m), v8, v9] ∧ KpP wl H H' ∧
        H' a = some (.lst (ps.map V.str)) ∧ H' c = some (.lst (ks.map V.str)) ∧ H' d = some (.dK kvs) ∧ RowsN (fun l => H l = none) H' kvs rows ∧ rows.map (·.1) = ps.take i ∧ ∀ r ∈ rows, r.2.length ≤ 24 ∧ r.2.Nodup ∧ ∀ x ∈ r.2, isNm x = true)
      ⟨[], [], _, _, rfl, k05.trans k6, aw6, k6.keep _ _ cw hc5, k6.keep _ _ dw hd5, .nil, rfl, fun r hr => by cases hr⟩ (fun i σ H' _ ⟨_, _, _, _, _, _, h, _⟩ => SqL.of h) ?_ ?_⟩
    · clear hG hd5 hc5 ha5 aw6 k6 k05 nd4 hc nc k04 k4 k03 k3 k02 k2 k1 ha ha4 na
      rintro i v σ Hx H1 hi ⟨kvs, rows, v8, v9, rfl, kp, hA, hC, hD, hR, ky, ok⟩ ⟨rfl, hv⟩
      rw [List.length_map] at hi
      obtain ⟨x, hx⟩ : ∃ n, ps[i]? = some n := ⟨_, List.getElem?_eq_getElem hi⟩
      have ev : v = V.str x := by
        rw [List.getElem?_map, hx] at hv
        exact (Option.some.inj hv).symm
      subst ev
      have lk : kvs.length ≤ 24 := by
        have z := congrArg List.length ky
        rw [List.length_map, List.length_take] at z
        rw [hR.length]
        omega
      have nd := nd (by omega)
      have ndk := ndk (by omega)
      (repeat (first | refine ⟨_, rfl, ?_⟩ | refine ⟨rfl, ?_⟩ | refine ⟨_, _, rfl, rfl, ?_⟩ | refine iteT ?_ | refine iteF ?_ | refine ⟨(by show (0 : Int) < _; omega), ?_⟩ | refine ⟨(⟨by omega, by omega⟩ : CDiv _ _), ?_⟩ | refine ⟨(⟨by decide, by decide, by decide⟩ : CPow _ _), ?_⟩ | refine ⟨(.inl ⟨by omega, by omega⟩ : CMul _ _), ?_⟩ | refine ⟨(.inr ⟨by omega, by omega⟩ : CMul _ _), ?_⟩ | refine Or.inl ⟨_, rfl, ?_⟩ | refine Or.inr ⟨_, rfl, ?_⟩ | refine ⟨_, _, _, _, true, rfl, .ty _, .base (.str _), kit_ty (by decide +kernel), ?_⟩ | refine ⟨_, _, rfl, ⟨by rw [sizeLine_eq]; omega, rfl⟩, ?_⟩ | refine ⟨_, _, rfl, .inl ⟨_, SqL.of (by assumption), rfl⟩, ?_⟩ | refine ⟨_, _, rfl, .inr ⟨_, SqT.of (by assumption), rfl⟩, ?_⟩))
      refine ⟨sc, wl, c, ns, _, rfl, (hs.kp kp), hn, kp.pool hw, hC, cw, by rw [List.length_map]; omega, fun l ys H2 nl k2 hl sub => ?_⟩
      obtain ⟨zs, hz, rfl⟩ := strs_sub sub
      have kp2 := kp.trans k2
      have nl0 := kp.free hw nl
      have lw : l ≠ wl := hw.ne nl0
      have lz : zs.length ≤ 10 := by
        have := hz.length_le
        omega
      (repeat (first | refine ⟨_, rfl, ?_⟩ | refine ⟨rfl, ?_⟩ | refine ⟨_, _, rfl, rfl, ?_⟩ | refine iteT ?_ | refine iteF ?_ | refine ⟨(by show (0 : Int) < _; omega), ?_⟩ | refine ⟨(⟨by omega, by omega⟩ : CDiv _ _), ?_⟩ | refine ⟨(⟨by decide, by decide, by decide⟩ : CPow _ _), ?_⟩ | refine ⟨(.inl ⟨by omega, by omega⟩ : CMul _ _), ?_⟩ | refine ⟨(.inr ⟨by omega, by omega⟩ : CMul _ _), ?_⟩ | refine Or.inl ⟨_, rfl, ?_⟩ | refine Or.inr ⟨_, rfl, ?_⟩ | refine ⟨_, _, _, _, true, rfl, .ty _, .base (.str _), kit_ty (by decide +kernel), ?_⟩ | refine ⟨_, _, rfl, ⟨by rw [sizeLine_eq]; omega, rfl⟩, ?_⟩ | refine ⟨_, _, rfl, .inl ⟨_, SqL.of (by assumption), rfl⟩, ?_⟩ | refine ⟨_, _, rfl, .inr ⟨_, SqT.of (by assumption), rfl⟩, ?_⟩))
      refine ⟨sc, wl, l, ns, _, rfl, (hs.kp kp2), hn, kp2.pool hw, hl, lw, by rw [List.length_map]; omega, fun q us H3 nq k3 hq pm => ?_⟩
      obtain ⟨ws, rfl, pw⟩ := perm_strs pm
      have kp3 := kp2.trans k3
      have nq0 := kp2.free hw nq
      have okw : ws.length ≤ 24 ∧ ws.Nodup ∧ ∀ x ∈ ws, isNm x = true := ⟨by rw [pw.length_eq]; omega, pw.nodup_iff.mpr (hz.nodup ndk), fun x hx => nmk x (hz.subset (pw.mem_iff.mp hx))⟩
      have hA3 := k3.keep _ _ aw (k2.keep _ _ aw hA)
      have hC3 := k3.keep _ _ cw (k2.keep _ _ cw hC)
      have hD3 := k3.keep _ _ dw (k2.keep _ _ dw hD)
      have hR3 : RowsN (fun l => H l = none) H3 kvs rows := hR.mv fun l xs nl e => ⟨nl, k3.keep _ _ (hw.ne nl) (k2.keep _ _ (hw.ne nl) e)⟩
      refine g_name ?_
      try dsimp only
      (repeat (first | refine ⟨_, rfl, ?_⟩ | refine ⟨rfl, ?_⟩ | refine ⟨_, _, rfl, rfl, ?_⟩ | refine iteT ?_ | refine iteF ?_ | refine ⟨(by show (0 : Int) < _; omega), ?_⟩ | refine ⟨(⟨by omega, by omega⟩ : CDiv _ _), ?_⟩ | refine ⟨(⟨by decide, by decide, by decide⟩ : CPow _ _), ?_⟩ | refine ⟨(.inl ⟨by omega, by omega⟩ : CMul _ _), ?_⟩ | refine ⟨(.inr ⟨by omega, by omega⟩ : CMul _ _), ?_⟩ | refine Or.inl ⟨_, rfl, ?_⟩ | refine Or.inr ⟨_, rfl, ?_⟩ | refine ⟨_, _, _, _, true, rfl, .ty _, .base (.str _), kit_ty (by decide +kernel), ?_⟩ | refine ⟨_, _, rfl, ⟨by rw [sizeLine_eq]; omega, rfl⟩, ?_⟩ | refine ⟨_, _, rfl, .inl ⟨_, SqL.of (by assumption), rfl⟩, ?_⟩ | refine ⟨_, _, rfl, .inr ⟨_, SqT.of (by assumption), rfl⟩, ?_⟩))
      refine ite2 (fun c0 => ?_) (fun c0 => ?_)
      · (repeat (first | refine ⟨_, rfl, ?_⟩ | refine ⟨rfl, ?_⟩ | refine ⟨_, _, rfl, rfl, ?_⟩ | refine iteT ?_ | refine iteF ?_ | refine ⟨(by show (0 : Int) < _; omega), ?_⟩ | refine ⟨(⟨by omega, by omega⟩ : CDiv _ _), ?_⟩ | refine ⟨(⟨by decide, by decide, by decide⟩ : CPow _ _), ?_⟩ | refine ⟨(.inl ⟨by omega, by omega⟩ : CMul _ _), ?_⟩ | refine ⟨(.inr ⟨by omega, by omega⟩ : CMul _ _), ?_⟩ | refine Or.inl ⟨_, rfl, ?_⟩ | refine Or.inr ⟨_, rfl, ?_⟩ | refine ⟨_, _, _, _, true, rfl, .ty _, .base (.str _), kit_ty (by decide +kernel), ?_⟩ | refine ⟨_, _, rfl, ⟨by rw [sizeLine_eq]; omega, rfl⟩, ?_⟩ | refine ⟨_, _, rfl, .inl ⟨_, SqL.of (by assumption), rfl⟩, ?_⟩ | refine ⟨_, _, rfl, .inr ⟨_, SqT.of (by assumption), rfl⟩, ?_⟩))
        refine ⟨q, _, rfl, SqL.of hq, fun sl nsl => ?_⟩
        rw [show (1 + (m : Int)) = ((1 + m : Nat) : Int) by omega, cut_to, ← List.map_take]
        have nsl0 := kp3.free hw nsl
        have HZ_ := upd H3 sl (.lst ((ws.take (1 + m)).map V.str))
        have s4 : Same H3 (upd H3 sl (.lst ((ws.take (1 + m)).map V.str))) := Same.new nsl
        obtain ⟨wz, ewz⟩ : ∃ wz, wz = ws.take (1 + m) := ⟨_, rfl⟩
        rw [← ewz] at s4 ⊢
        have okz : wz.length ≤ 24 ∧ wz.Nodup ∧ ∀ x ∈ wz, isNm x = true := by
          rw [ewz]
          exact ⟨by rw [List.length_take]; omega, (List.take_sublist _ _).nodup okw.2.1, fun x hx => okw.2.2 x (List.mem_of_mem_take hx)⟩
        have hqz := upd_same (H := H3) (a := sl) (o := .lst (wz.map V.str))
        have kZ := kp3.put (o := .lst (wz.map V.str)) hw nsl0
        obtain ⟨qz, eqz⟩ : ∃ qz, qz = sl := ⟨_, rfl⟩
        have nqz : H sl = none := nsl0
        generalize hHZ : upd H3 sl (.lst (wz.map V.str)) = HZ at *
        have haZ := s4 _ _ hA3
        have hcZ := s4 _ _ hC3
        have hdZ := s4 _ _ hD3
        have hRZ := hR3.same s4
        subst eqz
        (repeat (first | refine ⟨_, rfl, ?_⟩ | refine ⟨rfl, ?_⟩ | refine ⟨_, _, rfl, rfl, ?_⟩ | refine iteT ?_ | refine iteF ?_ | refine ⟨(by show (0 : Int) < _; omega), ?_⟩ | refine ⟨(⟨by omega, by omega⟩ : CDiv _ _), ?_⟩ | refine ⟨(⟨by decide, by decide, by decide⟩ : CPow _ _), ?_⟩ | refine ⟨(.inl ⟨by omega, by omega⟩ : CMul _ _), ?_⟩ | refine ⟨(.inr ⟨by omega, by omega⟩ : CMul _ _), ?_⟩ | refine Or.inl ⟨_, rfl, ?_⟩ | refine Or.inr ⟨_, rfl, ?_⟩ | refine ⟨_, _, _, _, true, rfl, .ty _, .base (.str _), kit_ty (by decide +kernel), ?_⟩ | refine ⟨_, _, rfl, ⟨by rw [sizeLine_eq]; omega, rfl⟩, ?_⟩ | refine ⟨_, _, rfl, .inl ⟨_, SqL.of (by assumption), rfl⟩, ?_⟩ | refine ⟨_, _, rfl, .inr ⟨_, SqT.of (by assumption), rfl⟩, ?_⟩))
        refine ⟨d, _, rfl, .inl ⟨kvs, .inr x, hdZ, rfl, small1000 (by omega), rfl⟩, ?_⟩
        have fresh : x ∉ rows.map (·.1) := by
          rw [ky]
          exact not_before nd hx
        have e2 : putR rows x wz = rows ++ [(x, wz)] := by unfold putR; rw [if_neg fresh]
        have P2 := (hRZ.put (n := x) (ws := wz) (l := qz) nqz hqz)
        rw [e2] at P2
        have qd : ∀ l xs, H l = none → HZ l = some (.lst xs) → upd HZ d (.dK (putK kvs (.inr x) (.ref qz))) l = some (.lst xs) := fun l xs _ e => by
          rw [upd_ne (fun z => by rw [z, hdZ] at e; cases e)]
          exact e
        refine ⟨_, rows ++ [(x, wz)], _, _, rfl, kZ.put hw nd0, (upd_ne ad).trans haZ, (upd_ne cd).trans hcZ, upd_same, P2.mv fun l xs nl e => ⟨nl, qd l xs nl e⟩, by rw [List.map_append, ky, List.take_succ, hx]; rfl, fun r hr => ?_⟩
        rcases List.mem_append.mp hr with hr | hr
        · exact ok r hr
        · rw [List.mem_singleton.mp hr]
          exact okz
      · obtain ⟨wz, rfl⟩ : ∃ wz, wz = ws := ⟨_, rfl⟩
        obtain ⟨qz, rfl⟩ : ∃ qz, qz = q := ⟨_, rfl⟩
        obtain ⟨HZ, rfl⟩ : ∃ G, G = H3 := ⟨_, rfl⟩
        have okz := okw
        have hqz := hq
        have kZ := kp3
        have nqz := nq0
        have haZ := hA3
        have hcZ := hC3
        have hdZ := hD3
        have hRZ := hR3
        (repeat (first | refine ⟨_, rfl, ?_⟩ | refine ⟨rfl, ?_⟩ | refine ⟨_, _, rfl, rfl, ?_⟩ | refine iteT ?_ | refine iteF ?_ | refine ⟨(by show (0 : Int) < _; omega), ?_⟩ | refine ⟨(⟨by omega, by omega⟩ : CDiv _ _), ?_⟩ | refine ⟨(⟨by decide, by decide, by decide⟩ : CPow _ _), ?_⟩ | refine ⟨(.inl ⟨by omega, by omega⟩ : CMul _ _), ?_⟩ | refine ⟨(.inr ⟨by omega, by omega⟩ : CMul _ _), ?_⟩ | refine Or.inl ⟨_, rfl, ?_⟩ | refine Or.inr ⟨_, rfl, ?_⟩ | refine ⟨_, _, _, _, true, rfl, .ty _, .base (.str _), kit_ty (by decide +kernel), ?_⟩ | refine ⟨_, _, rfl, ⟨by rw [sizeLine_eq]; omega, rfl⟩, ?_⟩ | refine ⟨_, _, rfl, .inl ⟨_, SqL.of (by assumption), rfl⟩, ?_⟩ | refine ⟨_, _, rfl, .inr ⟨_, SqT.of (by assumption), rfl⟩, ?_⟩))
        refine ⟨d, _, rfl, .inl ⟨kvs, .inr x, hdZ, rfl, small1000 (by omega), rfl⟩, ?_⟩
        have fresh : x ∉ rows.map (·.1) := by
          rw [ky]
          exact not_before nd hx
        have e2 : putR rows x wz = rows ++ [(x, wz)] := by unfold putR; rw [if_neg fresh]
        have P2 := (hRZ.put (n := x) (ws := wz) (l := qz) nqz hqz)
        rw [e2] at P2
        have qd : ∀ l xs, H l = none → HZ l = some (.lst xs) → upd HZ d (.dK (putK kvs (.inr x) (.ref qz))) l = some (.lst xs) := fun l xs _ e => by
          rw [upd_ne (fun z => by rw [z, hdZ] at e; cases e)]
          exact e
        refine ⟨_, rows ++ [(x, wz)], _, _, rfl, kZ.put hw nd0, (upd_ne ad).trans haZ, (upd_ne cd).trans hcZ, upd_same, P2.mv fun l xs nl e => ⟨nl, qd l xs nl e⟩, by rw [List.map_append, ky, List.take_succ, hx]; rfl, fun r hr => ?_⟩
        rcases List.mem_append.mp hr with hr | hr
        · exact ok r hr
        · rw [List.mem_singleton.mp hr]
          exact okz
    · rintro σ H1 ⟨kvs, rows, v8, v9, rfl, kp, hA, hC, hD, hR, ky, ok⟩
      (repeat (first | refine ⟨_, rfl, ?_⟩ | refine ⟨rfl, ?_⟩ | refine ⟨_, _, rfl, rfl, ?_⟩ | refine iteT ?_ | refine iteF ?_ | refine ⟨(by show (0 : Int) < _; omega), ?_⟩ | refine ⟨(⟨by omega, by omega⟩ : CDiv _ _), ?_⟩ | refine ⟨(⟨by decide, by decide, by decide⟩ : CPow _ _), ?_⟩ | refine ⟨(.inl ⟨by omega, by omega⟩ : CMul _ _), ?_⟩ | refine ⟨(.inr ⟨by omega, by omega⟩ : CMul _ _), ?_⟩ | refine Or.inl ⟨_, rfl, ?_⟩ | refine Or.inr ⟨_, rfl, ?_⟩ | refine ⟨_, _, _, _, true, rfl, .ty _, .base (.str _), kit_ty (by decide +kernel), ?_⟩ | refine ⟨_, _, rfl, ⟨by rw [sizeLine_eq]; omega, rfl⟩, ?_⟩ | refine ⟨_, _, rfl, .inl ⟨_, SqL.of (by assumption), rfl⟩, ?_⟩ | refine ⟨_, _, rfl, .inr ⟨_, SqT.of (by assumption), rfl⟩, ?_⟩))
      refine ⟨(by show 2 ≤ sizeLine; rw [sizeLine_eq]; omega), fun t nt => ?_⟩
      (repeat (first | refine ⟨_, rfl, ?_⟩ | refine ⟨rfl, ?_⟩ | refine ⟨_, _, rfl, rfl, ?_⟩ | refine iteT ?_ | refine iteF ?_ | refine ⟨(by show (0 : Int) < _; omega), ?_⟩ | refine ⟨(⟨by omega, by omega⟩ : CDiv _ _), ?_⟩ | refine ⟨(⟨by decide, by decide, by decide⟩ : CPow _ _), ?_⟩ | refine ⟨(.inl ⟨by omega, by omega⟩ : CMul _ _), ?_⟩ | refine ⟨(.inr ⟨by omega, by omega⟩ : CMul _ _), ?_⟩ | refine Or.inl ⟨_, rfl, ?_⟩ | refine Or.inr ⟨_, rfl, ?_⟩ | refine ⟨_, _, _, _, true, rfl, .ty _, .base (.str _), kit_ty (by decide +kernel), ?_⟩ | refine ⟨_, _, rfl, ⟨by rw [sizeLine_eq]; omega, rfl⟩, ?_⟩ | refine ⟨_, _, rfl, .inl ⟨_, SqL.of (by assumption), rfl⟩, ?_⟩ | refine ⟨_, _, rfl, .inr ⟨_, SqT.of (by assumption), rfl⟩, ?_⟩))
      rw [List.length_map, List.take_of_length_le (Nat.le_refl _)] at ky
      have s5 : Same H1 (upd H1 t (.tup [.ref a, .ref d])) := Same.new nt
      exact k t a d kvs ps rows _ na0 nd0 (kp.trans (KpP.same s5)) upd_same (s5 _ _ hA) (s5 _ _ hD) (hR.same s5) ⟨by omega, nd (by omega), nm, ky, ok⟩
end
end BF25
set_option Elab.async false
set_option linter.all false
set_option maxRecDepth 100000
set_option maxHeartbeats 4000000
namespace BF25
open BF
open PySem PySem.Spec PyProof.Rows L2
open C8 (Cal CalAt Met Mak cal0 met0 mak0 fn0 pe_c pe_mk pe_mt pe_mt0 pe_gc fnScope fnBody fnArgs fnScope_by)
open SX
section
variable {P : Program} {w : World} {K : PySem.W.Frag} {mg : Str → Option Value} {base : Heap} {A : Ad}
def spSpoiled (K : PySem.W.Frag) : Sp := fun vs H Q _ => ∃ (s p a d : Addr) (ns : List Int) (j : Nat) (ps : List Str) (rows : List Rw), vs = [.ref s, .ref p, .ref a, .ref d] ∧ ns.length ≤ 63 ∧ j ≤ 1 ∧ St K H s p a d ns ps rows j ∧
  ∀ t b qs us H', H' t = some (.tup [.ref b, .ref d]) → St K H' s p b d ns qs us (j + 1) → Q (.ref t) H'
theorem cal_law_spoiled (T : Txt K mg A) : Cal P w K mg base 3 "_law_spoiled" (spSpoiled K) [] := by
  refine cal0 T.d_law_spoiled T.b_law_spoiled .nil sc_law_spoiled (fun vs H Q E h => ?_) (fun cdv B outer s H vs Q E hr h => ?_)
  · obtain ⟨s, p, a, d, ns, j, ps, rows, rfl, _⟩ := h
    rfl
  · obtain ⟨sc, wl, a, d, ns, j, ps, rows, rfl, hn, hj, h0, k⟩ := h
    refine ⟨_, (pss_cons (ps_set (i := 4) sc_law_spoiled.nd rfl (by first | exact Or.inl rfl | exact Or.inr rfl) (pe_ix (ixLK K) (pe_lst (pa_cons pe_str (pa_cons pe_str (pa_cons pe_str (pa_cons pe_str (pa_cons pe_str (pa_cons pe_str pa_nil))))))) (pe_c (cal_law_take T) hr (by decide) rfl (pa_cons (pv 0) (pa_cons (pv 1) (pa_cons pe_int pa_nil)))) (fun _ _ => rfl)))
 (pss_cons (ps_set (i := 5) sc_law_spoiled.nd rfl (by first | exact Or.inl rfl | exact Or.inr rfl) (pe_c (cal_law_take T) hr (by decide) rfl (pa_cons (pv 0) (pa_cons (pv 1) (pa_cons pe_int pa_nil)))))
 (pss_cons (ps_set (i := 6) sc_law_spoiled.nd rfl (by first | exact Or.inl rfl | exact Or.inr rfl) (pe_c (cal_law_take T) hr (by decide) rfl (pa_cons (pv 0) (pa_cons (pv 1) (pa_cons (pe_op op_add (pe_callB (lenK K) (by rfl) T.z_len (by decide +kernel) (pa_cons (pv 2) pa_nil)) pe_int) pa_nil)))))
 (pss_cons (ps_if (pt_cmpR op_eq (pv 5) pe_int (nomark _)) (pss_one (ps_set (i := 2) sc_law_spoiled.nd rfl (by first | exact Or.inl rfl | exact Or.inr rfl) (pe_op op_cat (pe_op op_cat (pe_slice (slLK K) (pv 2) po_none (po_some (pv 6))) (pe_lst (pa_cons (pv 4) pa_nil))) (pe_slice (slLK K) (pv 2) (po_some (pv 6)) po_none)))) pss_nil)
 (pss_cons (ps_if (PW.pt (pw_and (pt_cmpR op_eq (pv 5) pe_int (nomark _)) (pw_and1 (pt_cmpR (neDK K hr) (pv 2) (pe_lst pa_nil) (nomark _))))) (pss_one (ps_set (i := 2) sc_law_spoiled.nd rfl (by first | exact Or.inl rfl | exact Or.inr rfl) (pe_op op_cat (pe_op op_cat (pe_slice (slLK K) (pv 2) po_none (po_some (pv 6))) (pe_lst (pa_cons (pe_ix (ixLK K) (pv 2) (pe_c (cal_law_take T) hr (by decide) rfl (pa_cons (pv 0) (pa_cons (pv 1) (pa_cons (pe_callB (lenK K) (by rfl) T.z_len (by decide +kernel) (pa_cons (pv 2) pa_nil)) pa_nil)))) (fun _ _ => rfl)) pa_nil))) (pe_slice (slLK K) (pv 2) (po_some (pv 6)) po_none)))) pss_nil)
 (pss_cons (ps_if (pt_cmpR op_eq (pv 5) pe_int (nomark _)) (pss_one (ps_set (i := 2) sc_law_spoiled.nd rfl (by first | exact Or.inl rfl | exact Or.inr rfl) (pe_op op_cat (pv 2) (pe_c (cal_law_names T) hr (by decide) rfl (pa_cons (pv 0) (pa_cons (pv 1) (pa_cons pe_int pa_nil))))))) pss_nil)
 (pss_cons (ps_if (PW.pt (pw_and (pt_cmpR op_eq (pv 5) pe_int (nomark _)) (pw_and1 (pt_cmpR (neDK K hr) (pv 2) (pe_lst pa_nil) (nomark _))))) (pss_one (ps_expr (pe_dpop2 (pv 3) (pe_ix (ixLK K) (pv 2) (pe_c (cal_law_take T) hr (by decide) rfl (pa_cons (pv 0) (pa_cons (pv 1) (pa_cons (pe_callB (lenK K) (by rfl) T.z_len (by decide +kernel) (pa_cons (pv 2) pa_nil)) pa_nil)))) (fun _ _ => rfl)) pe_non (by exact ⟨rfl, rfl, rfl, rfl⟩)))) pss_nil)
 (pss_cons (ps_if (pt_cmpR op_eq (pv 5) pe_int (nomark _)) (pss_one (ps_dput (hu_of hr) (pv 3) (pe_ix (ixLK K) (pe_lst (pa_cons pe_str (pa_cons (pv 4) pa_nil))) (pe_c (cal_law_take T) hr (by decide) rfl (pa_cons (pv 0) (pa_cons (pv 1) (pa_cons pe_int pa_nil)))) (fun _ _ => rfl)) (pe_lst pa_nil) rfl)) pss_nil)
 (pss_cons (ps_if (PW.pt (pw_and (pt_cmpR op_gt (pv 5) pe_int (nomark _)) (pw_and1 (pt_cmpR (neDK K hr) (pv 2) (pe_lst pa_nil) (nomark _))))) (pss_cons (ps_set (i := 7) sc_law_spoiled.nd rfl (by first | exact Or.inl rfl | exact Or.inr rfl) (pe_ix (ixLK K) (pv 2) (pe_c (cal_law_take T) hr (by decide) rfl (pa_cons (pv 0) (pa_cons (pv 1) (pa_cons (pe_callB (lenK K) (by rfl) T.z_len (by decide +kernel) (pa_cons (pv 2) pa_nil)) pa_nil)))) (fun _ _ => rfl)))
 (pss_one (ps_if (pt_cmp (pc_din (hu_of hr) (pv 7) (pv 3))) (pss_cons (ps_set (i := 8) sc_law_spoiled.nd rfl (by first | exact Or.inl rfl | exact Or.inr rfl) (pe_dget (hu_of hr) (pv 3) (pv 7) (fun _ _ => rfl)))
 (pss_cons (ps_set (i := 9) sc_law_spoiled.nd rfl (by first | exact Or.inl rfl | exact Or.inr rfl) (pe_lst (pa_cons (pv 4) pa_nil)))
 (pss_cons (ps_if (PW.pt (pw_and (pt_cmpR op_eq (pv 5) pe_int (nomark _)) (pw_and1 (pt_cmpR (neDK K hr) (pv 8) (pe_lst pa_nil) (nomark _))))) (pss_one (ps_set (i := 9) sc_law_spoiled.nd rfl (by first | exact Or.inl rfl | exact Or.inr rfl) (pe_lst (pa_cons (pe_ix (ixLK K) (pv 8) pe_int (fun _ _ => rfl)) pa_nil)))) pss_nil)
 (pss_cons (ps_if (pt_cmpR op_eq (pv 5) pe_int (nomark _)) (pss_one (ps_setLc (i := 9) (own := [("letter", 10)]) (g := gName 10) (by rfl) sc_law_spoiled.nd rfl rfl (sw_true rfl rfl rfl (by decide +kernel)) (pi_str pe_str) (blkOk_by (own := [("letter", 10)]) (N := N_law_spoiled) (sc := fnScope s_law_spoiled) (by decide +kernel)) (fun _ _ _ _ _ => (pg_name (i := 10) sc_law_spoiled.nd rfl (by first | exact Or.inl rfl | exact Or.inr rfl))) (fun _ _ _ _ _ => pts_nil) (fun _ _ _ _ _ => (pe_op op_add_str (pv 10) pe_str)))) pss_nil)
 (pss_one (ps_dput (hu_of hr) (pv 3) (pv 7) (pe_op op_cat (pv 8) (pv 9)) rfl)))))) pss_nil))) pss_nil)
 (pss_one (ps_ret (pe_tup (pa_cons (pv 2) (pa_cons (pv 3) pa_nil)))))))))))))), ?_⟩
    (repeat (first | refine ⟨_, rfl, ?_⟩ | refine ⟨rfl, ?_⟩ | refine ⟨_, _, rfl, rfl, ?_⟩ | refine iteT ?_ | refine iteF ?_ | refine ⟨(by show (0 : Int) < _; omega), ?_⟩ | refine ⟨(⟨by omega, by omega⟩ : CDiv _ _), ?_⟩ | refine ⟨(⟨by decide, by decide, by decide⟩ : CPow _ _), ?_⟩ | refine ⟨(.inl ⟨by omega, by omega⟩ : CMul _ _), ?_⟩ | refine ⟨(.inr ⟨by omega, by omega⟩ : CMul _ _), ?_⟩ | refine Or.inl ⟨_, rfl, ?_⟩ | refine Or.inr ⟨_, rfl, ?_⟩ | refine ⟨_, _, _, _, true, rfl, .ty _, .base (.str _), kit_ty (by decide +kernel), ?_⟩ | refine ⟨_, _, rfl, ⟨by rw [sizeLine_eq]; omega, rfl⟩, ?_⟩ | refine ⟨_, _, rfl, .inl ⟨_, SqL.of (by assumption), rfl⟩, ?_⟩ | refine ⟨_, _, rfl, .inr ⟨_, SqT.of (by assumption), rfl⟩, ?_⟩))
    refine ⟨(by show 6 ≤ sizeLine; rw [sizeLine_eq]; omega), fun z nz => ?_⟩
    have hw := h0.hw
    have zw : z ≠ wl := hw.ne nz
    have h1 : St K (upd H z (.lst (odds.map V.str))) sc wl a d ns ps rows j := h0.lay nz
    (repeat (first | refine ⟨_, rfl, ?_⟩ | refine ⟨rfl, ?_⟩ | refine ⟨_, _, rfl, rfl, ?_⟩ | refine iteT ?_ | refine iteF ?_ | refine ⟨(by show (0 : Int) < _; omega), ?_⟩ | refine ⟨(⟨by omega, by omega⟩ : CDiv _ _), ?_⟩ | refine ⟨(⟨by decide, by decide, by decide⟩ : CPow _ _), ?_⟩ | refine ⟨(.inl ⟨by omega, by omega⟩ : CMul _ _), ?_⟩ | refine ⟨(.inr ⟨by omega, by omega⟩ : CMul _ _), ?_⟩ | refine Or.inl ⟨_, rfl, ?_⟩ | refine Or.inr ⟨_, rfl, ?_⟩ | refine ⟨_, _, _, _, true, rfl, .ty _, .base (.str _), kit_ty (by decide +kernel), ?_⟩ | refine ⟨_, _, rfl, ⟨by rw [sizeLine_eq]; omega, rfl⟩, ?_⟩ | refine ⟨_, _, rfl, .inl ⟨_, SqL.of (by assumption), rfl⟩, ?_⟩ | refine ⟨_, _, rfl, .inr ⟨_, SqT.of (by assumption), rfl⟩, ?_⟩))
    refine ⟨sc, wl, 6, ns, rfl, h1.hs, h1.hw, by omega, by omega, hn, fun n1 H1 a1 b1 k1 => ?_⟩
    obtain ⟨odd, mo, eo⟩ := at_strs (xs := odds) a1 (show n1 < ((6 : Nat) : Int) from b1)
    have wo : Wd odd := odds_wd _ mo
    refine ⟨z, _, n1, _, rfl, rfl, SqL.of (k1.keep _ _ zw upd_same), eo, ?_⟩
    have h2 := h1.kp k1
    refine g_name ?_
    try dsimp only
    refine seq_asg ?_
    (repeat (first | refine ⟨_, rfl, ?_⟩ | refine ⟨rfl, ?_⟩ | refine ⟨_, _, rfl, rfl, ?_⟩ | refine iteT ?_ | refine iteF ?_ | refine ⟨(by show (0 : Int) < _; omega), ?_⟩ | refine ⟨(⟨by omega, by omega⟩ : CDiv _ _), ?_⟩ | refine ⟨(⟨by decide, by decide, by decide⟩ : CPow _ _), ?_⟩ | refine ⟨(.inl ⟨by omega, by omega⟩ : CMul _ _), ?_⟩ | refine ⟨(.inr ⟨by omega, by omega⟩ : CMul _ _), ?_⟩ | refine Or.inl ⟨_, rfl, ?_⟩ | refine Or.inr ⟨_, rfl, ?_⟩ | refine ⟨_, _, _, _, true, rfl, .ty _, .base (.str _), kit_ty (by decide +kernel), ?_⟩ | refine ⟨_, _, rfl, ⟨by rw [sizeLine_eq]; omega, rfl⟩, ?_⟩ | refine ⟨_, _, rfl, .inl ⟨_, SqL.of (by assumption), rfl⟩, ?_⟩ | refine ⟨_, _, rfl, .inr ⟨_, SqT.of (by assumption), rfl⟩, ?_⟩))
    refine ⟨sc, wl, 9, ns, rfl, h2.hs, h2.hw, by omega, by omega, hn, fun n2 H2 a2 b2 k2 => ?_⟩
    have h3 := h2.kp k2
    have ha3 := h3.ha
    refine g_name ?_
    try dsimp only
    refine seq_asg ?_
    (repeat (first | refine ⟨_, rfl, ?_⟩ | refine ⟨rfl, ?_⟩ | refine ⟨_, _, rfl, rfl, ?_⟩ | refine iteT ?_ | refine iteF ?_ | refine ⟨(by show (0 : Int) < _; omega), ?_⟩ | refine ⟨(⟨by omega, by omega⟩ : CDiv _ _), ?_⟩ | refine ⟨(⟨by decide, by decide, by decide⟩ : CPow _ _), ?_⟩ | refine ⟨(.inl ⟨by omega, by omega⟩ : CMul _ _), ?_⟩ | refine ⟨(.inr ⟨by omega, by omega⟩ : CMul _ _), ?_⟩ | refine Or.inl ⟨_, rfl, ?_⟩ | refine Or.inr ⟨_, rfl, ?_⟩ | refine ⟨_, _, _, _, true, rfl, .ty _, .base (.str _), kit_ty (by decide +kernel), ?_⟩ | refine ⟨_, _, rfl, ⟨by rw [sizeLine_eq]; omega, rfl⟩, ?_⟩ | refine ⟨_, _, rfl, .inl ⟨_, SqL.of (by assumption), rfl⟩, ?_⟩ | refine ⟨_, _, rfl, .inr ⟨_, SqT.of (by assumption), rfl⟩, ?_⟩))
    refine ⟨sc, wl, _, ns, rfl, h3.hs, h3.hw, (by rw [List.length_map]; omega), (by have := h3.sz.lp; rw [List.length_map]; omega), hn, fun n3 H3 a3 b3 k3 => ?_⟩
    have h := h3.kp k3
    obtain ⟨m, rfl⟩ : ∃ m : Nat, n3 = m := ⟨n3.toNat, by omega⟩
    have hm : m ≤ ps.length := by rw [List.length_map] at b3; omega
    clear ha3 h3 k3 k2 h2 k1 h1 eo mo
    refine g_name ?_
    try dsimp only
    rcases (show n2 = 0 ∨ n2 = 1 ∨ n2 = 2 ∨ n2 = 3 ∨ n2 = 4 ∨ n2 = 5 ∨ n2 = 6 ∨ n2 = 7 ∨ n2 = 8 by omega) with rfl | rfl | rfl | rfl | rfl | rfl | rfl | rfl | rfl
    · (repeat (first | refine ⟨_, rfl, ?_⟩ | refine ⟨rfl, ?_⟩ | refine ⟨_, _, rfl, rfl, ?_⟩ | refine iteT ?_ | refine iteF ?_ | refine ⟨(by show (0 : Int) < _; omega), ?_⟩ | refine ⟨(⟨by omega, by omega⟩ : CDiv _ _), ?_⟩ | refine ⟨(⟨by decide, by decide, by decide⟩ : CPow _ _), ?_⟩ | refine ⟨(.inl ⟨by omega, by omega⟩ : CMul _ _), ?_⟩ | refine ⟨(.inr ⟨by omega, by omega⟩ : CMul _ _), ?_⟩ | refine Or.inl ⟨_, rfl, ?_⟩ | refine Or.inr ⟨_, rfl, ?_⟩ | refine ⟨_, _, _, _, true, rfl, .ty _, .base (.str _), kit_ty (by decide +kernel), ?_⟩ | refine ⟨_, _, rfl, ⟨by rw [sizeLine_eq]; omega, rfl⟩, ?_⟩ | refine ⟨_, _, rfl, .inl ⟨_, SqL.of (by assumption), rfl⟩, ?_⟩ | refine ⟨_, _, rfl, .inr ⟨_, SqT.of (by assumption), rfl⟩, ?_⟩))
      refine ⟨a, _, rfl, SqL.of h.ha, fun sl nsl => ?_⟩
      rw [cut_to, ← List.map_take]
      obtain ⟨Gs, eGs⟩ : ∃ G, G = upd H3 sl (.lst ((ps.take m).map V.str)) := ⟨_, rfl⟩
      have gs := h.lay (o := .lst ((ps.take m).map V.str)) nsl
      have esl : upd H3 sl (.lst ((ps.take m).map V.str)) sl = _ := upd_same
      rw [← eGs] at gs esl ⊢
      -- [y] is laid
      (repeat (first | refine ⟨_, rfl, ?_⟩ | refine ⟨rfl, ?_⟩ | refine ⟨_, _, rfl, rfl, ?_⟩ | refine iteT ?_ | refine iteF ?_ | refine ⟨(by show (0 : Int) < _; omega), ?_⟩ | refine ⟨(⟨by omega, by omega⟩ : CDiv _ _), ?_⟩ | refine ⟨(⟨by decide, by decide, by decide⟩ : CPow _ _), ?_⟩ | refine ⟨(.inl ⟨by omega, by omega⟩ : CMul _ _), ?_⟩ | refine ⟨(.inr ⟨by omega, by omega⟩ : CMul _ _), ?_⟩ | refine Or.inl ⟨_, rfl, ?_⟩ | refine Or.inr ⟨_, rfl, ?_⟩ | refine ⟨_, _, _, _, true, rfl, .ty _, .base (.str _), kit_ty (by decide +kernel), ?_⟩ | refine ⟨_, _, rfl, ⟨by rw [sizeLine_eq]; omega, rfl⟩, ?_⟩ | refine ⟨_, _, rfl, .inl ⟨_, SqL.of (by assumption), rfl⟩, ?_⟩ | refine ⟨_, _, rfl, .inr ⟨_, SqT.of (by assumption), rfl⟩, ?_⟩))
      refine ⟨(by show 1 ≤ sizeLine; rw [sizeLine_eq]; omega), fun y1 ny1 => ?_⟩
      obtain ⟨y, rfl⟩ : ∃ y, y = odd := ⟨_, rfl⟩
      have wy := wo
      -- people[:m] lies at sl in Gs, [y] at y1: the sum, people[m:], the sum
      have es : upd Gs y1 (.lst [V.str y]) sl = some (.lst ((ps.take m).map V.str)) := (upd_ne (ne_of_none esl ny1)).trans esl
      have ey : upd Gs y1 (.lst [V.str y]) y1 = some (.lst [V.str y]) := upd_same
      have g := gs.lay (o := .lst [V.str y]) ny1
      generalize hG : upd Gs y1 (.lst [V.str y]) = G at *
      have lps := g.sz.lp
      refine ⟨sl, y1, _, _, rfl, rfl, es, ey, (by rw [List.length_map, List.length_take, sizeLine_eq]; simp only [List.length_cons, List.length_nil]; omega), fun c nc => ?_⟩
      have g2 := g.lay (o := .lst ((ps.take m).map V.str ++ [V.str y])) nc
      have e2 : upd G c (.lst ((ps.take m).map V.str ++ [V.str y])) c = _ := upd_same
      generalize hG2 : upd G c (.lst ((ps.take m).map V.str ++ [V.str y])) = G2 at *
      (repeat (first | refine ⟨_, rfl, ?_⟩ | refine ⟨rfl, ?_⟩ | refine ⟨_, _, rfl, rfl, ?_⟩ | refine iteT ?_ | refine iteF ?_ | refine ⟨(by show (0 : Int) < _; omega), ?_⟩ | refine ⟨(⟨by omega, by omega⟩ : CDiv _ _), ?_⟩ | refine ⟨(⟨by decide, by decide, by decide⟩ : CPow _ _), ?_⟩ | refine ⟨(.inl ⟨by omega, by omega⟩ : CMul _ _), ?_⟩ | refine ⟨(.inr ⟨by omega, by omega⟩ : CMul _ _), ?_⟩ | refine Or.inl ⟨_, rfl, ?_⟩ | refine Or.inr ⟨_, rfl, ?_⟩ | refine ⟨_, _, _, _, true, rfl, .ty _, .base (.str _), kit_ty (by decide +kernel), ?_⟩ | refine ⟨_, _, rfl, ⟨by rw [sizeLine_eq]; omega, rfl⟩, ?_⟩ | refine ⟨_, _, rfl, .inl ⟨_, SqL.of (by assumption), rfl⟩, ?_⟩ | refine ⟨_, _, rfl, .inr ⟨_, SqT.of (by assumption), rfl⟩, ?_⟩))
      refine ⟨a, _, rfl, SqL.of g2.ha, fun s2 ns2 => ?_⟩
      rw [cut_frm, ← List.map_drop]
      have g3 := g2.lay (o := .lst ((ps.drop m).map V.str)) ns2
      have e3 : upd G2 s2 (.lst ((ps.drop m).map V.str)) c = _ := (upd_ne (ne_of_none e2 ns2)).trans e2
      have e4 : upd G2 s2 (.lst ((ps.drop m).map V.str)) s2 = _ := upd_same
      generalize hG3 : upd G2 s2 (.lst ((ps.drop m).map V.str)) = G3 at *
      refine ⟨c, s2, _, _, rfl, rfl, e3, e4, (by rw [List.length_append, List.length_map, List.length_map, List.length_take, List.length_drop, sizeLine_eq]; simp only [List.length_cons, List.length_nil]; omega), fun q nq => ?_⟩
      have g4 := g3.lay (o := .lst ((ps.take m).map V.str ++ [V.str y] ++ (ps.drop m).map V.str)) nq
      have e5 : upd G3 q (.lst ((ps.take m).map V.str ++ [V.str y] ++ (ps.drop m).map V.str)) q = some (.lst ((ps.take m ++ [y] ++ ps.drop m).map V.str)) := by rw [upd_same]; simp
      have fi := g4.folk e5 (g4.sz.ps (by rw [List.length_append, List.length_append, List.length_take, List.length_drop]; simp only [List.length_cons, List.length_nil]; omega) fun x hx => by
        rcases List.mem_append.mp hx with hx | hx
        · rcases List.mem_append.mp hx with hx | hx
          · exact g4.sz.sp x (List.mem_of_mem_take hx)
          · rw [List.mem_singleton.mp hx]
            exact wy
        · exact g4.sz.sp x (List.mem_of_mem_drop hx))
      (repeat (first | refine ⟨_, rfl, ?_⟩ | refine ⟨rfl, ?_⟩ | refine ⟨_, _, rfl, rfl, ?_⟩ | refine iteT ?_ | refine iteF ?_ | refine ⟨(by show (0 : Int) < _; omega), ?_⟩ | refine ⟨(⟨by omega, by omega⟩ : CDiv _ _), ?_⟩ | refine ⟨(⟨by decide, by decide, by decide⟩ : CPow _ _), ?_⟩ | refine ⟨(.inl ⟨by omega, by omega⟩ : CMul _ _), ?_⟩ | refine ⟨(.inr ⟨by omega, by omega⟩ : CMul _ _), ?_⟩ | refine Or.inl ⟨_, rfl, ?_⟩ | refine Or.inr ⟨_, rfl, ?_⟩ | refine ⟨_, _, _, _, true, rfl, .ty _, .base (.str _), kit_ty (by decide +kernel), ?_⟩ | refine ⟨_, _, rfl, ⟨by rw [sizeLine_eq]; omega, rfl⟩, ?_⟩ | refine ⟨_, _, rfl, .inl ⟨_, SqL.of (by assumption), rfl⟩, ?_⟩ | refine ⟨_, _, rfl, .inr ⟨_, SqT.of (by assumption), rfl⟩, ?_⟩))
      refine ⟨(by show 2 ≤ sizeLine; rw [sizeLine_eq]; omega), fun t nt => ?_⟩
      (repeat (first | refine ⟨_, rfl, ?_⟩ | refine ⟨rfl, ?_⟩ | refine ⟨_, _, rfl, rfl, ?_⟩ | refine iteT ?_ | refine iteF ?_ | refine ⟨(by show (0 : Int) < _; omega), ?_⟩ | refine ⟨(⟨by omega, by omega⟩ : CDiv _ _), ?_⟩ | refine ⟨(⟨by decide, by decide, by decide⟩ : CPow _ _), ?_⟩ | refine ⟨(.inl ⟨by omega, by omega⟩ : CMul _ _), ?_⟩ | refine ⟨(.inr ⟨by omega, by omega⟩ : CMul _ _), ?_⟩ | refine Or.inl ⟨_, rfl, ?_⟩ | refine Or.inr ⟨_, rfl, ?_⟩ | refine ⟨_, _, _, _, true, rfl, .ty _, .base (.str _), kit_ty (by decide +kernel), ?_⟩ | refine ⟨_, _, rfl, ⟨by rw [sizeLine_eq]; omega, rfl⟩, ?_⟩ | refine ⟨_, _, rfl, .inl ⟨_, SqL.of (by assumption), rfl⟩, ?_⟩ | refine ⟨_, _, rfl, .inr ⟨_, SqT.of (by assumption), rfl⟩, ?_⟩))
      exact k t _ _ _ _ upd_same (fi.lay nt)
    · (repeat (first | refine ⟨_, rfl, ?_⟩ | refine ⟨rfl, ?_⟩ | refine ⟨_, _, rfl, rfl, ?_⟩ | refine iteT ?_ | refine iteF ?_ | refine ⟨(by show (0 : Int) < _; omega), ?_⟩ | refine ⟨(⟨by omega, by omega⟩ : CDiv _ _), ?_⟩ | refine ⟨(⟨by decide, by decide, by decide⟩ : CPow _ _), ?_⟩ | refine ⟨(.inl ⟨by omega, by omega⟩ : CMul _ _), ?_⟩ | refine ⟨(.inr ⟨by omega, by omega⟩ : CMul _ _), ?_⟩ | refine Or.inl ⟨_, rfl, ?_⟩ | refine Or.inr ⟨_, rfl, ?_⟩ | refine ⟨_, _, _, _, true, rfl, .ty _, .base (.str _), kit_ty (by decide +kernel), ?_⟩ | refine ⟨_, _, rfl, ⟨by rw [sizeLine_eq]; omega, rfl⟩, ?_⟩ | refine ⟨_, _, rfl, .inl ⟨_, SqL.of (by assumption), rfl⟩, ?_⟩ | refine ⟨_, _, rfl, .inr ⟨_, SqT.of (by assumption), rfl⟩, ?_⟩))
      -- people != []
      refine ⟨Nat.zero_le _, fun y0 ny0 => ?_⟩
      have h0' := h.lay (o := .lst []) ny0
      refine ⟨_, _, dp_strs h0'.ha, dp_strs (ps := []) upd_same, shaped_strs (fun x hx => (h.sz.sp x hx).ok), shaped_strs (fun _ h => by cases h), ?_⟩
      rw [eqv_strs]
      clear h
      generalize hGe : upd H3 y0 (.lst []) = He at *
      have h := h0'
      clear h0' hGe
      by_cases hne : ps = []
      · rw [decide_eq_true hne]
        have fi := h.mono
        (repeat (first | refine ⟨_, rfl, ?_⟩ | refine ⟨rfl, ?_⟩ | refine ⟨_, _, rfl, rfl, ?_⟩ | refine iteT ?_ | refine iteF ?_ | refine ⟨(by show (0 : Int) < _; omega), ?_⟩ | refine ⟨(⟨by omega, by omega⟩ : CDiv _ _), ?_⟩ | refine ⟨(⟨by decide, by decide, by decide⟩ : CPow _ _), ?_⟩ | refine ⟨(.inl ⟨by omega, by omega⟩ : CMul _ _), ?_⟩ | refine ⟨(.inr ⟨by omega, by omega⟩ : CMul _ _), ?_⟩ | refine Or.inl ⟨_, rfl, ?_⟩ | refine Or.inr ⟨_, rfl, ?_⟩ | refine ⟨_, _, _, _, true, rfl, .ty _, .base (.str _), kit_ty (by decide +kernel), ?_⟩ | refine ⟨_, _, rfl, ⟨by rw [sizeLine_eq]; omega, rfl⟩, ?_⟩ | refine ⟨_, _, rfl, .inl ⟨_, SqL.of (by assumption), rfl⟩, ?_⟩ | refine ⟨_, _, rfl, .inr ⟨_, SqT.of (by assumption), rfl⟩, ?_⟩))
        refine ⟨(by show 2 ≤ sizeLine; rw [sizeLine_eq]; omega), fun t nt => ?_⟩
        (repeat (first | refine ⟨_, rfl, ?_⟩ | refine ⟨rfl, ?_⟩ | refine ⟨_, _, rfl, rfl, ?_⟩ | refine iteT ?_ | refine iteF ?_ | refine ⟨(by show (0 : Int) < _; omega), ?_⟩ | refine ⟨(⟨by omega, by omega⟩ : CDiv _ _), ?_⟩ | refine ⟨(⟨by decide, by decide, by decide⟩ : CPow _ _), ?_⟩ | refine ⟨(.inl ⟨by omega, by omega⟩ : CMul _ _), ?_⟩ | refine ⟨(.inr ⟨by omega, by omega⟩ : CMul _ _), ?_⟩ | refine Or.inl ⟨_, rfl, ?_⟩ | refine Or.inr ⟨_, rfl, ?_⟩ | refine ⟨_, _, _, _, true, rfl, .ty _, .base (.str _), kit_ty (by decide +kernel), ?_⟩ | refine ⟨_, _, rfl, ⟨by rw [sizeLine_eq]; omega, rfl⟩, ?_⟩ | refine ⟨_, _, rfl, .inl ⟨_, SqL.of (by assumption), rfl⟩, ?_⟩ | refine ⟨_, _, rfl, .inr ⟨_, SqT.of (by assumption), rfl⟩, ?_⟩))
        exact k t _ _ _ _ upd_same (fi.lay nt)
      · rw [decide_eq_false hne]
        (repeat (first | refine ⟨_, rfl, ?_⟩ | refine ⟨rfl, ?_⟩ | refine ⟨_, _, rfl, rfl, ?_⟩ | refine iteT ?_ | refine iteF ?_ | refine ⟨(by show (0 : Int) < _; omega), ?_⟩ | refine ⟨(⟨by omega, by omega⟩ : CDiv _ _), ?_⟩ | refine ⟨(⟨by decide, by decide, by decide⟩ : CPow _ _), ?_⟩ | refine ⟨(.inl ⟨by omega, by omega⟩ : CMul _ _), ?_⟩ | refine ⟨(.inr ⟨by omega, by omega⟩ : CMul _ _), ?_⟩ | refine Or.inl ⟨_, rfl, ?_⟩ | refine Or.inr ⟨_, rfl, ?_⟩ | refine ⟨_, _, _, _, true, rfl, .ty _, .base (.str _), kit_ty (by decide +kernel), ?_⟩ | refine ⟨_, _, rfl, ⟨by rw [sizeLine_eq]; omega, rfl⟩, ?_⟩ | refine ⟨_, _, rfl, .inl ⟨_, SqL.of (by assumption), rfl⟩, ?_⟩ | refine ⟨_, _, rfl, .inr ⟨_, SqT.of (by assumption), rfl⟩, ?_⟩))
        refine ⟨a, _, rfl, SqL.of h.ha, fun sl nsl => ?_⟩
        rw [cut_to, ← List.map_take]
        have hl := h.lay (o := .lst ((ps.take m).map V.str)) nsl
        have hw1 := h.hw
        have esl0 : upd He sl (.lst ((ps.take m).map V.str)) sl = _ := upd_same
        generalize hGl : upd He sl (.lst ((ps.take m).map V.str)) = Gl at *
        clear h
        have h := hl
        clear hl
        -- people[take(len(people))]
        have hah := h.ha
        have l1 : 1 ≤ ps.length := List.length_pos_iff.mpr hne
        (repeat (first | refine ⟨_, rfl, ?_⟩ | refine ⟨rfl, ?_⟩ | refine ⟨_, _, rfl, rfl, ?_⟩ | refine iteT ?_ | refine iteF ?_ | refine ⟨(by show (0 : Int) < _; omega), ?_⟩ | refine ⟨(⟨by omega, by omega⟩ : CDiv _ _), ?_⟩ | refine ⟨(⟨by decide, by decide, by decide⟩ : CPow _ _), ?_⟩ | refine ⟨(.inl ⟨by omega, by omega⟩ : CMul _ _), ?_⟩ | refine ⟨(.inr ⟨by omega, by omega⟩ : CMul _ _), ?_⟩ | refine Or.inl ⟨_, rfl, ?_⟩ | refine Or.inr ⟨_, rfl, ?_⟩ | refine ⟨_, _, _, _, true, rfl, .ty _, .base (.str _), kit_ty (by decide +kernel), ?_⟩ | refine ⟨_, _, rfl, ⟨by rw [sizeLine_eq]; omega, rfl⟩, ?_⟩ | refine ⟨_, _, rfl, .inl ⟨_, SqL.of (by assumption), rfl⟩, ?_⟩ | refine ⟨_, _, rfl, .inr ⟨_, SqT.of (by assumption), rfl⟩, ?_⟩))
        refine ⟨sc, wl, _, ns, rfl, h.hs, h.hw, (by rw [List.length_map]; omega), (by have := h.sz.lp; rw [List.length_map]; omega), hn, fun n5 H5 a5 b5 k5 => ?_⟩
        rw [List.length_map] at b5
        obtain ⟨x, hx, ex⟩ := at_strs a5 b5
        have wx : Wd x := h.sz.sp x hx
        have slw : sl ≠ wl := hw1.ne nsl
        refine ⟨a, _, n5, _, rfl, rfl, SqL.of (h.kp k5).ha, ex, ?_⟩
        have gs := h.kp k5
        have esl := k5.keep _ _ slw esl0
        obtain ⟨Gs, rfl⟩ : ∃ G, G = H5 := ⟨_, rfl⟩
        -- [y] is laid
        (repeat (first | refine ⟨_, rfl, ?_⟩ | refine ⟨rfl, ?_⟩ | refine ⟨_, _, rfl, rfl, ?_⟩ | refine iteT ?_ | refine iteF ?_ | refine ⟨(by show (0 : Int) < _; omega), ?_⟩ | refine ⟨(⟨by omega, by omega⟩ : CDiv _ _), ?_⟩ | refine ⟨(⟨by decide, by decide, by decide⟩ : CPow _ _), ?_⟩ | refine ⟨(.inl ⟨by omega, by omega⟩ : CMul _ _), ?_⟩ | refine ⟨(.inr ⟨by omega, by omega⟩ : CMul _ _), ?_⟩ | refine Or.inl ⟨_, rfl, ?_⟩ | refine Or.inr ⟨_, rfl, ?_⟩ | refine ⟨_, _, _, _, true, rfl, .ty _, .base (.str _), kit_ty (by decide +kernel), ?_⟩ | refine ⟨_, _, rfl, ⟨by rw [sizeLine_eq]; omega, rfl⟩, ?_⟩ | refine ⟨_, _, rfl, .inl ⟨_, SqL.of (by assumption), rfl⟩, ?_⟩ | refine ⟨_, _, rfl, .inr ⟨_, SqT.of (by assumption), rfl⟩, ?_⟩))
        refine ⟨(by show 1 ≤ sizeLine; rw [sizeLine_eq]; omega), fun y1 ny1 => ?_⟩
        obtain ⟨y, rfl⟩ : ∃ y, y = x := ⟨_, rfl⟩
        have wy := wx
        -- people[:m] lies at sl in Gs, [y] at y1: the sum, people[m:], the sum
        have es : upd Gs y1 (.lst [V.str y]) sl = some (.lst ((ps.take m).map V.str)) := (upd_ne (ne_of_none esl ny1)).trans esl
        have ey : upd Gs y1 (.lst [V.str y]) y1 = some (.lst [V.str y]) := upd_same
        have g := gs.lay (o := .lst [V.str y]) ny1
        generalize hG : upd Gs y1 (.lst [V.str y]) = G at *
        have lps := g.sz.lp
        refine ⟨sl, y1, _, _, rfl, rfl, es, ey, (by rw [List.length_map, List.length_take, sizeLine_eq]; simp only [List.length_cons, List.length_nil]; omega), fun c nc => ?_⟩
        have g2 := g.lay (o := .lst ((ps.take m).map V.str ++ [V.str y])) nc
        have e2 : upd G c (.lst ((ps.take m).map V.str ++ [V.str y])) c = _ := upd_same
        generalize hG2 : upd G c (.lst ((ps.take m).map V.str ++ [V.str y])) = G2 at *
        (repeat (first | refine ⟨_, rfl, ?_⟩ | refine ⟨rfl, ?_⟩ | refine ⟨_, _, rfl, rfl, ?_⟩ | refine iteT ?_ | refine iteF ?_ | refine ⟨(by show (0 : Int) < _; omega), ?_⟩ | refine ⟨(⟨by omega, by omega⟩ : CDiv _ _), ?_⟩ | refine ⟨(⟨by decide, by decide, by decide⟩ : CPow _ _), ?_⟩ | refine ⟨(.inl ⟨by omega, by omega⟩ : CMul _ _), ?_⟩ | refine ⟨(.inr ⟨by omega, by omega⟩ : CMul _ _), ?_⟩ | refine Or.inl ⟨_, rfl, ?_⟩ | refine Or.inr ⟨_, rfl, ?_⟩ | refine ⟨_, _, _, _, true, rfl, .ty _, .base (.str _), kit_ty (by decide +kernel), ?_⟩ | refine ⟨_, _, rfl, ⟨by rw [sizeLine_eq]; omega, rfl⟩, ?_⟩ | refine ⟨_, _, rfl, .inl ⟨_, SqL.of (by assumption), rfl⟩, ?_⟩ | refine ⟨_, _, rfl, .inr ⟨_, SqT.of (by assumption), rfl⟩, ?_⟩))
        refine ⟨a, _, rfl, SqL.of g2.ha, fun s2 ns2 => ?_⟩
        rw [cut_frm, ← List.map_drop]
        have g3 := g2.lay (o := .lst ((ps.drop m).map V.str)) ns2
        have e3 : upd G2 s2 (.lst ((ps.drop m).map V.str)) c = _ := (upd_ne (ne_of_none e2 ns2)).trans e2
        have e4 : upd G2 s2 (.lst ((ps.drop m).map V.str)) s2 = _ := upd_same
        generalize hG3 : upd G2 s2 (.lst ((ps.drop m).map V.str)) = G3 at *
        refine ⟨c, s2, _, _, rfl, rfl, e3, e4, (by rw [List.length_append, List.length_map, List.length_map, List.length_take, List.length_drop, sizeLine_eq]; simp only [List.length_cons, List.length_nil]; omega), fun q nq => ?_⟩
        have g4 := g3.lay (o := .lst ((ps.take m).map V.str ++ [V.str y] ++ (ps.drop m).map V.str)) nq
        have e5 : upd G3 q (.lst ((ps.take m).map V.str ++ [V.str y] ++ (ps.drop m).map V.str)) q = some (.lst ((ps.take m ++ [y] ++ ps.drop m).map V.str)) := by rw [upd_same]; simp
        have fi := g4.folk e5 (g4.sz.ps (by rw [List.length_append, List.length_append, List.length_take, List.length_drop]; simp only [List.length_cons, List.length_nil]; omega) fun x hx => by
          rcases List.mem_append.mp hx with hx | hx
          · rcases List.mem_append.mp hx with hx | hx
            · exact g4.sz.sp x (List.mem_of_mem_take hx)
            · rw [List.mem_singleton.mp hx]
              exact wy
          · exact g4.sz.sp x (List.mem_of_mem_drop hx))
        (repeat (first | refine ⟨_, rfl, ?_⟩ | refine ⟨rfl, ?_⟩ | refine ⟨_, _, rfl, rfl, ?_⟩ | refine iteT ?_ | refine iteF ?_ | refine ⟨(by show (0 : Int) < _; omega), ?_⟩ | refine ⟨(⟨by omega, by omega⟩ : CDiv _ _), ?_⟩ | refine ⟨(⟨by decide, by decide, by decide⟩ : CPow _ _), ?_⟩ | refine ⟨(.inl ⟨by omega, by omega⟩ : CMul _ _), ?_⟩ | refine ⟨(.inr ⟨by omega, by omega⟩ : CMul _ _), ?_⟩ | refine Or.inl ⟨_, rfl, ?_⟩ | refine Or.inr ⟨_, rfl, ?_⟩ | refine ⟨_, _, _, _, true, rfl, .ty _, .base (.str _), kit_ty (by decide +kernel), ?_⟩ | refine ⟨_, _, rfl, ⟨by rw [sizeLine_eq]; omega, rfl⟩, ?_⟩ | refine ⟨_, _, rfl, .inl ⟨_, SqL.of (by assumption), rfl⟩, ?_⟩ | refine ⟨_, _, rfl, .inr ⟨_, SqT.of (by assumption), rfl⟩, ?_⟩))
        refine ⟨(by show 2 ≤ sizeLine; rw [sizeLine_eq]; omega), fun t nt => ?_⟩
        (repeat (first | refine ⟨_, rfl, ?_⟩ | refine ⟨rfl, ?_⟩ | refine ⟨_, _, rfl, rfl, ?_⟩ | refine iteT ?_ | refine iteF ?_ | refine ⟨(by show (0 : Int) < _; omega), ?_⟩ | refine ⟨(⟨by omega, by omega⟩ : CDiv _ _), ?_⟩ | refine ⟨(⟨by decide, by decide, by decide⟩ : CPow _ _), ?_⟩ | refine ⟨(.inl ⟨by omega, by omega⟩ : CMul _ _), ?_⟩ | refine ⟨(.inr ⟨by omega, by omega⟩ : CMul _ _), ?_⟩ | refine Or.inl ⟨_, rfl, ?_⟩ | refine Or.inr ⟨_, rfl, ?_⟩ | refine ⟨_, _, _, _, true, rfl, .ty _, .base (.str _), kit_ty (by decide +kernel), ?_⟩ | refine ⟨_, _, rfl, ⟨by rw [sizeLine_eq]; omega, rfl⟩, ?_⟩ | refine ⟨_, _, rfl, .inl ⟨_, SqL.of (by assumption), rfl⟩, ?_⟩ | refine ⟨_, _, rfl, .inr ⟨_, SqT.of (by assumption), rfl⟩, ?_⟩))
        exact k t _ _ _ _ upd_same (fi.lay nt)
    · (repeat (first | refine ⟨_, rfl, ?_⟩ | refine ⟨rfl, ?_⟩ | refine ⟨_, _, rfl, rfl, ?_⟩ | refine iteT ?_ | refine iteF ?_ | refine ⟨(by show (0 : Int) < _; omega), ?_⟩ | refine ⟨(⟨by omega, by omega⟩ : CDiv _ _), ?_⟩ | refine ⟨(⟨by decide, by decide, by decide⟩ : CPow _ _), ?_⟩ | refine ⟨(.inl ⟨by omega, by omega⟩ : CMul _ _), ?_⟩ | refine ⟨(.inr ⟨by omega, by omega⟩ : CMul _ _), ?_⟩ | refine Or.inl ⟨_, rfl, ?_⟩ | refine Or.inr ⟨_, rfl, ?_⟩ | refine ⟨_, _, _, _, true, rfl, .ty _, .base (.str _), kit_ty (by decide +kernel), ?_⟩ | refine ⟨_, _, rfl, ⟨by rw [sizeLine_eq]; omega, rfl⟩, ?_⟩ | refine ⟨_, _, rfl, .inl ⟨_, SqL.of (by assumption), rfl⟩, ?_⟩ | refine ⟨_, _, rfl, .inr ⟨_, SqT.of (by assumption), rfl⟩, ?_⟩))
      refine ⟨sc, wl, 26, ns, rfl, h.hs, hn, h.hw, by omega, by omega, fun l xs H5 nl k5 hl lx nm nd5 => ?_⟩
      have g := h.kp k5
      have lps := g.sz.lp
      refine ⟨a, l, _, _, rfl, rfl, g.ha, hl, (by rw [List.length_map, List.length_map, sizeLine_eq]; omega), fun q nq => ?_⟩
      rw [← List.map_append]
      have g4 := g.lay (o := .lst ((ps ++ xs).map V.str)) nq
      have e5 : upd H5 q (.lst ((ps ++ xs).map V.str)) q = _ := upd_same
      have fi := g4.folk e5 (g4.sz.ps (by rw [List.length_append]; omega) fun x hx => by
        rcases List.mem_append.mp hx with hx | hx
        · exact g4.sz.sp x hx
        · exact wd_nm (nm x hx))
      generalize hGz : upd H5 q (.lst ((ps ++ xs).map V.str)) = Gz at *
      (repeat (first | refine ⟨_, rfl, ?_⟩ | refine ⟨rfl, ?_⟩ | refine ⟨_, _, rfl, rfl, ?_⟩ | refine iteT ?_ | refine iteF ?_ | refine ⟨(by show (0 : Int) < _; omega), ?_⟩ | refine ⟨(⟨by omega, by omega⟩ : CDiv _ _), ?_⟩ | refine ⟨(⟨by decide, by decide, by decide⟩ : CPow _ _), ?_⟩ | refine ⟨(.inl ⟨by omega, by omega⟩ : CMul _ _), ?_⟩ | refine ⟨(.inr ⟨by omega, by omega⟩ : CMul _ _), ?_⟩ | refine Or.inl ⟨_, rfl, ?_⟩ | refine Or.inr ⟨_, rfl, ?_⟩ | refine ⟨_, _, _, _, true, rfl, .ty _, .base (.str _), kit_ty (by decide +kernel), ?_⟩ | refine ⟨_, _, rfl, ⟨by rw [sizeLine_eq]; omega, rfl⟩, ?_⟩ | refine ⟨_, _, rfl, .inl ⟨_, SqL.of (by assumption), rfl⟩, ?_⟩ | refine ⟨_, _, rfl, .inr ⟨_, SqT.of (by assumption), rfl⟩, ?_⟩))
      refine ⟨(by show 2 ≤ sizeLine; rw [sizeLine_eq]; omega), fun t nt => ?_⟩
      (repeat (first | refine ⟨_, rfl, ?_⟩ | refine ⟨rfl, ?_⟩ | refine ⟨_, _, rfl, rfl, ?_⟩ | refine iteT ?_ | refine iteF ?_ | refine ⟨(by show (0 : Int) < _; omega), ?_⟩ | refine ⟨(⟨by omega, by omega⟩ : CDiv _ _), ?_⟩ | refine ⟨(⟨by decide, by decide, by decide⟩ : CPow _ _), ?_⟩ | refine ⟨(.inl ⟨by omega, by omega⟩ : CMul _ _), ?_⟩ | refine ⟨(.inr ⟨by omega, by omega⟩ : CMul _ _), ?_⟩ | refine Or.inl ⟨_, rfl, ?_⟩ | refine Or.inr ⟨_, rfl, ?_⟩ | refine ⟨_, _, _, _, true, rfl, .ty _, .base (.str _), kit_ty (by decide +kernel), ?_⟩ | refine ⟨_, _, rfl, ⟨by rw [sizeLine_eq]; omega, rfl⟩, ?_⟩ | refine ⟨_, _, rfl, .inl ⟨_, SqL.of (by assumption), rfl⟩, ?_⟩ | refine ⟨_, _, rfl, .inr ⟨_, SqT.of (by assumption), rfl⟩, ?_⟩))
      exact k t _ _ _ _ upd_same (fi.lay nt)
    · (repeat (first | refine ⟨_, rfl, ?_⟩ | refine ⟨rfl, ?_⟩ | refine ⟨_, _, rfl, rfl, ?_⟩ | refine iteT ?_ | refine iteF ?_ | refine ⟨(by show (0 : Int) < _; omega), ?_⟩ | refine ⟨(⟨by omega, by omega⟩ : CDiv _ _), ?_⟩ | refine ⟨(⟨by decide, by decide, by decide⟩ : CPow _ _), ?_⟩ | refine ⟨(.inl ⟨by omega, by omega⟩ : CMul _ _), ?_⟩ | refine ⟨(.inr ⟨by omega, by omega⟩ : CMul _ _), ?_⟩ | refine Or.inl ⟨_, rfl, ?_⟩ | refine Or.inr ⟨_, rfl, ?_⟩ | refine ⟨_, _, _, _, true, rfl, .ty _, .base (.str _), kit_ty (by decide +kernel), ?_⟩ | refine ⟨_, _, rfl, ⟨by rw [sizeLine_eq]; omega, rfl⟩, ?_⟩ | refine ⟨_, _, rfl, .inl ⟨_, SqL.of (by assumption), rfl⟩, ?_⟩ | refine ⟨_, _, rfl, .inr ⟨_, SqT.of (by assumption), rfl⟩, ?_⟩))
      -- people != []
      refine ⟨Nat.zero_le _, fun y0 ny0 => ?_⟩
      have h0' := h.lay (o := .lst []) ny0
      refine ⟨_, _, dp_strs h0'.ha, dp_strs (ps := []) upd_same, shaped_strs (fun x hx => (h.sz.sp x hx).ok), shaped_strs (fun _ h => by cases h), ?_⟩
      rw [eqv_strs]
      clear h
      generalize hGe : upd H3 y0 (.lst []) = He at *
      have h := h0'
      clear h0' hGe
      by_cases hne : ps = []
      · rw [decide_eq_true hne]
        have fi := h.mono
        (repeat (first | refine ⟨_, rfl, ?_⟩ | refine ⟨rfl, ?_⟩ | refine ⟨_, _, rfl, rfl, ?_⟩ | refine iteT ?_ | refine iteF ?_ | refine ⟨(by show (0 : Int) < _; omega), ?_⟩ | refine ⟨(⟨by omega, by omega⟩ : CDiv _ _), ?_⟩ | refine ⟨(⟨by decide, by decide, by decide⟩ : CPow _ _), ?_⟩ | refine ⟨(.inl ⟨by omega, by omega⟩ : CMul _ _), ?_⟩ | refine ⟨(.inr ⟨by omega, by omega⟩ : CMul _ _), ?_⟩ | refine Or.inl ⟨_, rfl, ?_⟩ | refine Or.inr ⟨_, rfl, ?_⟩ | refine ⟨_, _, _, _, true, rfl, .ty _, .base (.str _), kit_ty (by decide +kernel), ?_⟩ | refine ⟨_, _, rfl, ⟨by rw [sizeLine_eq]; omega, rfl⟩, ?_⟩ | refine ⟨_, _, rfl, .inl ⟨_, SqL.of (by assumption), rfl⟩, ?_⟩ | refine ⟨_, _, rfl, .inr ⟨_, SqT.of (by assumption), rfl⟩, ?_⟩))
        refine ⟨(by show 2 ≤ sizeLine; rw [sizeLine_eq]; omega), fun t nt => ?_⟩
        (repeat (first | refine ⟨_, rfl, ?_⟩ | refine ⟨rfl, ?_⟩ | refine ⟨_, _, rfl, rfl, ?_⟩ | refine iteT ?_ | refine iteF ?_ | refine ⟨(by show (0 : Int) < _; omega), ?_⟩ | refine ⟨(⟨by omega, by omega⟩ : CDiv _ _), ?_⟩ | refine ⟨(⟨by decide, by decide, by decide⟩ : CPow _ _), ?_⟩ | refine ⟨(.inl ⟨by omega, by omega⟩ : CMul _ _), ?_⟩ | refine ⟨(.inr ⟨by omega, by omega⟩ : CMul _ _), ?_⟩ | refine Or.inl ⟨_, rfl, ?_⟩ | refine Or.inr ⟨_, rfl, ?_⟩ | refine ⟨_, _, _, _, true, rfl, .ty _, .base (.str _), kit_ty (by decide +kernel), ?_⟩ | refine ⟨_, _, rfl, ⟨by rw [sizeLine_eq]; omega, rfl⟩, ?_⟩ | refine ⟨_, _, rfl, .inl ⟨_, SqL.of (by assumption), rfl⟩, ?_⟩ | refine ⟨_, _, rfl, .inr ⟨_, SqT.of (by assumption), rfl⟩, ?_⟩))
        exact k t _ _ _ _ upd_same (fi.lay nt)
      · rw [decide_eq_false hne]
        (repeat (first | refine ⟨_, rfl, ?_⟩ | refine ⟨rfl, ?_⟩ | refine ⟨_, _, rfl, rfl, ?_⟩ | refine iteT ?_ | refine iteF ?_ | refine ⟨(by show (0 : Int) < _; omega), ?_⟩ | refine ⟨(⟨by omega, by omega⟩ : CDiv _ _), ?_⟩ | refine ⟨(⟨by decide, by decide, by decide⟩ : CPow _ _), ?_⟩ | refine ⟨(.inl ⟨by omega, by omega⟩ : CMul _ _), ?_⟩ | refine ⟨(.inr ⟨by omega, by omega⟩ : CMul _ _), ?_⟩ | refine Or.inl ⟨_, rfl, ?_⟩ | refine Or.inr ⟨_, rfl, ?_⟩ | refine ⟨_, _, _, _, true, rfl, .ty _, .base (.str _), kit_ty (by decide +kernel), ?_⟩ | refine ⟨_, _, rfl, ⟨by rw [sizeLine_eq]; omega, rfl⟩, ?_⟩ | refine ⟨_, _, rfl, .inl ⟨_, SqL.of (by assumption), rfl⟩, ?_⟩ | refine ⟨_, _, rfl, .inr ⟨_, SqT.of (by assumption), rfl⟩, ?_⟩))
        obtain ⟨kv0, hd0, R0⟩ := h.ex
        refine ⟨.inl ⟨kv0, .inl hd0⟩, ?_⟩
        -- people[take(len(people))]
        have hah := h.ha
        have l1 : 1 ≤ ps.length := List.length_pos_iff.mpr hne
        (repeat (first | refine ⟨_, rfl, ?_⟩ | refine ⟨rfl, ?_⟩ | refine ⟨_, _, rfl, rfl, ?_⟩ | refine iteT ?_ | refine iteF ?_ | refine ⟨(by show (0 : Int) < _; omega), ?_⟩ | refine ⟨(⟨by omega, by omega⟩ : CDiv _ _), ?_⟩ | refine ⟨(⟨by decide, by decide, by decide⟩ : CPow _ _), ?_⟩ | refine ⟨(.inl ⟨by omega, by omega⟩ : CMul _ _), ?_⟩ | refine ⟨(.inr ⟨by omega, by omega⟩ : CMul _ _), ?_⟩ | refine Or.inl ⟨_, rfl, ?_⟩ | refine Or.inr ⟨_, rfl, ?_⟩ | refine ⟨_, _, _, _, true, rfl, .ty _, .base (.str _), kit_ty (by decide +kernel), ?_⟩ | refine ⟨_, _, rfl, ⟨by rw [sizeLine_eq]; omega, rfl⟩, ?_⟩ | refine ⟨_, _, rfl, .inl ⟨_, SqL.of (by assumption), rfl⟩, ?_⟩ | refine ⟨_, _, rfl, .inr ⟨_, SqT.of (by assumption), rfl⟩, ?_⟩))
        refine ⟨sc, wl, _, ns, rfl, h.hs, h.hw, (by rw [List.length_map]; omega), (by have := h.sz.lp; rw [List.length_map]; omega), hn, fun n5 H5 a5 b5 k5 => ?_⟩
        rw [List.length_map] at b5
        obtain ⟨x, hx, ex⟩ := at_strs a5 b5
        have wx : Wd x := h.sz.sp x hx
        refine ⟨a, _, n5, _, rfl, rfl, SqL.of (h.kp k5).ha, ex, ?_⟩
        have hh := h.kp k5
        obtain ⟨kvs, hd, R⟩ := hh.ex
        refine ⟨kvs, .inr x, hd, rfl, fun v _ => ?_, fun nv => ?_⟩
        · have fi := hh.ddrop (n := x) R
          (repeat (first | refine ⟨_, rfl, ?_⟩ | refine ⟨rfl, ?_⟩ | refine ⟨_, _, rfl, rfl, ?_⟩ | refine iteT ?_ | refine iteF ?_ | refine ⟨(by show (0 : Int) < _; omega), ?_⟩ | refine ⟨(⟨by omega, by omega⟩ : CDiv _ _), ?_⟩ | refine ⟨(⟨by decide, by decide, by decide⟩ : CPow _ _), ?_⟩ | refine ⟨(.inl ⟨by omega, by omega⟩ : CMul _ _), ?_⟩ | refine ⟨(.inr ⟨by omega, by omega⟩ : CMul _ _), ?_⟩ | refine Or.inl ⟨_, rfl, ?_⟩ | refine Or.inr ⟨_, rfl, ?_⟩ | refine ⟨_, _, _, _, true, rfl, .ty _, .base (.str _), kit_ty (by decide +kernel), ?_⟩ | refine ⟨_, _, rfl, ⟨by rw [sizeLine_eq]; omega, rfl⟩, ?_⟩ | refine ⟨_, _, rfl, .inl ⟨_, SqL.of (by assumption), rfl⟩, ?_⟩ | refine ⟨_, _, rfl, .inr ⟨_, SqT.of (by assumption), rfl⟩, ?_⟩))
          refine ⟨(by show 2 ≤ sizeLine; rw [sizeLine_eq]; omega), fun t nt => ?_⟩
          (repeat (first | refine ⟨_, rfl, ?_⟩ | refine ⟨rfl, ?_⟩ | refine ⟨_, _, rfl, rfl, ?_⟩ | refine iteT ?_ | refine iteF ?_ | refine ⟨(by show (0 : Int) < _; omega), ?_⟩ | refine ⟨(⟨by omega, by omega⟩ : CDiv _ _), ?_⟩ | refine ⟨(⟨by decide, by decide, by decide⟩ : CPow _ _), ?_⟩ | refine ⟨(.inl ⟨by omega, by omega⟩ : CMul _ _), ?_⟩ | refine ⟨(.inr ⟨by omega, by omega⟩ : CMul _ _), ?_⟩ | refine Or.inl ⟨_, rfl, ?_⟩ | refine Or.inr ⟨_, rfl, ?_⟩ | refine ⟨_, _, _, _, true, rfl, .ty _, .base (.str _), kit_ty (by decide +kernel), ?_⟩ | refine ⟨_, _, rfl, ⟨by rw [sizeLine_eq]; omega, rfl⟩, ?_⟩ | refine ⟨_, _, rfl, .inl ⟨_, SqL.of (by assumption), rfl⟩, ?_⟩ | refine ⟨_, _, rfl, .inr ⟨_, SqT.of (by assumption), rfl⟩, ?_⟩))
          exact k t _ _ _ _ upd_same (fi.lay nt)
        · have fi := hh.mono
          (repeat (first | refine ⟨_, rfl, ?_⟩ | refine ⟨rfl, ?_⟩ | refine ⟨_, _, rfl, rfl, ?_⟩ | refine iteT ?_ | refine iteF ?_ | refine ⟨(by show (0 : Int) < _; omega), ?_⟩ | refine ⟨(⟨by omega, by omega⟩ : CDiv _ _), ?_⟩ | refine ⟨(⟨by decide, by decide, by decide⟩ : CPow _ _), ?_⟩ | refine ⟨(.inl ⟨by omega, by omega⟩ : CMul _ _), ?_⟩ | refine ⟨(.inr ⟨by omega, by omega⟩ : CMul _ _), ?_⟩ | refine Or.inl ⟨_, rfl, ?_⟩ | refine Or.inr ⟨_, rfl, ?_⟩ | refine ⟨_, _, _, _, true, rfl, .ty _, .base (.str _), kit_ty (by decide +kernel), ?_⟩ | refine ⟨_, _, rfl, ⟨by rw [sizeLine_eq]; omega, rfl⟩, ?_⟩ | refine ⟨_, _, rfl, .inl ⟨_, SqL.of (by assumption), rfl⟩, ?_⟩ | refine ⟨_, _, rfl, .inr ⟨_, SqT.of (by assumption), rfl⟩, ?_⟩))
          refine ⟨(by show 2 ≤ sizeLine; rw [sizeLine_eq]; omega), fun t nt => ?_⟩
          (repeat (first | refine ⟨_, rfl, ?_⟩ | refine ⟨rfl, ?_⟩ | refine ⟨_, _, rfl, rfl, ?_⟩ | refine iteT ?_ | refine iteF ?_ | refine ⟨(by show (0 : Int) < _; omega), ?_⟩ | refine ⟨(⟨by omega, by omega⟩ : CDiv _ _), ?_⟩ | refine ⟨(⟨by decide, by decide, by decide⟩ : CPow _ _), ?_⟩ | refine ⟨(.inl ⟨by omega, by omega⟩ : CMul _ _), ?_⟩ | refine ⟨(.inr ⟨by omega, by omega⟩ : CMul _ _), ?_⟩ | refine Or.inl ⟨_, rfl, ?_⟩ | refine Or.inr ⟨_, rfl, ?_⟩ | refine ⟨_, _, _, _, true, rfl, .ty _, .base (.str _), kit_ty (by decide +kernel), ?_⟩ | refine ⟨_, _, rfl, ⟨by rw [sizeLine_eq]; omega, rfl⟩, ?_⟩ | refine ⟨_, _, rfl, .inl ⟨_, SqL.of (by assumption), rfl⟩, ?_⟩ | refine ⟨_, _, rfl, .inr ⟨_, SqT.of (by assumption), rfl⟩, ?_⟩))
          exact k t _ _ _ _ upd_same (fi.lay nt)
    · (repeat (first | refine ⟨_, rfl, ?_⟩ | refine ⟨rfl, ?_⟩ | refine ⟨_, _, rfl, rfl, ?_⟩ | refine iteT ?_ | refine iteF ?_ | refine ⟨(by show (0 : Int) < _; omega), ?_⟩ | refine ⟨(⟨by omega, by omega⟩ : CDiv _ _), ?_⟩ | refine ⟨(⟨by decide, by decide, by decide⟩ : CPow _ _), ?_⟩ | refine ⟨(.inl ⟨by omega, by omega⟩ : CMul _ _), ?_⟩ | refine ⟨(.inr ⟨by omega, by omega⟩ : CMul _ _), ?_⟩ | refine Or.inl ⟨_, rfl, ?_⟩ | refine Or.inr ⟨_, rfl, ?_⟩ | refine ⟨_, _, _, _, true, rfl, .ty _, .base (.str _), kit_ty (by decide +kernel), ?_⟩ | refine ⟨_, _, rfl, ⟨by rw [sizeLine_eq]; omega, rfl⟩, ?_⟩ | refine ⟨_, _, rfl, .inl ⟨_, SqL.of (by assumption), rfl⟩, ?_⟩ | refine ⟨_, _, rfl, .inr ⟨_, SqT.of (by assumption), rfl⟩, ?_⟩))
      refine ⟨Nat.zero_le _, fun y0 ny0 => ?_⟩
      have g0 := h.lay (o := .lst []) ny0
      have e0 : upd H3 y0 (.lst []) y0 = some (.lst (([] : List Str).map V.str)) := upd_same
      have y0w : y0 ≠ wl := h.hw.ne ny0
      generalize hGa : upd H3 y0 (.lst []) = Ga at *
      (repeat (first | refine ⟨_, rfl, ?_⟩ | refine ⟨rfl, ?_⟩ | refine ⟨_, _, rfl, rfl, ?_⟩ | refine iteT ?_ | refine iteF ?_ | refine ⟨(by show (0 : Int) < _; omega), ?_⟩ | refine ⟨(⟨by omega, by omega⟩ : CDiv _ _), ?_⟩ | refine ⟨(⟨by decide, by decide, by decide⟩ : CPow _ _), ?_⟩ | refine ⟨(.inl ⟨by omega, by omega⟩ : CMul _ _), ?_⟩ | refine ⟨(.inr ⟨by omega, by omega⟩ : CMul _ _), ?_⟩ | refine Or.inl ⟨_, rfl, ?_⟩ | refine Or.inr ⟨_, rfl, ?_⟩ | refine ⟨_, _, _, _, true, rfl, .ty _, .base (.str _), kit_ty (by decide +kernel), ?_⟩ | refine ⟨_, _, rfl, ⟨by rw [sizeLine_eq]; omega, rfl⟩, ?_⟩ | refine ⟨_, _, rfl, .inl ⟨_, SqL.of (by assumption), rfl⟩, ?_⟩ | refine ⟨_, _, rfl, .inr ⟨_, SqT.of (by assumption), rfl⟩, ?_⟩))
      refine ⟨(by show 2 ≤ sizeLine; rw [sizeLine_eq]; omega), fun y1 ny1 => ?_⟩
      have y1w : y1 ≠ wl := g0.hw.ne ny1
      have g1 := g0.lay (o := .lst [V.str "zzzzzzzz", V.str odd]) ny1
      have e1 : upd Ga y1 (.lst [V.str "zzzzzzzz", V.str odd]) y1 = some (.lst ((["zzzzzzzz", odd] : List Str).map V.str)) := upd_same
      have e01 : upd Ga y1 (.lst [V.str "zzzzzzzz", V.str odd]) y0 = _ := (upd_ne (ne_of_none e0 ny1)).trans e0
      generalize hGb : upd Ga y1 (.lst [V.str "zzzzzzzz", V.str odd]) = Gb at *
      (repeat (first | refine ⟨_, rfl, ?_⟩ | refine ⟨rfl, ?_⟩ | refine ⟨_, _, rfl, rfl, ?_⟩ | refine iteT ?_ | refine iteF ?_ | refine ⟨(by show (0 : Int) < _; omega), ?_⟩ | refine ⟨(⟨by omega, by omega⟩ : CDiv _ _), ?_⟩ | refine ⟨(⟨by decide, by decide, by decide⟩ : CPow _ _), ?_⟩ | refine ⟨(.inl ⟨by omega, by omega⟩ : CMul _ _), ?_⟩ | refine ⟨(.inr ⟨by omega, by omega⟩ : CMul _ _), ?_⟩ | refine Or.inl ⟨_, rfl, ?_⟩ | refine Or.inr ⟨_, rfl, ?_⟩ | refine ⟨_, _, _, _, true, rfl, .ty _, .base (.str _), kit_ty (by decide +kernel), ?_⟩ | refine ⟨_, _, rfl, ⟨by rw [sizeLine_eq]; omega, rfl⟩, ?_⟩ | refine ⟨_, _, rfl, .inl ⟨_, SqL.of (by assumption), rfl⟩, ?_⟩ | refine ⟨_, _, rfl, .inr ⟨_, SqT.of (by assumption), rfl⟩, ?_⟩))
      refine ⟨sc, wl, 2, ns, rfl, g1.hs, g1.hw, by omega, by omega, hn, fun n5 H5 a5 b5 k5 => ?_⟩
      have g := g1.kp k5
      obtain ⟨x, hx, ex⟩ := at_strs (xs := (["zzzzzzzz", odd] : List Str)) a5 b5
      have wx : Wd x := by
        rcases List.mem_cons.mp hx with e | e
        · rw [e]
          exact wd_by (by decide +kernel) (by decide +kernel)
        · rw [List.mem_singleton.mp e]
          exact wo
      refine ⟨y1, _, n5, _, rfl, rfl, SqL.of (k5.keep _ _ y1w e1), ex, ?_⟩
      obtain ⟨kvs, hd, R⟩ := g.ex
      refine ⟨d, _, rfl, .inl ⟨kvs, .inr x, hd, rfl, small1000 (by rw [R.length]; have := g.sz.lr; omega), rfl⟩, ?_⟩
      have fi := g.dput (n := x) R y0w (k5.keep _ _ y0w e01) wx (Nat.zero_le _) fun u hu => by cases hu
      (repeat (first | refine ⟨_, rfl, ?_⟩ | refine ⟨rfl, ?_⟩ | refine ⟨_, _, rfl, rfl, ?_⟩ | refine iteT ?_ | refine iteF ?_ | refine ⟨(by show (0 : Int) < _; omega), ?_⟩ | refine ⟨(⟨by omega, by omega⟩ : CDiv _ _), ?_⟩ | refine ⟨(⟨by decide, by decide, by decide⟩ : CPow _ _), ?_⟩ | refine ⟨(.inl ⟨by omega, by omega⟩ : CMul _ _), ?_⟩ | refine ⟨(.inr ⟨by omega, by omega⟩ : CMul _ _), ?_⟩ | refine Or.inl ⟨_, rfl, ?_⟩ | refine Or.inr ⟨_, rfl, ?_⟩ | refine ⟨_, _, _, _, true, rfl, .ty _, .base (.str _), kit_ty (by decide +kernel), ?_⟩ | refine ⟨_, _, rfl, ⟨by rw [sizeLine_eq]; omega, rfl⟩, ?_⟩ | refine ⟨_, _, rfl, .inl ⟨_, SqL.of (by assumption), rfl⟩, ?_⟩ | refine ⟨_, _, rfl, .inr ⟨_, SqT.of (by assumption), rfl⟩, ?_⟩))
      refine ⟨(by show 2 ≤ sizeLine; rw [sizeLine_eq]; omega), fun t nt => ?_⟩
      (repeat (first | refine ⟨_, rfl, ?_⟩ | refine ⟨rfl, ?_⟩ | refine ⟨_, _, rfl, rfl, ?_⟩ | refine iteT ?_ | refine iteF ?_ | refine ⟨(by show (0 : Int) < _; omega), ?_⟩ | refine ⟨(⟨by omega, by omega⟩ : CDiv _ _), ?_⟩ | refine ⟨(⟨by decide, by decide, by decide⟩ : CPow _ _), ?_⟩ | refine ⟨(.inl ⟨by omega, by omega⟩ : CMul _ _), ?_⟩ | refine ⟨(.inr ⟨by omega, by omega⟩ : CMul _ _), ?_⟩ | refine Or.inl ⟨_, rfl, ?_⟩ | refine Or.inr ⟨_, rfl, ?_⟩ | refine ⟨_, _, _, _, true, rfl, .ty _, .base (.str _), kit_ty (by decide +kernel), ?_⟩ | refine ⟨_, _, rfl, ⟨by rw [sizeLine_eq]; omega, rfl⟩, ?_⟩ | refine ⟨_, _, rfl, .inl ⟨_, SqL.of (by assumption), rfl⟩, ?_⟩ | refine ⟨_, _, rfl, .inr ⟨_, SqT.of (by assumption), rfl⟩, ?_⟩))
      exact k t _ _ _ _ upd_same (fi.lay nt)
    · (repeat (first | refine ⟨_, rfl, ?_⟩ | refine ⟨rfl, ?_⟩ | refine ⟨_, _, rfl, rfl, ?_⟩ | refine iteT ?_ | refine iteF ?_ | refine ⟨(by show (0 : Int) < _; omega), ?_⟩ | refine ⟨(⟨by omega, by omega⟩ : CDiv _ _), ?_⟩ | refine ⟨(⟨by decide, by decide, by decide⟩ : CPow _ _), ?_⟩ | refine ⟨(.inl ⟨by omega, by omega⟩ : CMul _ _), ?_⟩ | refine ⟨(.inr ⟨by omega, by omega⟩ : CMul _ _), ?_⟩ | refine Or.inl ⟨_, rfl, ?_⟩ | refine Or.inr ⟨_, rfl, ?_⟩ | refine ⟨_, _, _, _, true, rfl, .ty _, .base (.str _), kit_ty (by decide +kernel), ?_⟩ | refine ⟨_, _, rfl, ⟨by rw [sizeLine_eq]; omega, rfl⟩, ?_⟩ | refine ⟨_, _, rfl, .inl ⟨_, SqL.of (by assumption), rfl⟩, ?_⟩ | refine ⟨_, _, rfl, .inr ⟨_, SqT.of (by assumption), rfl⟩, ?_⟩))
      -- people != []
      refine ⟨Nat.zero_le _, fun y0 ny0 => ?_⟩
      have h0' := h.lay (o := .lst []) ny0
      refine ⟨_, _, dp_strs h0'.ha, dp_strs (ps := []) upd_same, shaped_strs (fun x hx => (h.sz.sp x hx).ok), shaped_strs (fun _ h => by cases h), ?_⟩
      rw [eqv_strs]
      clear h
      generalize hGe : upd H3 y0 (.lst []) = He at *
      have h := h0'
      clear h0' hGe
      by_cases hne : ps = []
      · rw [decide_eq_true hne]
        have fi := h.mono
        (repeat (first | refine ⟨_, rfl, ?_⟩ | refine ⟨rfl, ?_⟩ | refine ⟨_, _, rfl, rfl, ?_⟩ | refine iteT ?_ | refine iteF ?_ | refine ⟨(by show (0 : Int) < _; omega), ?_⟩ | refine ⟨(⟨by omega, by omega⟩ : CDiv _ _), ?_⟩ | refine ⟨(⟨by decide, by decide, by decide⟩ : CPow _ _), ?_⟩ | refine ⟨(.inl ⟨by omega, by omega⟩ : CMul _ _), ?_⟩ | refine ⟨(.inr ⟨by omega, by omega⟩ : CMul _ _), ?_⟩ | refine Or.inl ⟨_, rfl, ?_⟩ | refine Or.inr ⟨_, rfl, ?_⟩ | refine ⟨_, _, _, _, true, rfl, .ty _, .base (.str _), kit_ty (by decide +kernel), ?_⟩ | refine ⟨_, _, rfl, ⟨by rw [sizeLine_eq]; omega, rfl⟩, ?_⟩ | refine ⟨_, _, rfl, .inl ⟨_, SqL.of (by assumption), rfl⟩, ?_⟩ | refine ⟨_, _, rfl, .inr ⟨_, SqT.of (by assumption), rfl⟩, ?_⟩))
        refine ⟨(by show 2 ≤ sizeLine; rw [sizeLine_eq]; omega), fun t nt => ?_⟩
        (repeat (first | refine ⟨_, rfl, ?_⟩ | refine ⟨rfl, ?_⟩ | refine ⟨_, _, rfl, rfl, ?_⟩ | refine iteT ?_ | refine iteF ?_ | refine ⟨(by show (0 : Int) < _; omega), ?_⟩ | refine ⟨(⟨by omega, by omega⟩ : CDiv _ _), ?_⟩ | refine ⟨(⟨by decide, by decide, by decide⟩ : CPow _ _), ?_⟩ | refine ⟨(.inl ⟨by omega, by omega⟩ : CMul _ _), ?_⟩ | refine ⟨(.inr ⟨by omega, by omega⟩ : CMul _ _), ?_⟩ | refine Or.inl ⟨_, rfl, ?_⟩ | refine Or.inr ⟨_, rfl, ?_⟩ | refine ⟨_, _, _, _, true, rfl, .ty _, .base (.str _), kit_ty (by decide +kernel), ?_⟩ | refine ⟨_, _, rfl, ⟨by rw [sizeLine_eq]; omega, rfl⟩, ?_⟩ | refine ⟨_, _, rfl, .inl ⟨_, SqL.of (by assumption), rfl⟩, ?_⟩ | refine ⟨_, _, rfl, .inr ⟨_, SqT.of (by assumption), rfl⟩, ?_⟩))
        exact k t _ _ _ _ upd_same (fi.lay nt)
      · rw [decide_eq_false hne]
        -- people[take(len(people))]
        have hah := h.ha
        have l1 : 1 ≤ ps.length := List.length_pos_iff.mpr hne
        (repeat (first | refine ⟨_, rfl, ?_⟩ | refine ⟨rfl, ?_⟩ | refine ⟨_, _, rfl, rfl, ?_⟩ | refine iteT ?_ | refine iteF ?_ | refine ⟨(by show (0 : Int) < _; omega), ?_⟩ | refine ⟨(⟨by omega, by omega⟩ : CDiv _ _), ?_⟩ | refine ⟨(⟨by decide, by decide, by decide⟩ : CPow _ _), ?_⟩ | refine ⟨(.inl ⟨by omega, by omega⟩ : CMul _ _), ?_⟩ | refine ⟨(.inr ⟨by omega, by omega⟩ : CMul _ _), ?_⟩ | refine Or.inl ⟨_, rfl, ?_⟩ | refine Or.inr ⟨_, rfl, ?_⟩ | refine ⟨_, _, _, _, true, rfl, .ty _, .base (.str _), kit_ty (by decide +kernel), ?_⟩ | refine ⟨_, _, rfl, ⟨by rw [sizeLine_eq]; omega, rfl⟩, ?_⟩ | refine ⟨_, _, rfl, .inl ⟨_, SqL.of (by assumption), rfl⟩, ?_⟩ | refine ⟨_, _, rfl, .inr ⟨_, SqT.of (by assumption), rfl⟩, ?_⟩))
        refine ⟨sc, wl, _, ns, rfl, h.hs, h.hw, (by rw [List.length_map]; omega), (by have := h.sz.lp; rw [List.length_map]; omega), hn, fun n5 H5 a5 b5 k5 => ?_⟩
        rw [List.length_map] at b5
        obtain ⟨x, hx, ex⟩ := at_strs a5 b5
        have wx : Wd x := h.sz.sp x hx
        -- person = ..; if person in lists: row = lists[person]; more = [odd]
        refine ⟨a, _, n5, _, rfl, rfl, SqL.of (h.kp k5).ha, ex, ?_⟩
        have hh := h.kp k5
        clear h hah
        refine g_name ?_
        try dsimp only
        (repeat (first | refine ⟨_, rfl, ?_⟩ | refine ⟨rfl, ?_⟩ | refine ⟨_, _, rfl, rfl, ?_⟩ | refine iteT ?_ | refine iteF ?_ | refine ⟨(by show (0 : Int) < _; omega), ?_⟩ | refine ⟨(⟨by omega, by omega⟩ : CDiv _ _), ?_⟩ | refine ⟨(⟨by decide, by decide, by decide⟩ : CPow _ _), ?_⟩ | refine ⟨(.inl ⟨by omega, by omega⟩ : CMul _ _), ?_⟩ | refine ⟨(.inr ⟨by omega, by omega⟩ : CMul _ _), ?_⟩ | refine Or.inl ⟨_, rfl, ?_⟩ | refine Or.inr ⟨_, rfl, ?_⟩ | refine ⟨_, _, _, _, true, rfl, .ty _, .base (.str _), kit_ty (by decide +kernel), ?_⟩ | refine ⟨_, _, rfl, ⟨by rw [sizeLine_eq]; omega, rfl⟩, ?_⟩ | refine ⟨_, _, rfl, .inl ⟨_, SqL.of (by assumption), rfl⟩, ?_⟩ | refine ⟨_, _, rfl, .inr ⟨_, SqT.of (by assumption), rfl⟩, ?_⟩))
        obtain ⟨kvs, hd, R⟩ := hh.ex
        have g := R.get x
        cases lk : rows.lookup x with
        | none =>
          rw [lk] at g
          refine ⟨d, none, rfl, .inl ⟨kvs, .inr x, .inl hd, rfl, g.symm⟩, ?_⟩
          have fi := hh.mono
          (repeat (first | refine ⟨_, rfl, ?_⟩ | refine ⟨rfl, ?_⟩ | refine ⟨_, _, rfl, rfl, ?_⟩ | refine iteT ?_ | refine iteF ?_ | refine ⟨(by show (0 : Int) < _; omega), ?_⟩ | refine ⟨(⟨by omega, by omega⟩ : CDiv _ _), ?_⟩ | refine ⟨(⟨by decide, by decide, by decide⟩ : CPow _ _), ?_⟩ | refine ⟨(.inl ⟨by omega, by omega⟩ : CMul _ _), ?_⟩ | refine ⟨(.inr ⟨by omega, by omega⟩ : CMul _ _), ?_⟩ | refine Or.inl ⟨_, rfl, ?_⟩ | refine Or.inr ⟨_, rfl, ?_⟩ | refine ⟨_, _, _, _, true, rfl, .ty _, .base (.str _), kit_ty (by decide +kernel), ?_⟩ | refine ⟨_, _, rfl, ⟨by rw [sizeLine_eq]; omega, rfl⟩, ?_⟩ | refine ⟨_, _, rfl, .inl ⟨_, SqL.of (by assumption), rfl⟩, ?_⟩ | refine ⟨_, _, rfl, .inr ⟨_, SqT.of (by assumption), rfl⟩, ?_⟩))
          refine ⟨(by show 2 ≤ sizeLine; rw [sizeLine_eq]; omega), fun t nt => ?_⟩
          (repeat (first | refine ⟨_, rfl, ?_⟩ | refine ⟨rfl, ?_⟩ | refine ⟨_, _, rfl, rfl, ?_⟩ | refine iteT ?_ | refine iteF ?_ | refine ⟨(by show (0 : Int) < _; omega), ?_⟩ | refine ⟨(⟨by omega, by omega⟩ : CDiv _ _), ?_⟩ | refine ⟨(⟨by decide, by decide, by decide⟩ : CPow _ _), ?_⟩ | refine ⟨(.inl ⟨by omega, by omega⟩ : CMul _ _), ?_⟩ | refine ⟨(.inr ⟨by omega, by omega⟩ : CMul _ _), ?_⟩ | refine Or.inl ⟨_, rfl, ?_⟩ | refine Or.inr ⟨_, rfl, ?_⟩ | refine ⟨_, _, _, _, true, rfl, .ty _, .base (.str _), kit_ty (by decide +kernel), ?_⟩ | refine ⟨_, _, rfl, ⟨by rw [sizeLine_eq]; omega, rfl⟩, ?_⟩ | refine ⟨_, _, rfl, .inl ⟨_, SqL.of (by assumption), rfl⟩, ?_⟩ | refine ⟨_, _, rfl, .inr ⟨_, SqT.of (by assumption), rfl⟩, ?_⟩))
          exact k t _ _ _ _ upd_same (fi.lay nt)
        | some ws =>
          rw [lk] at g
          obtain ⟨rl, g1, g2, hrl⟩ := g
          have lws : ws.length ≤ 24 + 26 * j := (hh.sz.sr _ (mem_of_look lk)).2.1
          have get1 : DGet H5 d (.str x) (some (.ref rl)) := .inl ⟨kvs, .inr x, .inl hd, rfl, g1.symm⟩
          refine ⟨d, some (.ref rl), rfl, get1, ?_⟩
          (repeat (first | refine ⟨_, rfl, ?_⟩ | refine ⟨rfl, ?_⟩ | refine ⟨_, _, rfl, rfl, ?_⟩ | refine iteT ?_ | refine iteF ?_ | refine ⟨(by show (0 : Int) < _; omega), ?_⟩ | refine ⟨(⟨by omega, by omega⟩ : CDiv _ _), ?_⟩ | refine ⟨(⟨by decide, by decide, by decide⟩ : CPow _ _), ?_⟩ | refine ⟨(.inl ⟨by omega, by omega⟩ : CMul _ _), ?_⟩ | refine ⟨(.inr ⟨by omega, by omega⟩ : CMul _ _), ?_⟩ | refine Or.inl ⟨_, rfl, ?_⟩ | refine Or.inr ⟨_, rfl, ?_⟩ | refine ⟨_, _, _, _, true, rfl, .ty _, .base (.str _), kit_ty (by decide +kernel), ?_⟩ | refine ⟨_, _, rfl, ⟨by rw [sizeLine_eq]; omega, rfl⟩, ?_⟩ | refine ⟨_, _, rfl, .inl ⟨_, SqL.of (by assumption), rfl⟩, ?_⟩ | refine ⟨_, _, rfl, .inr ⟨_, SqT.of (by assumption), rfl⟩, ?_⟩))
          refine ⟨d, .ref rl, rfl, get1, ?_⟩
          refine g_name ?_
          try dsimp only
          refine seq_asg ?_
          (repeat (first | refine ⟨_, rfl, ?_⟩ | refine ⟨rfl, ?_⟩ | refine ⟨_, _, rfl, rfl, ?_⟩ | refine iteT ?_ | refine iteF ?_ | refine ⟨(by show (0 : Int) < _; omega), ?_⟩ | refine ⟨(⟨by omega, by omega⟩ : CDiv _ _), ?_⟩ | refine ⟨(⟨by decide, by decide, by decide⟩ : CPow _ _), ?_⟩ | refine ⟨(.inl ⟨by omega, by omega⟩ : CMul _ _), ?_⟩ | refine ⟨(.inr ⟨by omega, by omega⟩ : CMul _ _), ?_⟩ | refine Or.inl ⟨_, rfl, ?_⟩ | refine Or.inr ⟨_, rfl, ?_⟩ | refine ⟨_, _, _, _, true, rfl, .ty _, .base (.str _), kit_ty (by decide +kernel), ?_⟩ | refine ⟨_, _, rfl, ⟨by rw [sizeLine_eq]; omega, rfl⟩, ?_⟩ | refine ⟨_, _, rfl, .inl ⟨_, SqL.of (by assumption), rfl⟩, ?_⟩ | refine ⟨_, _, rfl, .inr ⟨_, SqT.of (by assumption), rfl⟩, ?_⟩))
          refine ⟨(by show 1 ≤ sizeLine; rw [sizeLine_eq]; omega), fun yo nyo => ?_⟩
          have so := Same.new (o := .lst [V.str odd]) nyo
          have ho : upd H5 yo (.lst [V.str odd]) yo = some (.lst ([odd].map V.str)) := upd_same
          generalize hGo : upd H5 yo (.lst [V.str odd]) = Go at *
          refine g_name ?_
          try dsimp only
          (repeat (first | refine ⟨_, rfl, ?_⟩ | refine ⟨rfl, ?_⟩ | refine ⟨_, _, rfl, rfl, ?_⟩ | refine iteT ?_ | refine iteF ?_ | refine ⟨(by show (0 : Int) < _; omega), ?_⟩ | refine ⟨(⟨by omega, by omega⟩ : CDiv _ _), ?_⟩ | refine ⟨(⟨by decide, by decide, by decide⟩ : CPow _ _), ?_⟩ | refine ⟨(.inl ⟨by omega, by omega⟩ : CMul _ _), ?_⟩ | refine ⟨(.inr ⟨by omega, by omega⟩ : CMul _ _), ?_⟩ | refine Or.inl ⟨_, rfl, ?_⟩ | refine Or.inr ⟨_, rfl, ?_⟩ | refine ⟨_, _, _, _, true, rfl, .ty _, .base (.str _), kit_ty (by decide +kernel), ?_⟩ | refine ⟨_, _, rfl, ⟨by rw [sizeLine_eq]; omega, rfl⟩, ?_⟩ | refine ⟨_, _, rfl, .inl ⟨_, SqL.of (by assumption), rfl⟩, ?_⟩ | refine ⟨_, _, rfl, .inr ⟨_, SqT.of (by assumption), rfl⟩, ?_⟩))
          refine ⟨Nat.zero_le _, fun y0 ny0 => ?_⟩
          have s0 := Same.put (o := .lst []) so (so.free ny0)
          have o0 : upd Go y0 (.lst []) yo = _ := (upd_ne (ne_of_none ho ny0)).trans ho
          refine ⟨_, _, dp_strs (s0 _ _ hrl), dp_strs (ps := []) upd_same, shaped_strs (fun u hu => ((hh.sz.sr _ (mem_of_look lk)).2.2 u hu).ok), shaped_strs (fun _ h => by cases h), ?_⟩
          rw [eqv_strs]
          clear so ho
          have so := s0
          have ho := o0
          clear s0 o0 hGo
          generalize hGx : upd Go y0 (.lst []) = Gx at *
          obtain ⟨Go, rfl⟩ : ∃ G, G = Gx := ⟨_, rfl⟩
          by_cases hwe : ws = []
          · rw [decide_eq_true hwe]
            (repeat (first | refine ⟨_, rfl, ?_⟩ | refine ⟨rfl, ?_⟩ | refine ⟨_, _, rfl, rfl, ?_⟩ | refine iteT ?_ | refine iteF ?_ | refine ⟨(by show (0 : Int) < _; omega), ?_⟩ | refine ⟨(⟨by omega, by omega⟩ : CDiv _ _), ?_⟩ | refine ⟨(⟨by decide, by decide, by decide⟩ : CPow _ _), ?_⟩ | refine ⟨(.inl ⟨by omega, by omega⟩ : CMul _ _), ?_⟩ | refine ⟨(.inr ⟨by omega, by omega⟩ : CMul _ _), ?_⟩ | refine Or.inl ⟨_, rfl, ?_⟩ | refine Or.inr ⟨_, rfl, ?_⟩ | refine ⟨_, _, _, _, true, rfl, .ty _, .base (.str _), kit_ty (by decide +kernel), ?_⟩ | refine ⟨_, _, rfl, ⟨by rw [sizeLine_eq]; omega, rfl⟩, ?_⟩ | refine ⟨_, _, rfl, .inl ⟨_, SqL.of (by assumption), rfl⟩, ?_⟩ | refine ⟨_, _, rfl, .inr ⟨_, SqT.of (by assumption), rfl⟩, ?_⟩))
            obtain ⟨G, rfl⟩ : ∃ G, G = Go := ⟨_, rfl⟩
            have sg := so
            obtain ⟨y, rfl⟩ : ∃ y, y = yo := ⟨_, rfl⟩
            obtain ⟨more, em⟩ : ∃ more : List Str, more = [odd] := ⟨_, rfl⟩
            have hy := ho
            rw [← em] at hy
            have lm : more.length ≤ 26 := by rw [em]; show 1 ≤ 26; omega
            have wm : ∀ u ∈ more, Wd u := fun u hu => by
              rw [em] at hu
              rw [List.mem_singleton.mp hu]
              exact wo
            (repeat (first | refine ⟨_, rfl, ?_⟩ | refine ⟨rfl, ?_⟩ | refine ⟨_, _, rfl, rfl, ?_⟩ | refine iteT ?_ | refine iteF ?_ | refine ⟨(by show (0 : Int) < _; omega), ?_⟩ | refine ⟨(⟨by omega, by omega⟩ : CDiv _ _), ?_⟩ | refine ⟨(⟨by decide, by decide, by decide⟩ : CPow _ _), ?_⟩ | refine ⟨(.inl ⟨by omega, by omega⟩ : CMul _ _), ?_⟩ | refine ⟨(.inr ⟨by omega, by omega⟩ : CMul _ _), ?_⟩ | refine Or.inl ⟨_, rfl, ?_⟩ | refine Or.inr ⟨_, rfl, ?_⟩ | refine ⟨_, _, _, _, true, rfl, .ty _, .base (.str _), kit_ty (by decide +kernel), ?_⟩ | refine ⟨_, _, rfl, ⟨by rw [sizeLine_eq]; omega, rfl⟩, ?_⟩ | refine ⟨_, _, rfl, .inl ⟨_, SqL.of (by assumption), rfl⟩, ?_⟩ | refine ⟨_, _, rfl, .inr ⟨_, SqT.of (by assumption), rfl⟩, ?_⟩))
            -- lists[person] = row + more, more at y
            refine ⟨rl, y, _, _, rfl, rfl, sg _ _ hrl, hy, (by rw [List.length_map, List.length_map, sizeLine_eq]; omega), fun q nq => ?_⟩
            rw [← List.map_append]
            have sq := Same.put (o := .lst ((ws ++ more).map V.str)) sg (sg.free nq)
            have hq : upd G q (.lst ((ws ++ more).map V.str)) q = _ := upd_same
            generalize hGq : upd G q (.lst ((ws ++ more).map V.str)) = Gq at *
            have gq := hh.same sq
            have qw : q ≠ wl := hh.hw.ne (sg.free nq)
            have Rq := R.same sq
            (repeat (first | refine ⟨_, rfl, ?_⟩ | refine ⟨rfl, ?_⟩ | refine ⟨_, _, rfl, rfl, ?_⟩ | refine iteT ?_ | refine iteF ?_ | refine ⟨(by show (0 : Int) < _; omega), ?_⟩ | refine ⟨(⟨by omega, by omega⟩ : CDiv _ _), ?_⟩ | refine ⟨(⟨by decide, by decide, by decide⟩ : CPow _ _), ?_⟩ | refine ⟨(.inl ⟨by omega, by omega⟩ : CMul _ _), ?_⟩ | refine ⟨(.inr ⟨by omega, by omega⟩ : CMul _ _), ?_⟩ | refine Or.inl ⟨_, rfl, ?_⟩ | refine Or.inr ⟨_, rfl, ?_⟩ | refine ⟨_, _, _, _, true, rfl, .ty _, .base (.str _), kit_ty (by decide +kernel), ?_⟩ | refine ⟨_, _, rfl, ⟨by rw [sizeLine_eq]; omega, rfl⟩, ?_⟩ | refine ⟨_, _, rfl, .inl ⟨_, SqL.of (by assumption), rfl⟩, ?_⟩ | refine ⟨_, _, rfl, .inr ⟨_, SqT.of (by assumption), rfl⟩, ?_⟩))
            refine ⟨d, _, rfl, .inl ⟨kvs, .inr x, sq _ _ hd, rfl, small1000 (by rw [R.length]; have := hh.sz.lr; omega), rfl⟩, ?_⟩
            have fi := gq.dput (n := x) Rq qw hq wx (by rw [List.length_append]; omega) fun u hu => by
              rcases List.mem_append.mp hu with hu | hu
              · exact (hh.sz.sr _ (mem_of_look lk)).2.2 u hu
              · exact wm u hu
            (repeat (first | refine ⟨_, rfl, ?_⟩ | refine ⟨rfl, ?_⟩ | refine ⟨_, _, rfl, rfl, ?_⟩ | refine iteT ?_ | refine iteF ?_ | refine ⟨(by show (0 : Int) < _; omega), ?_⟩ | refine ⟨(⟨by omega, by omega⟩ : CDiv _ _), ?_⟩ | refine ⟨(⟨by decide, by decide, by decide⟩ : CPow _ _), ?_⟩ | refine ⟨(.inl ⟨by omega, by omega⟩ : CMul _ _), ?_⟩ | refine ⟨(.inr ⟨by omega, by omega⟩ : CMul _ _), ?_⟩ | refine Or.inl ⟨_, rfl, ?_⟩ | refine Or.inr ⟨_, rfl, ?_⟩ | refine ⟨_, _, _, _, true, rfl, .ty _, .base (.str _), kit_ty (by decide +kernel), ?_⟩ | refine ⟨_, _, rfl, ⟨by rw [sizeLine_eq]; omega, rfl⟩, ?_⟩ | refine ⟨_, _, rfl, .inl ⟨_, SqL.of (by assumption), rfl⟩, ?_⟩ | refine ⟨_, _, rfl, .inr ⟨_, SqT.of (by assumption), rfl⟩, ?_⟩))
            refine ⟨(by show 2 ≤ sizeLine; rw [sizeLine_eq]; omega), fun t nt => ?_⟩
            (repeat (first | refine ⟨_, rfl, ?_⟩ | refine ⟨rfl, ?_⟩ | refine ⟨_, _, rfl, rfl, ?_⟩ | refine iteT ?_ | refine iteF ?_ | refine ⟨(by show (0 : Int) < _; omega), ?_⟩ | refine ⟨(⟨by omega, by omega⟩ : CDiv _ _), ?_⟩ | refine ⟨(⟨by decide, by decide, by decide⟩ : CPow _ _), ?_⟩ | refine ⟨(.inl ⟨by omega, by omega⟩ : CMul _ _), ?_⟩ | refine ⟨(.inr ⟨by omega, by omega⟩ : CMul _ _), ?_⟩ | refine Or.inl ⟨_, rfl, ?_⟩ | refine Or.inr ⟨_, rfl, ?_⟩ | refine ⟨_, _, _, _, true, rfl, .ty _, .base (.str _), kit_ty (by decide +kernel), ?_⟩ | refine ⟨_, _, rfl, ⟨by rw [sizeLine_eq]; omega, rfl⟩, ?_⟩ | refine ⟨_, _, rfl, .inl ⟨_, SqL.of (by assumption), rfl⟩, ?_⟩ | refine ⟨_, _, rfl, .inr ⟨_, SqT.of (by assumption), rfl⟩, ?_⟩))
            exact k t _ _ _ _ upd_same (fi.lay nt)
          · rw [decide_eq_false hwe]
            obtain ⟨u0, wr, ews⟩ : ∃ u0 wr, ws = u0 :: wr := List.exists_cons_of_ne_nil hwe
            (repeat (first | refine ⟨_, rfl, ?_⟩ | refine ⟨rfl, ?_⟩ | refine ⟨_, _, rfl, rfl, ?_⟩ | refine iteT ?_ | refine iteF ?_ | refine ⟨(by show (0 : Int) < _; omega), ?_⟩ | refine ⟨(⟨by omega, by omega⟩ : CDiv _ _), ?_⟩ | refine ⟨(⟨by decide, by decide, by decide⟩ : CPow _ _), ?_⟩ | refine ⟨(.inl ⟨by omega, by omega⟩ : CMul _ _), ?_⟩ | refine ⟨(.inr ⟨by omega, by omega⟩ : CMul _ _), ?_⟩ | refine Or.inl ⟨_, rfl, ?_⟩ | refine Or.inr ⟨_, rfl, ?_⟩ | refine ⟨_, _, _, _, true, rfl, .ty _, .base (.str _), kit_ty (by decide +kernel), ?_⟩ | refine ⟨_, _, rfl, ⟨by rw [sizeLine_eq]; omega, rfl⟩, ?_⟩ | refine ⟨_, _, rfl, .inl ⟨_, SqL.of (by assumption), rfl⟩, ?_⟩ | refine ⟨_, _, rfl, .inr ⟨_, SqT.of (by assumption), rfl⟩, ?_⟩))
            refine ⟨rl, _, 0, V.str u0, rfl, rfl, SqL.of (so _ _ hrl), (by rw [ews]; exact atI_nat (j := 0) rfl), ?_⟩
            (repeat (first | refine ⟨_, rfl, ?_⟩ | refine ⟨rfl, ?_⟩ | refine ⟨_, _, rfl, rfl, ?_⟩ | refine iteT ?_ | refine iteF ?_ | refine ⟨(by show (0 : Int) < _; omega), ?_⟩ | refine ⟨(⟨by omega, by omega⟩ : CDiv _ _), ?_⟩ | refine ⟨(⟨by decide, by decide, by decide⟩ : CPow _ _), ?_⟩ | refine ⟨(.inl ⟨by omega, by omega⟩ : CMul _ _), ?_⟩ | refine ⟨(.inr ⟨by omega, by omega⟩ : CMul _ _), ?_⟩ | refine Or.inl ⟨_, rfl, ?_⟩ | refine Or.inr ⟨_, rfl, ?_⟩ | refine ⟨_, _, _, _, true, rfl, .ty _, .base (.str _), kit_ty (by decide +kernel), ?_⟩ | refine ⟨_, _, rfl, ⟨by rw [sizeLine_eq]; omega, rfl⟩, ?_⟩ | refine ⟨_, _, rfl, .inl ⟨_, SqL.of (by assumption), rfl⟩, ?_⟩ | refine ⟨_, _, rfl, .inr ⟨_, SqT.of (by assumption), rfl⟩, ?_⟩))
            refine ⟨(by show 1 ≤ sizeLine; rw [sizeLine_eq]; omega), fun y ny => ?_⟩
            have sg := Same.put (o := .lst [V.str u0]) so (so.free ny)
            obtain ⟨more, em⟩ : ∃ more : List Str, more = [u0] := ⟨_, rfl⟩
            have hy : upd Go y (.lst [V.str u0]) y = some (.lst (more.map V.str)) := by rw [em]; exact upd_same
            have lm : more.length ≤ 26 := by rw [em]; show 1 ≤ 26; omega
            have wm : ∀ u ∈ more, Wd u := fun u hu => by
              rw [em] at hu
              rw [List.mem_singleton.mp hu]
              exact (hh.sz.sr _ (mem_of_look lk)).2.2 u0 (by rw [ews]; exact List.mem_cons_self ..)
            generalize hGk : upd Go y (.lst [V.str u0]) = G at *
            (repeat (first | refine ⟨_, rfl, ?_⟩ | refine ⟨rfl, ?_⟩ | refine ⟨_, _, rfl, rfl, ?_⟩ | refine iteT ?_ | refine iteF ?_ | refine ⟨(by show (0 : Int) < _; omega), ?_⟩ | refine ⟨(⟨by omega, by omega⟩ : CDiv _ _), ?_⟩ | refine ⟨(⟨by decide, by decide, by decide⟩ : CPow _ _), ?_⟩ | refine ⟨(.inl ⟨by omega, by omega⟩ : CMul _ _), ?_⟩ | refine ⟨(.inr ⟨by omega, by omega⟩ : CMul _ _), ?_⟩ | refine Or.inl ⟨_, rfl, ?_⟩ | refine Or.inr ⟨_, rfl, ?_⟩ | refine ⟨_, _, _, _, true, rfl, .ty _, .base (.str _), kit_ty (by decide +kernel), ?_⟩ | refine ⟨_, _, rfl, ⟨by rw [sizeLine_eq]; omega, rfl⟩, ?_⟩ | refine ⟨_, _, rfl, .inl ⟨_, SqL.of (by assumption), rfl⟩, ?_⟩ | refine ⟨_, _, rfl, .inr ⟨_, SqT.of (by assumption), rfl⟩, ?_⟩))
            -- lists[person] = row + more, more at y
            refine ⟨rl, y, _, _, rfl, rfl, sg _ _ hrl, hy, (by rw [List.length_map, List.length_map, sizeLine_eq]; omega), fun q nq => ?_⟩
            rw [← List.map_append]
            have sq := Same.put (o := .lst ((ws ++ more).map V.str)) sg (sg.free nq)
            have hq : upd G q (.lst ((ws ++ more).map V.str)) q = _ := upd_same
            generalize hGq : upd G q (.lst ((ws ++ more).map V.str)) = Gq at *
            have gq := hh.same sq
            have qw : q ≠ wl := hh.hw.ne (sg.free nq)
            have Rq := R.same sq
            (repeat (first | refine ⟨_, rfl, ?_⟩ | refine ⟨rfl, ?_⟩ | refine ⟨_, _, rfl, rfl, ?_⟩ | refine iteT ?_ | refine iteF ?_ | refine ⟨(by show (0 : Int) < _; omega), ?_⟩ | refine ⟨(⟨by omega, by omega⟩ : CDiv _ _), ?_⟩ | refine ⟨(⟨by decide, by decide, by decide⟩ : CPow _ _), ?_⟩ | refine ⟨(.inl ⟨by omega, by omega⟩ : CMul _ _), ?_⟩ | refine ⟨(.inr ⟨by omega, by omega⟩ : CMul _ _), ?_⟩ | refine Or.inl ⟨_, rfl, ?_⟩ | refine Or.inr ⟨_, rfl, ?_⟩ | refine ⟨_, _, _, _, true, rfl, .ty _, .base (.str _), kit_ty (by decide +kernel), ?_⟩ | refine ⟨_, _, rfl, ⟨by rw [sizeLine_eq]; omega, rfl⟩, ?_⟩ | refine ⟨_, _, rfl, .inl ⟨_, SqL.of (by assumption), rfl⟩, ?_⟩ | refine ⟨_, _, rfl, .inr ⟨_, SqT.of (by assumption), rfl⟩, ?_⟩))
            refine ⟨d, _, rfl, .inl ⟨kvs, .inr x, sq _ _ hd, rfl, small1000 (by rw [R.length]; have := hh.sz.lr; omega), rfl⟩, ?_⟩
            have fi := gq.dput (n := x) Rq qw hq wx (by rw [List.length_append]; omega) fun u hu => by
              rcases List.mem_append.mp hu with hu | hu
              · exact (hh.sz.sr _ (mem_of_look lk)).2.2 u hu
              · exact wm u hu
            (repeat (first | refine ⟨_, rfl, ?_⟩ | refine ⟨rfl, ?_⟩ | refine ⟨_, _, rfl, rfl, ?_⟩ | refine iteT ?_ | refine iteF ?_ | refine ⟨(by show (0 : Int) < _; omega), ?_⟩ | refine ⟨(⟨by omega, by omega⟩ : CDiv _ _), ?_⟩ | refine ⟨(⟨by decide, by decide, by decide⟩ : CPow _ _), ?_⟩ | refine ⟨(.inl ⟨by omega, by omega⟩ : CMul _ _), ?_⟩ | refine ⟨(.inr ⟨by omega, by omega⟩ : CMul _ _), ?_⟩ | refine Or.inl ⟨_, rfl, ?_⟩ | refine Or.inr ⟨_, rfl, ?_⟩ | refine ⟨_, _, _, _, true, rfl, .ty _, .base (.str _), kit_ty (by decide +kernel), ?_⟩ | refine ⟨_, _, rfl, ⟨by rw [sizeLine_eq]; omega, rfl⟩, ?_⟩ | refine ⟨_, _, rfl, .inl ⟨_, SqL.of (by assumption), rfl⟩, ?_⟩ | refine ⟨_, _, rfl, .inr ⟨_, SqT.of (by assumption), rfl⟩, ?_⟩))
            refine ⟨(by show 2 ≤ sizeLine; rw [sizeLine_eq]; omega), fun t nt => ?_⟩
            (repeat (first | refine ⟨_, rfl, ?_⟩ | refine ⟨rfl, ?_⟩ | refine ⟨_, _, rfl, rfl, ?_⟩ | refine iteT ?_ | refine iteF ?_ | refine ⟨(by show (0 : Int) < _; omega), ?_⟩ | refine ⟨(⟨by omega, by omega⟩ : CDiv _ _), ?_⟩ | refine ⟨(⟨by decide, by decide, by decide⟩ : CPow _ _), ?_⟩ | refine ⟨(.inl ⟨by omega, by omega⟩ : CMul _ _), ?_⟩ | refine ⟨(.inr ⟨by omega, by omega⟩ : CMul _ _), ?_⟩ | refine Or.inl ⟨_, rfl, ?_⟩ | refine Or.inr ⟨_, rfl, ?_⟩ | refine ⟨_, _, _, _, true, rfl, .ty _, .base (.str _), kit_ty (by decide +kernel), ?_⟩ | refine ⟨_, _, rfl, ⟨by rw [sizeLine_eq]; omega, rfl⟩, ?_⟩ | refine ⟨_, _, rfl, .inl ⟨_, SqL.of (by assumption), rfl⟩, ?_⟩ | refine ⟨_, _, rfl, .inr ⟨_, SqT.of (by assumption), rfl⟩, ?_⟩))
            exact k t _ _ _ _ upd_same (fi.lay nt)
    · (repeat (first | refine ⟨_, rfl, ?_⟩ | refine ⟨rfl, ?_⟩ | refine ⟨_, _, rfl, rfl, ?_⟩ | refine iteT ?_ | refine iteF ?_ | refine ⟨(by show (0 : Int) < _; omega), ?_⟩ | refine ⟨(⟨by omega, by omega⟩ : CDiv _ _), ?_⟩ | refine ⟨(⟨by decide, by decide, by decide⟩ : CPow _ _), ?_⟩ | refine ⟨(.inl ⟨by omega, by omega⟩ : CMul _ _), ?_⟩ | refine ⟨(.inr ⟨by omega, by omega⟩ : CMul _ _), ?_⟩ | refine Or.inl ⟨_, rfl, ?_⟩ | refine Or.inr ⟨_, rfl, ?_⟩ | refine ⟨_, _, _, _, true, rfl, .ty _, .base (.str _), kit_ty (by decide +kernel), ?_⟩ | refine ⟨_, _, rfl, ⟨by rw [sizeLine_eq]; omega, rfl⟩, ?_⟩ | refine ⟨_, _, rfl, .inl ⟨_, SqL.of (by assumption), rfl⟩, ?_⟩ | refine ⟨_, _, rfl, .inr ⟨_, SqT.of (by assumption), rfl⟩, ?_⟩))
      -- people != []
      refine ⟨Nat.zero_le _, fun y0 ny0 => ?_⟩
      have h0' := h.lay (o := .lst []) ny0
      refine ⟨_, _, dp_strs h0'.ha, dp_strs (ps := []) upd_same, shaped_strs (fun x hx => (h.sz.sp x hx).ok), shaped_strs (fun _ h => by cases h), ?_⟩
      rw [eqv_strs]
      clear h
      generalize hGe : upd H3 y0 (.lst []) = He at *
      have h := h0'
      clear h0' hGe
      by_cases hne : ps = []
      · rw [decide_eq_true hne]
        have fi := h.mono
        (repeat (first | refine ⟨_, rfl, ?_⟩ | refine ⟨rfl, ?_⟩ | refine ⟨_, _, rfl, rfl, ?_⟩ | refine iteT ?_ | refine iteF ?_ | refine ⟨(by show (0 : Int) < _; omega), ?_⟩ | refine ⟨(⟨by omega, by omega⟩ : CDiv _ _), ?_⟩ | refine ⟨(⟨by decide, by decide, by decide⟩ : CPow _ _), ?_⟩ | refine ⟨(.inl ⟨by omega, by omega⟩ : CMul _ _), ?_⟩ | refine ⟨(.inr ⟨by omega, by omega⟩ : CMul _ _), ?_⟩ | refine Or.inl ⟨_, rfl, ?_⟩ | refine Or.inr ⟨_, rfl, ?_⟩ | refine ⟨_, _, _, _, true, rfl, .ty _, .base (.str _), kit_ty (by decide +kernel), ?_⟩ | refine ⟨_, _, rfl, ⟨by rw [sizeLine_eq]; omega, rfl⟩, ?_⟩ | refine ⟨_, _, rfl, .inl ⟨_, SqL.of (by assumption), rfl⟩, ?_⟩ | refine ⟨_, _, rfl, .inr ⟨_, SqT.of (by assumption), rfl⟩, ?_⟩))
        refine ⟨(by show 2 ≤ sizeLine; rw [sizeLine_eq]; omega), fun t nt => ?_⟩
        (repeat (first | refine ⟨_, rfl, ?_⟩ | refine ⟨rfl, ?_⟩ | refine ⟨_, _, rfl, rfl, ?_⟩ | refine iteT ?_ | refine iteF ?_ | refine ⟨(by show (0 : Int) < _; omega), ?_⟩ | refine ⟨(⟨by omega, by omega⟩ : CDiv _ _), ?_⟩ | refine ⟨(⟨by decide, by decide, by decide⟩ : CPow _ _), ?_⟩ | refine ⟨(.inl ⟨by omega, by omega⟩ : CMul _ _), ?_⟩ | refine ⟨(.inr ⟨by omega, by omega⟩ : CMul _ _), ?_⟩ | refine Or.inl ⟨_, rfl, ?_⟩ | refine Or.inr ⟨_, rfl, ?_⟩ | refine ⟨_, _, _, _, true, rfl, .ty _, .base (.str _), kit_ty (by decide +kernel), ?_⟩ | refine ⟨_, _, rfl, ⟨by rw [sizeLine_eq]; omega, rfl⟩, ?_⟩ | refine ⟨_, _, rfl, .inl ⟨_, SqL.of (by assumption), rfl⟩, ?_⟩ | refine ⟨_, _, rfl, .inr ⟨_, SqT.of (by assumption), rfl⟩, ?_⟩))
        exact k t _ _ _ _ upd_same (fi.lay nt)
      · rw [decide_eq_false hne]
        -- people[take(len(people))]
        have hah := h.ha
        have l1 : 1 ≤ ps.length := List.length_pos_iff.mpr hne
        (repeat (first | refine ⟨_, rfl, ?_⟩ | refine ⟨rfl, ?_⟩ | refine ⟨_, _, rfl, rfl, ?_⟩ | refine iteT ?_ | refine iteF ?_ | refine ⟨(by show (0 : Int) < _; omega), ?_⟩ | refine ⟨(⟨by omega, by omega⟩ : CDiv _ _), ?_⟩ | refine ⟨(⟨by decide, by decide, by decide⟩ : CPow _ _), ?_⟩ | refine ⟨(.inl ⟨by omega, by omega⟩ : CMul _ _), ?_⟩ | refine ⟨(.inr ⟨by omega, by omega⟩ : CMul _ _), ?_⟩ | refine Or.inl ⟨_, rfl, ?_⟩ | refine Or.inr ⟨_, rfl, ?_⟩ | refine ⟨_, _, _, _, true, rfl, .ty _, .base (.str _), kit_ty (by decide +kernel), ?_⟩ | refine ⟨_, _, rfl, ⟨by rw [sizeLine_eq]; omega, rfl⟩, ?_⟩ | refine ⟨_, _, rfl, .inl ⟨_, SqL.of (by assumption), rfl⟩, ?_⟩ | refine ⟨_, _, rfl, .inr ⟨_, SqT.of (by assumption), rfl⟩, ?_⟩))
        refine ⟨sc, wl, _, ns, rfl, h.hs, h.hw, (by rw [List.length_map]; omega), (by have := h.sz.lp; rw [List.length_map]; omega), hn, fun n5 H5 a5 b5 k5 => ?_⟩
        rw [List.length_map] at b5
        obtain ⟨x, hx, ex⟩ := at_strs a5 b5
        have wx : Wd x := h.sz.sp x hx
        -- person = ..; if person in lists: row = lists[person]; more = [odd]
        refine ⟨a, _, n5, _, rfl, rfl, SqL.of (h.kp k5).ha, ex, ?_⟩
        have hh := h.kp k5
        clear h hah
        refine g_name ?_
        try dsimp only
        (repeat (first | refine ⟨_, rfl, ?_⟩ | refine ⟨rfl, ?_⟩ | refine ⟨_, _, rfl, rfl, ?_⟩ | refine iteT ?_ | refine iteF ?_ | refine ⟨(by show (0 : Int) < _; omega), ?_⟩ | refine ⟨(⟨by omega, by omega⟩ : CDiv _ _), ?_⟩ | refine ⟨(⟨by decide, by decide, by decide⟩ : CPow _ _), ?_⟩ | refine ⟨(.inl ⟨by omega, by omega⟩ : CMul _ _), ?_⟩ | refine ⟨(.inr ⟨by omega, by omega⟩ : CMul _ _), ?_⟩ | refine Or.inl ⟨_, rfl, ?_⟩ | refine Or.inr ⟨_, rfl, ?_⟩ | refine ⟨_, _, _, _, true, rfl, .ty _, .base (.str _), kit_ty (by decide +kernel), ?_⟩ | refine ⟨_, _, rfl, ⟨by rw [sizeLine_eq]; omega, rfl⟩, ?_⟩ | refine ⟨_, _, rfl, .inl ⟨_, SqL.of (by assumption), rfl⟩, ?_⟩ | refine ⟨_, _, rfl, .inr ⟨_, SqT.of (by assumption), rfl⟩, ?_⟩))
        obtain ⟨kvs, hd, R⟩ := hh.ex
        have g := R.get x
        cases lk : rows.lookup x with
        | none =>
          rw [lk] at g
          refine ⟨d, none, rfl, .inl ⟨kvs, .inr x, .inl hd, rfl, g.symm⟩, ?_⟩
          have fi := hh.mono
          (repeat (first | refine ⟨_, rfl, ?_⟩ | refine ⟨rfl, ?_⟩ | refine ⟨_, _, rfl, rfl, ?_⟩ | refine iteT ?_ | refine iteF ?_ | refine ⟨(by show (0 : Int) < _; omega), ?_⟩ | refine ⟨(⟨by omega, by omega⟩ : CDiv _ _), ?_⟩ | refine ⟨(⟨by decide, by decide, by decide⟩ : CPow _ _), ?_⟩ | refine ⟨(.inl ⟨by omega, by omega⟩ : CMul _ _), ?_⟩ | refine ⟨(.inr ⟨by omega, by omega⟩ : CMul _ _), ?_⟩ | refine Or.inl ⟨_, rfl, ?_⟩ | refine Or.inr ⟨_, rfl, ?_⟩ | refine ⟨_, _, _, _, true, rfl, .ty _, .base (.str _), kit_ty (by decide +kernel), ?_⟩ | refine ⟨_, _, rfl, ⟨by rw [sizeLine_eq]; omega, rfl⟩, ?_⟩ | refine ⟨_, _, rfl, .inl ⟨_, SqL.of (by assumption), rfl⟩, ?_⟩ | refine ⟨_, _, rfl, .inr ⟨_, SqT.of (by assumption), rfl⟩, ?_⟩))
          refine ⟨(by show 2 ≤ sizeLine; rw [sizeLine_eq]; omega), fun t nt => ?_⟩
          (repeat (first | refine ⟨_, rfl, ?_⟩ | refine ⟨rfl, ?_⟩ | refine ⟨_, _, rfl, rfl, ?_⟩ | refine iteT ?_ | refine iteF ?_ | refine ⟨(by show (0 : Int) < _; omega), ?_⟩ | refine ⟨(⟨by omega, by omega⟩ : CDiv _ _), ?_⟩ | refine ⟨(⟨by decide, by decide, by decide⟩ : CPow _ _), ?_⟩ | refine ⟨(.inl ⟨by omega, by omega⟩ : CMul _ _), ?_⟩ | refine ⟨(.inr ⟨by omega, by omega⟩ : CMul _ _), ?_⟩ | refine Or.inl ⟨_, rfl, ?_⟩ | refine Or.inr ⟨_, rfl, ?_⟩ | refine ⟨_, _, _, _, true, rfl, .ty _, .base (.str _), kit_ty (by decide +kernel), ?_⟩ | refine ⟨_, _, rfl, ⟨by rw [sizeLine_eq]; omega, rfl⟩, ?_⟩ | refine ⟨_, _, rfl, .inl ⟨_, SqL.of (by assumption), rfl⟩, ?_⟩ | refine ⟨_, _, rfl, .inr ⟨_, SqT.of (by assumption), rfl⟩, ?_⟩))
          exact k t _ _ _ _ upd_same (fi.lay nt)
        | some ws =>
          rw [lk] at g
          obtain ⟨rl, g1, g2, hrl⟩ := g
          have lws : ws.length ≤ 24 + 26 * j := (hh.sz.sr _ (mem_of_look lk)).2.1
          have get1 : DGet H5 d (.str x) (some (.ref rl)) := .inl ⟨kvs, .inr x, .inl hd, rfl, g1.symm⟩
          refine ⟨d, some (.ref rl), rfl, get1, ?_⟩
          (repeat (first | refine ⟨_, rfl, ?_⟩ | refine ⟨rfl, ?_⟩ | refine ⟨_, _, rfl, rfl, ?_⟩ | refine iteT ?_ | refine iteF ?_ | refine ⟨(by show (0 : Int) < _; omega), ?_⟩ | refine ⟨(⟨by omega, by omega⟩ : CDiv _ _), ?_⟩ | refine ⟨(⟨by decide, by decide, by decide⟩ : CPow _ _), ?_⟩ | refine ⟨(.inl ⟨by omega, by omega⟩ : CMul _ _), ?_⟩ | refine ⟨(.inr ⟨by omega, by omega⟩ : CMul _ _), ?_⟩ | refine Or.inl ⟨_, rfl, ?_⟩ | refine Or.inr ⟨_, rfl, ?_⟩ | refine ⟨_, _, _, _, true, rfl, .ty _, .base (.str _), kit_ty (by decide +kernel), ?_⟩ | refine ⟨_, _, rfl, ⟨by rw [sizeLine_eq]; omega, rfl⟩, ?_⟩ | refine ⟨_, _, rfl, .inl ⟨_, SqL.of (by assumption), rfl⟩, ?_⟩ | refine ⟨_, _, rfl, .inr ⟨_, SqT.of (by assumption), rfl⟩, ?_⟩))
          refine ⟨d, .ref rl, rfl, get1, ?_⟩
          refine g_name ?_
          try dsimp only
          refine seq_asg ?_
          (repeat (first | refine ⟨_, rfl, ?_⟩ | refine ⟨rfl, ?_⟩ | refine ⟨_, _, rfl, rfl, ?_⟩ | refine iteT ?_ | refine iteF ?_ | refine ⟨(by show (0 : Int) < _; omega), ?_⟩ | refine ⟨(⟨by omega, by omega⟩ : CDiv _ _), ?_⟩ | refine ⟨(⟨by decide, by decide, by decide⟩ : CPow _ _), ?_⟩ | refine ⟨(.inl ⟨by omega, by omega⟩ : CMul _ _), ?_⟩ | refine ⟨(.inr ⟨by omega, by omega⟩ : CMul _ _), ?_⟩ | refine Or.inl ⟨_, rfl, ?_⟩ | refine Or.inr ⟨_, rfl, ?_⟩ | refine ⟨_, _, _, _, true, rfl, .ty _, .base (.str _), kit_ty (by decide +kernel), ?_⟩ | refine ⟨_, _, rfl, ⟨by rw [sizeLine_eq]; omega, rfl⟩, ?_⟩ | refine ⟨_, _, rfl, .inl ⟨_, SqL.of (by assumption), rfl⟩, ?_⟩ | refine ⟨_, _, rfl, .inr ⟨_, SqT.of (by assumption), rfl⟩, ?_⟩))
          refine ⟨(by show 1 ≤ sizeLine; rw [sizeLine_eq]; omega), fun yo nyo => ?_⟩
          have so := Same.new (o := .lst [V.str odd]) nyo
          have ho : upd H5 yo (.lst [V.str odd]) yo = some (.lst ([odd].map V.str)) := upd_same
          generalize hGo : upd H5 yo (.lst [V.str odd]) = Go at *
          refine g_name ?_
          try dsimp only
          (repeat (first | refine ⟨_, rfl, ?_⟩ | refine ⟨rfl, ?_⟩ | refine ⟨_, _, rfl, rfl, ?_⟩ | refine iteT ?_ | refine iteF ?_ | refine ⟨(by show (0 : Int) < _; omega), ?_⟩ | refine ⟨(⟨by omega, by omega⟩ : CDiv _ _), ?_⟩ | refine ⟨(⟨by decide, by decide, by decide⟩ : CPow _ _), ?_⟩ | refine ⟨(.inl ⟨by omega, by omega⟩ : CMul _ _), ?_⟩ | refine ⟨(.inr ⟨by omega, by omega⟩ : CMul _ _), ?_⟩ | refine Or.inl ⟨_, rfl, ?_⟩ | refine Or.inr ⟨_, rfl, ?_⟩ | refine ⟨_, _, _, _, true, rfl, .ty _, .base (.str _), kit_ty (by decide +kernel), ?_⟩ | refine ⟨_, _, rfl, ⟨by rw [sizeLine_eq]; omega, rfl⟩, ?_⟩ | refine ⟨_, _, rfl, .inl ⟨_, SqL.of (by assumption), rfl⟩, ?_⟩ | refine ⟨_, _, rfl, .inr ⟨_, SqT.of (by assumption), rfl⟩, ?_⟩))
          refine fun D nD => ?_
          refine lc_it walk_str (fun i H' => Same H5 H' ∧ H' D = some (.lst ((tailed "zzzzzz" ((Str.ofString "abcdefghijklmnopqrstuvwxyz").cps.toList.take i)).map V.str))) ⟨Same.put so (so.free nD), upd_same⟩ (fun _ _ _ _ => True.intro) ?_ ?_
          · rintro i v Hx H1 hi ⟨s1, hD⟩ ⟨rfl, c, hc, rfl⟩
            refine ⟨rfl, ?_⟩
            (repeat (first | refine ⟨_, rfl, ?_⟩ | refine ⟨rfl, ?_⟩ | refine ⟨_, _, rfl, rfl, ?_⟩ | refine iteT ?_ | refine iteF ?_ | refine ⟨(by show (0 : Int) < _; omega), ?_⟩ | refine ⟨(⟨by omega, by omega⟩ : CDiv _ _), ?_⟩ | refine ⟨(⟨by decide, by decide, by decide⟩ : CPow _ _), ?_⟩ | refine ⟨(.inl ⟨by omega, by omega⟩ : CMul _ _), ?_⟩ | refine ⟨(.inr ⟨by omega, by omega⟩ : CMul _ _), ?_⟩ | refine Or.inl ⟨_, rfl, ?_⟩ | refine Or.inr ⟨_, rfl, ?_⟩ | refine ⟨_, _, _, _, true, rfl, .ty _, .base (.str _), kit_ty (by decide +kernel), ?_⟩ | refine ⟨_, _, rfl, ⟨by rw [sizeLine_eq]; omega, rfl⟩, ?_⟩ | refine ⟨_, _, rfl, .inl ⟨_, SqL.of (by assumption), rfl⟩, ?_⟩ | refine ⟨_, _, rfl, .inr ⟨_, SqT.of (by assumption), rfl⟩, ?_⟩))
            refine ⟨(by show 1 + 6 ≤ sizeLine; rw [sizeLine_eq]; omega), ?_⟩
            refine ⟨_, hD, small1000 (by rw [List.length_map, tailed_len, List.length_take, lets26, List.length_range']; omega), Same.put s1 (so.free nD), ?_⟩
            rw [upd_same, tailed_snoc (toL hc)]
          · rintro G ⟨sg, hD⟩
            rw [List.take_of_length_le (by rw [Array.length_toList]; exact Nat.le_refl _)] at hD
            obtain ⟨more, em⟩ : ∃ more : List Str, more = tailed "zzzzzz" (Str.ofString "abcdefghijklmnopqrstuvwxyz").cps.toList := ⟨_, rfl⟩
            rw [← em] at hD
            obtain ⟨y, rfl⟩ : ∃ y, y = D := ⟨_, rfl⟩
            have hy := hD
            have lm : more.length ≤ 26 := by rw [em, tailed_len, lets26, List.length_range']; omega
            have wm : ∀ u ∈ more, Wd u := fun u hu => by
              rw [em, lets26] at hu
              exact wd_nm (tailed_nm (low_range (Nat.le_refl 26)) (by decide +kernel) (by decide +kernel) u hu)
            refine g_name ?_
            try dsimp only
            (repeat (first | refine ⟨_, rfl, ?_⟩ | refine ⟨rfl, ?_⟩ | refine ⟨_, _, rfl, rfl, ?_⟩ | refine iteT ?_ | refine iteF ?_ | refine ⟨(by show (0 : Int) < _; omega), ?_⟩ | refine ⟨(⟨by omega, by omega⟩ : CDiv _ _), ?_⟩ | refine ⟨(⟨by decide, by decide, by decide⟩ : CPow _ _), ?_⟩ | refine ⟨(.inl ⟨by omega, by omega⟩ : CMul _ _), ?_⟩ | refine ⟨(.inr ⟨by omega, by omega⟩ : CMul _ _), ?_⟩ | refine Or.inl ⟨_, rfl, ?_⟩ | refine Or.inr ⟨_, rfl, ?_⟩ | refine ⟨_, _, _, _, true, rfl, .ty _, .base (.str _), kit_ty (by decide +kernel), ?_⟩ | refine ⟨_, _, rfl, ⟨by rw [sizeLine_eq]; omega, rfl⟩, ?_⟩ | refine ⟨_, _, rfl, .inl ⟨_, SqL.of (by assumption), rfl⟩, ?_⟩ | refine ⟨_, _, rfl, .inr ⟨_, SqT.of (by assumption), rfl⟩, ?_⟩))
            -- lists[person] = row + more, more at y
            refine ⟨rl, y, _, _, rfl, rfl, sg _ _ hrl, hy, (by rw [List.length_map, List.length_map, sizeLine_eq]; omega), fun q nq => ?_⟩
            rw [← List.map_append]
            have sq := Same.put (o := .lst ((ws ++ more).map V.str)) sg (sg.free nq)
            have hq : upd G q (.lst ((ws ++ more).map V.str)) q = _ := upd_same
            generalize hGq : upd G q (.lst ((ws ++ more).map V.str)) = Gq at *
            have gq := hh.same sq
            have qw : q ≠ wl := hh.hw.ne (sg.free nq)
            have Rq := R.same sq
            (repeat (first | refine ⟨_, rfl, ?_⟩ | refine ⟨rfl, ?_⟩ | refine ⟨_, _, rfl, rfl, ?_⟩ | refine iteT ?_ | refine iteF ?_ | refine ⟨(by show (0 : Int) < _; omega), ?_⟩ | refine ⟨(⟨by omega, by omega⟩ : CDiv _ _), ?_⟩ | refine ⟨(⟨by decide, by decide, by decide⟩ : CPow _ _), ?_⟩ | refine ⟨(.inl ⟨by omega, by omega⟩ : CMul _ _), ?_⟩ | refine ⟨(.inr ⟨by omega, by omega⟩ : CMul _ _), ?_⟩ | refine Or.inl ⟨_, rfl, ?_⟩ | refine Or.inr ⟨_, rfl, ?_⟩ | refine ⟨_, _, _, _, true, rfl, .ty _, .base (.str _), kit_ty (by decide +kernel), ?_⟩ | refine ⟨_, _, rfl, ⟨by rw [sizeLine_eq]; omega, rfl⟩, ?_⟩ | refine ⟨_, _, rfl, .inl ⟨_, SqL.of (by assumption), rfl⟩, ?_⟩ | refine ⟨_, _, rfl, .inr ⟨_, SqT.of (by assumption), rfl⟩, ?_⟩))
            refine ⟨d, _, rfl, .inl ⟨kvs, .inr x, sq _ _ hd, rfl, small1000 (by rw [R.length]; have := hh.sz.lr; omega), rfl⟩, ?_⟩
            have fi := gq.dput (n := x) Rq qw hq wx (by rw [List.length_append]; omega) fun u hu => by
              rcases List.mem_append.mp hu with hu | hu
              · exact (hh.sz.sr _ (mem_of_look lk)).2.2 u hu
              · exact wm u hu
            (repeat (first | refine ⟨_, rfl, ?_⟩ | refine ⟨rfl, ?_⟩ | refine ⟨_, _, rfl, rfl, ?_⟩ | refine iteT ?_ | refine iteF ?_ | refine ⟨(by show (0 : Int) < _; omega), ?_⟩ | refine ⟨(⟨by omega, by omega⟩ : CDiv _ _), ?_⟩ | refine ⟨(⟨by decide, by decide, by decide⟩ : CPow _ _), ?_⟩ | refine ⟨(.inl ⟨by omega, by omega⟩ : CMul _ _), ?_⟩ | refine ⟨(.inr ⟨by omega, by omega⟩ : CMul _ _), ?_⟩ | refine Or.inl ⟨_, rfl, ?_⟩ | refine Or.inr ⟨_, rfl, ?_⟩ | refine ⟨_, _, _, _, true, rfl, .ty _, .base (.str _), kit_ty (by decide +kernel), ?_⟩ | refine ⟨_, _, rfl, ⟨by rw [sizeLine_eq]; omega, rfl⟩, ?_⟩ | refine ⟨_, _, rfl, .inl ⟨_, SqL.of (by assumption), rfl⟩, ?_⟩ | refine ⟨_, _, rfl, .inr ⟨_, SqT.of (by assumption), rfl⟩, ?_⟩))
            refine ⟨(by show 2 ≤ sizeLine; rw [sizeLine_eq]; omega), fun t nt => ?_⟩
            (repeat (first | refine ⟨_, rfl, ?_⟩ | refine ⟨rfl, ?_⟩ | refine ⟨_, _, rfl, rfl, ?_⟩ | refine iteT ?_ | refine iteF ?_ | refine ⟨(by show (0 : Int) < _; omega), ?_⟩ | refine ⟨(⟨by omega, by omega⟩ : CDiv _ _), ?_⟩ | refine ⟨(⟨by decide, by decide, by decide⟩ : CPow _ _), ?_⟩ | refine ⟨(.inl ⟨by omega, by omega⟩ : CMul _ _), ?_⟩ | refine ⟨(.inr ⟨by omega, by omega⟩ : CMul _ _), ?_⟩ | refine Or.inl ⟨_, rfl, ?_⟩ | refine Or.inr ⟨_, rfl, ?_⟩ | refine ⟨_, _, _, _, true, rfl, .ty _, .base (.str _), kit_ty (by decide +kernel), ?_⟩ | refine ⟨_, _, rfl, ⟨by rw [sizeLine_eq]; omega, rfl⟩, ?_⟩ | refine ⟨_, _, rfl, .inl ⟨_, SqL.of (by assumption), rfl⟩, ?_⟩ | refine ⟨_, _, rfl, .inr ⟨_, SqT.of (by assumption), rfl⟩, ?_⟩))
            exact k t _ _ _ _ upd_same (fi.lay nt)
    · (repeat (first | refine ⟨_, rfl, ?_⟩ | refine ⟨rfl, ?_⟩ | refine ⟨_, _, rfl, rfl, ?_⟩ | refine iteT ?_ | refine iteF ?_ | refine ⟨(by show (0 : Int) < _; omega), ?_⟩ | refine ⟨(⟨by omega, by omega⟩ : CDiv _ _), ?_⟩ | refine ⟨(⟨by decide, by decide, by decide⟩ : CPow _ _), ?_⟩ | refine ⟨(.inl ⟨by omega, by omega⟩ : CMul _ _), ?_⟩ | refine ⟨(.inr ⟨by omega, by omega⟩ : CMul _ _), ?_⟩ | refine Or.inl ⟨_, rfl, ?_⟩ | refine Or.inr ⟨_, rfl, ?_⟩ | refine ⟨_, _, _, _, true, rfl, .ty _, .base (.str _), kit_ty (by decide +kernel), ?_⟩ | refine ⟨_, _, rfl, ⟨by rw [sizeLine_eq]; omega, rfl⟩, ?_⟩ | refine ⟨_, _, rfl, .inl ⟨_, SqL.of (by assumption), rfl⟩, ?_⟩ | refine ⟨_, _, rfl, .inr ⟨_, SqT.of (by assumption), rfl⟩, ?_⟩))
      -- people != []
      refine ⟨Nat.zero_le _, fun y0 ny0 => ?_⟩
      have h0' := h.lay (o := .lst []) ny0
      refine ⟨_, _, dp_strs h0'.ha, dp_strs (ps := []) upd_same, shaped_strs (fun x hx => (h.sz.sp x hx).ok), shaped_strs (fun _ h => by cases h), ?_⟩
      rw [eqv_strs]
      clear h
      generalize hGe : upd H3 y0 (.lst []) = He at *
      have h := h0'
      clear h0' hGe
      by_cases hne : ps = []
      · rw [decide_eq_true hne]
        have fi := h.mono
        (repeat (first | refine ⟨_, rfl, ?_⟩ | refine ⟨rfl, ?_⟩ | refine ⟨_, _, rfl, rfl, ?_⟩ | refine iteT ?_ | refine iteF ?_ | refine ⟨(by show (0 : Int) < _; omega), ?_⟩ | refine ⟨(⟨by omega, by omega⟩ : CDiv _ _), ?_⟩ | refine ⟨(⟨by decide, by decide, by decide⟩ : CPow _ _), ?_⟩ | refine ⟨(.inl ⟨by omega, by omega⟩ : CMul _ _), ?_⟩ | refine ⟨(.inr ⟨by omega, by omega⟩ : CMul _ _), ?_⟩ | refine Or.inl ⟨_, rfl, ?_⟩ | refine Or.inr ⟨_, rfl, ?_⟩ | refine ⟨_, _, _, _, true, rfl, .ty _, .base (.str _), kit_ty (by decide +kernel), ?_⟩ | refine ⟨_, _, rfl, ⟨by rw [sizeLine_eq]; omega, rfl⟩, ?_⟩ | refine ⟨_, _, rfl, .inl ⟨_, SqL.of (by assumption), rfl⟩, ?_⟩ | refine ⟨_, _, rfl, .inr ⟨_, SqT.of (by assumption), rfl⟩, ?_⟩))
        refine ⟨(by show 2 ≤ sizeLine; rw [sizeLine_eq]; omega), fun t nt => ?_⟩
        (repeat (first | refine ⟨_, rfl, ?_⟩ | refine ⟨rfl, ?_⟩ | refine ⟨_, _, rfl, rfl, ?_⟩ | refine iteT ?_ | refine iteF ?_ | refine ⟨(by show (0 : Int) < _; omega), ?_⟩ | refine ⟨(⟨by omega, by omega⟩ : CDiv _ _), ?_⟩ | refine ⟨(⟨by decide, by decide, by decide⟩ : CPow _ _), ?_⟩ | refine ⟨(.inl ⟨by omega, by omega⟩ : CMul _ _), ?_⟩ | refine ⟨(.inr ⟨by omega, by omega⟩ : CMul _ _), ?_⟩ | refine Or.inl ⟨_, rfl, ?_⟩ | refine Or.inr ⟨_, rfl, ?_⟩ | refine ⟨_, _, _, _, true, rfl, .ty _, .base (.str _), kit_ty (by decide +kernel), ?_⟩ | refine ⟨_, _, rfl, ⟨by rw [sizeLine_eq]; omega, rfl⟩, ?_⟩ | refine ⟨_, _, rfl, .inl ⟨_, SqL.of (by assumption), rfl⟩, ?_⟩ | refine ⟨_, _, rfl, .inr ⟨_, SqT.of (by assumption), rfl⟩, ?_⟩))
        exact k t _ _ _ _ upd_same (fi.lay nt)
      · rw [decide_eq_false hne]
        -- people[take(len(people))]
        have hah := h.ha
        have l1 : 1 ≤ ps.length := List.length_pos_iff.mpr hne
        (repeat (first | refine ⟨_, rfl, ?_⟩ | refine ⟨rfl, ?_⟩ | refine ⟨_, _, rfl, rfl, ?_⟩ | refine iteT ?_ | refine iteF ?_ | refine ⟨(by show (0 : Int) < _; omega), ?_⟩ | refine ⟨(⟨by omega, by omega⟩ : CDiv _ _), ?_⟩ | refine ⟨(⟨by decide, by decide, by decide⟩ : CPow _ _), ?_⟩ | refine ⟨(.inl ⟨by omega, by omega⟩ : CMul _ _), ?_⟩ | refine ⟨(.inr ⟨by omega, by omega⟩ : CMul _ _), ?_⟩ | refine Or.inl ⟨_, rfl, ?_⟩ | refine Or.inr ⟨_, rfl, ?_⟩ | refine ⟨_, _, _, _, true, rfl, .ty _, .base (.str _), kit_ty (by decide +kernel), ?_⟩ | refine ⟨_, _, rfl, ⟨by rw [sizeLine_eq]; omega, rfl⟩, ?_⟩ | refine ⟨_, _, rfl, .inl ⟨_, SqL.of (by assumption), rfl⟩, ?_⟩ | refine ⟨_, _, rfl, .inr ⟨_, SqT.of (by assumption), rfl⟩, ?_⟩))
        refine ⟨sc, wl, _, ns, rfl, h.hs, h.hw, (by rw [List.length_map]; omega), (by have := h.sz.lp; rw [List.length_map]; omega), hn, fun n5 H5 a5 b5 k5 => ?_⟩
        rw [List.length_map] at b5
        obtain ⟨x, hx, ex⟩ := at_strs a5 b5
        have wx : Wd x := h.sz.sp x hx
        -- person = ..; if person in lists: row = lists[person]; more = [odd]
        refine ⟨a, _, n5, _, rfl, rfl, SqL.of (h.kp k5).ha, ex, ?_⟩
        have hh := h.kp k5
        clear h hah
        refine g_name ?_
        try dsimp only
        (repeat (first | refine ⟨_, rfl, ?_⟩ | refine ⟨rfl, ?_⟩ | refine ⟨_, _, rfl, rfl, ?_⟩ | refine iteT ?_ | refine iteF ?_ | refine ⟨(by show (0 : Int) < _; omega), ?_⟩ | refine ⟨(⟨by omega, by omega⟩ : CDiv _ _), ?_⟩ | refine ⟨(⟨by decide, by decide, by decide⟩ : CPow _ _), ?_⟩ | refine ⟨(.inl ⟨by omega, by omega⟩ : CMul _ _), ?_⟩ | refine ⟨(.inr ⟨by omega, by omega⟩ : CMul _ _), ?_⟩ | refine Or.inl ⟨_, rfl, ?_⟩ | refine Or.inr ⟨_, rfl, ?_⟩ | refine ⟨_, _, _, _, true, rfl, .ty _, .base (.str _), kit_ty (by decide +kernel), ?_⟩ | refine ⟨_, _, rfl, ⟨by rw [sizeLine_eq]; omega, rfl⟩, ?_⟩ | refine ⟨_, _, rfl, .inl ⟨_, SqL.of (by assumption), rfl⟩, ?_⟩ | refine ⟨_, _, rfl, .inr ⟨_, SqT.of (by assumption), rfl⟩, ?_⟩))
        obtain ⟨kvs, hd, R⟩ := hh.ex
        have g := R.get x
        cases lk : rows.lookup x with
        | none =>
          rw [lk] at g
          refine ⟨d, none, rfl, .inl ⟨kvs, .inr x, .inl hd, rfl, g.symm⟩, ?_⟩
          have fi := hh.mono
          (repeat (first | refine ⟨_, rfl, ?_⟩ | refine ⟨rfl, ?_⟩ | refine ⟨_, _, rfl, rfl, ?_⟩ | refine iteT ?_ | refine iteF ?_ | refine ⟨(by show (0 : Int) < _; omega), ?_⟩ | refine ⟨(⟨by omega, by omega⟩ : CDiv _ _), ?_⟩ | refine ⟨(⟨by decide, by decide, by decide⟩ : CPow _ _), ?_⟩ | refine ⟨(.inl ⟨by omega, by omega⟩ : CMul _ _), ?_⟩ | refine ⟨(.inr ⟨by omega, by omega⟩ : CMul _ _), ?_⟩ | refine Or.inl ⟨_, rfl, ?_⟩ | refine Or.inr ⟨_, rfl, ?_⟩ | refine ⟨_, _, _, _, true, rfl, .ty _, .base (.str _), kit_ty (by decide +kernel), ?_⟩ | refine ⟨_, _, rfl, ⟨by rw [sizeLine_eq]; omega, rfl⟩, ?_⟩ | refine ⟨_, _, rfl, .inl ⟨_, SqL.of (by assumption), rfl⟩, ?_⟩ | refine ⟨_, _, rfl, .inr ⟨_, SqT.of (by assumption), rfl⟩, ?_⟩))
          refine ⟨(by show 2 ≤ sizeLine; rw [sizeLine_eq]; omega), fun t nt => ?_⟩
          (repeat (first | refine ⟨_, rfl, ?_⟩ | refine ⟨rfl, ?_⟩ | refine ⟨_, _, rfl, rfl, ?_⟩ | refine iteT ?_ | refine iteF ?_ | refine ⟨(by show (0 : Int) < _; omega), ?_⟩ | refine ⟨(⟨by omega, by omega⟩ : CDiv _ _), ?_⟩ | refine ⟨(⟨by decide, by decide, by decide⟩ : CPow _ _), ?_⟩ | refine ⟨(.inl ⟨by omega, by omega⟩ : CMul _ _), ?_⟩ | refine ⟨(.inr ⟨by omega, by omega⟩ : CMul _ _), ?_⟩ | refine Or.inl ⟨_, rfl, ?_⟩ | refine Or.inr ⟨_, rfl, ?_⟩ | refine ⟨_, _, _, _, true, rfl, .ty _, .base (.str _), kit_ty (by decide +kernel), ?_⟩ | refine ⟨_, _, rfl, ⟨by rw [sizeLine_eq]; omega, rfl⟩, ?_⟩ | refine ⟨_, _, rfl, .inl ⟨_, SqL.of (by assumption), rfl⟩, ?_⟩ | refine ⟨_, _, rfl, .inr ⟨_, SqT.of (by assumption), rfl⟩, ?_⟩))
          exact k t _ _ _ _ upd_same (fi.lay nt)
        | some ws =>
          rw [lk] at g
          obtain ⟨rl, g1, g2, hrl⟩ := g
          have lws : ws.length ≤ 24 + 26 * j := (hh.sz.sr _ (mem_of_look lk)).2.1
          have get1 : DGet H5 d (.str x) (some (.ref rl)) := .inl ⟨kvs, .inr x, .inl hd, rfl, g1.symm⟩
          refine ⟨d, some (.ref rl), rfl, get1, ?_⟩
          (repeat (first | refine ⟨_, rfl, ?_⟩ | refine ⟨rfl, ?_⟩ | refine ⟨_, _, rfl, rfl, ?_⟩ | refine iteT ?_ | refine iteF ?_ | refine ⟨(by show (0 : Int) < _; omega), ?_⟩ | refine ⟨(⟨by omega, by omega⟩ : CDiv _ _), ?_⟩ | refine ⟨(⟨by decide, by decide, by decide⟩ : CPow _ _), ?_⟩ | refine ⟨(.inl ⟨by omega, by omega⟩ : CMul _ _), ?_⟩ | refine ⟨(.inr ⟨by omega, by omega⟩ : CMul _ _), ?_⟩ | refine Or.inl ⟨_, rfl, ?_⟩ | refine Or.inr ⟨_, rfl, ?_⟩ | refine ⟨_, _, _, _, true, rfl, .ty _, .base (.str _), kit_ty (by decide +kernel), ?_⟩ | refine ⟨_, _, rfl, ⟨by rw [sizeLine_eq]; omega, rfl⟩, ?_⟩ | refine ⟨_, _, rfl, .inl ⟨_, SqL.of (by assumption), rfl⟩, ?_⟩ | refine ⟨_, _, rfl, .inr ⟨_, SqT.of (by assumption), rfl⟩, ?_⟩))
          refine ⟨d, .ref rl, rfl, get1, ?_⟩
          refine g_name ?_
          try dsimp only
          refine seq_asg ?_
          (repeat (first | refine ⟨_, rfl, ?_⟩ | refine ⟨rfl, ?_⟩ | refine ⟨_, _, rfl, rfl, ?_⟩ | refine iteT ?_ | refine iteF ?_ | refine ⟨(by show (0 : Int) < _; omega), ?_⟩ | refine ⟨(⟨by omega, by omega⟩ : CDiv _ _), ?_⟩ | refine ⟨(⟨by decide, by decide, by decide⟩ : CPow _ _), ?_⟩ | refine ⟨(.inl ⟨by omega, by omega⟩ : CMul _ _), ?_⟩ | refine ⟨(.inr ⟨by omega, by omega⟩ : CMul _ _), ?_⟩ | refine Or.inl ⟨_, rfl, ?_⟩ | refine Or.inr ⟨_, rfl, ?_⟩ | refine ⟨_, _, _, _, true, rfl, .ty _, .base (.str _), kit_ty (by decide +kernel), ?_⟩ | refine ⟨_, _, rfl, ⟨by rw [sizeLine_eq]; omega, rfl⟩, ?_⟩ | refine ⟨_, _, rfl, .inl ⟨_, SqL.of (by assumption), rfl⟩, ?_⟩ | refine ⟨_, _, rfl, .inr ⟨_, SqT.of (by assumption), rfl⟩, ?_⟩))
          refine ⟨(by show 1 ≤ sizeLine; rw [sizeLine_eq]; omega), fun yo nyo => ?_⟩
          have so := Same.new (o := .lst [V.str odd]) nyo
          have ho : upd H5 yo (.lst [V.str odd]) yo = some (.lst ([odd].map V.str)) := upd_same
          generalize hGo : upd H5 yo (.lst [V.str odd]) = Go at *
          refine g_name ?_
          try dsimp only
          (repeat (first | refine ⟨_, rfl, ?_⟩ | refine ⟨rfl, ?_⟩ | refine ⟨_, _, rfl, rfl, ?_⟩ | refine iteT ?_ | refine iteF ?_ | refine ⟨(by show (0 : Int) < _; omega), ?_⟩ | refine ⟨(⟨by omega, by omega⟩ : CDiv _ _), ?_⟩ | refine ⟨(⟨by decide, by decide, by decide⟩ : CPow _ _), ?_⟩ | refine ⟨(.inl ⟨by omega, by omega⟩ : CMul _ _), ?_⟩ | refine ⟨(.inr ⟨by omega, by omega⟩ : CMul _ _), ?_⟩ | refine Or.inl ⟨_, rfl, ?_⟩ | refine Or.inr ⟨_, rfl, ?_⟩ | refine ⟨_, _, _, _, true, rfl, .ty _, .base (.str _), kit_ty (by decide +kernel), ?_⟩ | refine ⟨_, _, rfl, ⟨by rw [sizeLine_eq]; omega, rfl⟩, ?_⟩ | refine ⟨_, _, rfl, .inl ⟨_, SqL.of (by assumption), rfl⟩, ?_⟩ | refine ⟨_, _, rfl, .inr ⟨_, SqT.of (by assumption), rfl⟩, ?_⟩))
          obtain ⟨G, rfl⟩ : ∃ G, G = Go := ⟨_, rfl⟩
          have sg := so
          obtain ⟨y, rfl⟩ : ∃ y, y = yo := ⟨_, rfl⟩
          obtain ⟨more, em⟩ : ∃ more : List Str, more = [odd] := ⟨_, rfl⟩
          have hy := ho
          rw [← em] at hy
          have lm : more.length ≤ 26 := by rw [em]; show 1 ≤ 26; omega
          have wm : ∀ u ∈ more, Wd u := fun u hu => by
            rw [em] at hu
            rw [List.mem_singleton.mp hu]
            exact wo
          (repeat (first | refine ⟨_, rfl, ?_⟩ | refine ⟨rfl, ?_⟩ | refine ⟨_, _, rfl, rfl, ?_⟩ | refine iteT ?_ | refine iteF ?_ | refine ⟨(by show (0 : Int) < _; omega), ?_⟩ | refine ⟨(⟨by omega, by omega⟩ : CDiv _ _), ?_⟩ | refine ⟨(⟨by decide, by decide, by decide⟩ : CPow _ _), ?_⟩ | refine ⟨(.inl ⟨by omega, by omega⟩ : CMul _ _), ?_⟩ | refine ⟨(.inr ⟨by omega, by omega⟩ : CMul _ _), ?_⟩ | refine Or.inl ⟨_, rfl, ?_⟩ | refine Or.inr ⟨_, rfl, ?_⟩ | refine ⟨_, _, _, _, true, rfl, .ty _, .base (.str _), kit_ty (by decide +kernel), ?_⟩ | refine ⟨_, _, rfl, ⟨by rw [sizeLine_eq]; omega, rfl⟩, ?_⟩ | refine ⟨_, _, rfl, .inl ⟨_, SqL.of (by assumption), rfl⟩, ?_⟩ | refine ⟨_, _, rfl, .inr ⟨_, SqT.of (by assumption), rfl⟩, ?_⟩))
          -- lists[person] = row + more, more at y
          refine ⟨rl, y, _, _, rfl, rfl, sg _ _ hrl, hy, (by rw [List.length_map, List.length_map, sizeLine_eq]; omega), fun q nq => ?_⟩
          rw [← List.map_append]
          have sq := Same.put (o := .lst ((ws ++ more).map V.str)) sg (sg.free nq)
          have hq : upd G q (.lst ((ws ++ more).map V.str)) q = _ := upd_same
          generalize hGq : upd G q (.lst ((ws ++ more).map V.str)) = Gq at *
          have gq := hh.same sq
          have qw : q ≠ wl := hh.hw.ne (sg.free nq)
          have Rq := R.same sq
          (repeat (first | refine ⟨_, rfl, ?_⟩ | refine ⟨rfl, ?_⟩ | refine ⟨_, _, rfl, rfl, ?_⟩ | refine iteT ?_ | refine iteF ?_ | refine ⟨(by show (0 : Int) < _; omega), ?_⟩ | refine ⟨(⟨by omega, by omega⟩ : CDiv _ _), ?_⟩ | refine ⟨(⟨by decide, by decide, by decide⟩ : CPow _ _), ?_⟩ | refine ⟨(.inl ⟨by omega, by omega⟩ : CMul _ _), ?_⟩ | refine ⟨(.inr ⟨by omega, by omega⟩ : CMul _ _), ?_⟩ | refine Or.inl ⟨_, rfl, ?_⟩ | refine Or.inr ⟨_, rfl, ?_⟩ | refine ⟨_, _, _, _, true, rfl, .ty _, .base (.str _), kit_ty (by decide +kernel), ?_⟩ | refine ⟨_, _, rfl, ⟨by rw [sizeLine_eq]; omega, rfl⟩, ?_⟩ | refine ⟨_, _, rfl, .inl ⟨_, SqL.of (by assumption), rfl⟩, ?_⟩ | refine ⟨_, _, rfl, .inr ⟨_, SqT.of (by assumption), rfl⟩, ?_⟩))
          refine ⟨d, _, rfl, .inl ⟨kvs, .inr x, sq _ _ hd, rfl, small1000 (by rw [R.length]; have := hh.sz.lr; omega), rfl⟩, ?_⟩
          have fi := gq.dput (n := x) Rq qw hq wx (by rw [List.length_append]; omega) fun u hu => by
            rcases List.mem_append.mp hu with hu | hu
            · exact (hh.sz.sr _ (mem_of_look lk)).2.2 u hu
            · exact wm u hu
          (repeat (first | refine ⟨_, rfl, ?_⟩ | refine ⟨rfl, ?_⟩ | refine ⟨_, _, rfl, rfl, ?_⟩ | refine iteT ?_ | refine iteF ?_ | refine ⟨(by show (0 : Int) < _; omega), ?_⟩ | refine ⟨(⟨by omega, by omega⟩ : CDiv _ _), ?_⟩ | refine ⟨(⟨by decide, by decide, by decide⟩ : CPow _ _), ?_⟩ | refine ⟨(.inl ⟨by omega, by omega⟩ : CMul _ _), ?_⟩ | refine ⟨(.inr ⟨by omega, by omega⟩ : CMul _ _), ?_⟩ | refine Or.inl ⟨_, rfl, ?_⟩ | refine Or.inr ⟨_, rfl, ?_⟩ | refine ⟨_, _, _, _, true, rfl, .ty _, .base (.str _), kit_ty (by decide +kernel), ?_⟩ | refine ⟨_, _, rfl, ⟨by rw [sizeLine_eq]; omega, rfl⟩, ?_⟩ | refine ⟨_, _, rfl, .inl ⟨_, SqL.of (by assumption), rfl⟩, ?_⟩ | refine ⟨_, _, rfl, .inr ⟨_, SqT.of (by assumption), rfl⟩, ?_⟩))
          refine ⟨(by show 2 ≤ sizeLine; rw [sizeLine_eq]; omega), fun t nt => ?_⟩
          (repeat (first | refine ⟨_, rfl, ?_⟩ | refine ⟨rfl, ?_⟩ | refine ⟨_, _, rfl, rfl, ?_⟩ | refine iteT ?_ | refine iteF ?_ | refine ⟨(by show (0 : Int) < _; omega), ?_⟩ | refine ⟨(⟨by omega, by omega⟩ : CDiv _ _), ?_⟩ | refine ⟨(⟨by decide, by decide, by decide⟩ : CPow _ _), ?_⟩ | refine ⟨(.inl ⟨by omega, by omega⟩ : CMul _ _), ?_⟩ | refine ⟨(.inr ⟨by omega, by omega⟩ : CMul _ _), ?_⟩ | refine Or.inl ⟨_, rfl, ?_⟩ | refine Or.inr ⟨_, rfl, ?_⟩ | refine ⟨_, _, _, _, true, rfl, .ty _, .base (.str _), kit_ty (by decide +kernel), ?_⟩ | refine ⟨_, _, rfl, ⟨by rw [sizeLine_eq]; omega, rfl⟩, ?_⟩ | refine ⟨_, _, rfl, .inl ⟨_, SqL.of (by assumption), rfl⟩, ?_⟩ | refine ⟨_, _, rfl, .inr ⟨_, SqT.of (by assumption), rfl⟩, ?_⟩))
          exact k t _ _ _ _ upd_same (fi.lay nt)
    · (repeat (first | refine ⟨_, rfl, ?_⟩ | refine ⟨rfl, ?_⟩ | refine ⟨_, _, rfl, rfl, ?_⟩ | refine iteT ?_ | refine iteF ?_ | refine ⟨(by show (0 : Int) < _; omega), ?_⟩ | refine ⟨(⟨by omega, by omega⟩ : CDiv _ _), ?_⟩ | refine ⟨(⟨by decide, by decide, by decide⟩ : CPow _ _), ?_⟩ | refine ⟨(.inl ⟨by omega, by omega⟩ : CMul _ _), ?_⟩ | refine ⟨(.inr ⟨by omega, by omega⟩ : CMul _ _), ?_⟩ | refine Or.inl ⟨_, rfl, ?_⟩ | refine Or.inr ⟨_, rfl, ?_⟩ | refine ⟨_, _, _, _, true, rfl, .ty _, .base (.str _), kit_ty (by decide +kernel), ?_⟩ | refine ⟨_, _, rfl, ⟨by rw [sizeLine_eq]; omega, rfl⟩, ?_⟩ | refine ⟨_, _, rfl, .inl ⟨_, SqL.of (by assumption), rfl⟩, ?_⟩ | refine ⟨_, _, rfl, .inr ⟨_, SqT.of (by assumption), rfl⟩, ?_⟩))
      -- people != []
      refine ⟨Nat.zero_le _, fun y0 ny0 => ?_⟩
      have h0' := h.lay (o := .lst []) ny0
      refine ⟨_, _, dp_strs h0'.ha, dp_strs (ps := []) upd_same, shaped_strs (fun x hx => (h.sz.sp x hx).ok), shaped_strs (fun _ h => by cases h), ?_⟩
      rw [eqv_strs]
      clear h
      generalize hGe : upd H3 y0 (.lst []) = He at *
      have h := h0'
      clear h0' hGe
      by_cases hne : ps = []
      · rw [decide_eq_true hne]
        have fi := h.mono
        (repeat (first | refine ⟨_, rfl, ?_⟩ | refine ⟨rfl, ?_⟩ | refine ⟨_, _, rfl, rfl, ?_⟩ | refine iteT ?_ | refine iteF ?_ | refine ⟨(by show (0 : Int) < _; omega), ?_⟩ | refine ⟨(⟨by omega, by omega⟩ : CDiv _ _), ?_⟩ | refine ⟨(⟨by decide, by decide, by decide⟩ : CPow _ _), ?_⟩ | refine ⟨(.inl ⟨by omega, by omega⟩ : CMul _ _), ?_⟩ | refine ⟨(.inr ⟨by omega, by omega⟩ : CMul _ _), ?_⟩ | refine Or.inl ⟨_, rfl, ?_⟩ | refine Or.inr ⟨_, rfl, ?_⟩ | refine ⟨_, _, _, _, true, rfl, .ty _, .base (.str _), kit_ty (by decide +kernel), ?_⟩ | refine ⟨_, _, rfl, ⟨by rw [sizeLine_eq]; omega, rfl⟩, ?_⟩ | refine ⟨_, _, rfl, .inl ⟨_, SqL.of (by assumption), rfl⟩, ?_⟩ | refine ⟨_, _, rfl, .inr ⟨_, SqT.of (by assumption), rfl⟩, ?_⟩))
        refine ⟨(by show 2 ≤ sizeLine; rw [sizeLine_eq]; omega), fun t nt => ?_⟩
        (repeat (first | refine ⟨_, rfl, ?_⟩ | refine ⟨rfl, ?_⟩ | refine ⟨_, _, rfl, rfl, ?_⟩ | refine iteT ?_ | refine iteF ?_ | refine ⟨(by show (0 : Int) < _; omega), ?_⟩ | refine ⟨(⟨by omega, by omega⟩ : CDiv _ _), ?_⟩ | refine ⟨(⟨by decide, by decide, by decide⟩ : CPow _ _), ?_⟩ | refine ⟨(.inl ⟨by omega, by omega⟩ : CMul _ _), ?_⟩ | refine ⟨(.inr ⟨by omega, by omega⟩ : CMul _ _), ?_⟩ | refine Or.inl ⟨_, rfl, ?_⟩ | refine Or.inr ⟨_, rfl, ?_⟩ | refine ⟨_, _, _, _, true, rfl, .ty _, .base (.str _), kit_ty (by decide +kernel), ?_⟩ | refine ⟨_, _, rfl, ⟨by rw [sizeLine_eq]; omega, rfl⟩, ?_⟩ | refine ⟨_, _, rfl, .inl ⟨_, SqL.of (by assumption), rfl⟩, ?_⟩ | refine ⟨_, _, rfl, .inr ⟨_, SqT.of (by assumption), rfl⟩, ?_⟩))
        exact k t _ _ _ _ upd_same (fi.lay nt)
      · rw [decide_eq_false hne]
        -- people[take(len(people))]
        have hah := h.ha
        have l1 : 1 ≤ ps.length := List.length_pos_iff.mpr hne
        (repeat (first | refine ⟨_, rfl, ?_⟩ | refine ⟨rfl, ?_⟩ | refine ⟨_, _, rfl, rfl, ?_⟩ | refine iteT ?_ | refine iteF ?_ | refine ⟨(by show (0 : Int) < _; omega), ?_⟩ | refine ⟨(⟨by omega, by omega⟩ : CDiv _ _), ?_⟩ | refine ⟨(⟨by decide, by decide, by decide⟩ : CPow _ _), ?_⟩ | refine ⟨(.inl ⟨by omega, by omega⟩ : CMul _ _), ?_⟩ | refine ⟨(.inr ⟨by omega, by omega⟩ : CMul _ _), ?_⟩ | refine Or.inl ⟨_, rfl, ?_⟩ | refine Or.inr ⟨_, rfl, ?_⟩ | refine ⟨_, _, _, _, true, rfl, .ty _, .base (.str _), kit_ty (by decide +kernel), ?_⟩ | refine ⟨_, _, rfl, ⟨by rw [sizeLine_eq]; omega, rfl⟩, ?_⟩ | refine ⟨_, _, rfl, .inl ⟨_, SqL.of (by assumption), rfl⟩, ?_⟩ | refine ⟨_, _, rfl, .inr ⟨_, SqT.of (by assumption), rfl⟩, ?_⟩))
        refine ⟨sc, wl, _, ns, rfl, h.hs, h.hw, (by rw [List.length_map]; omega), (by have := h.sz.lp; rw [List.length_map]; omega), hn, fun n5 H5 a5 b5 k5 => ?_⟩
        rw [List.length_map] at b5
        obtain ⟨x, hx, ex⟩ := at_strs a5 b5
        have wx : Wd x := h.sz.sp x hx
        -- person = ..; if person in lists: row = lists[person]; more = [odd]
        refine ⟨a, _, n5, _, rfl, rfl, SqL.of (h.kp k5).ha, ex, ?_⟩
        have hh := h.kp k5
        clear h hah
        refine g_name ?_
        try dsimp only
        (repeat (first | refine ⟨_, rfl, ?_⟩ | refine ⟨rfl, ?_⟩ | refine ⟨_, _, rfl, rfl, ?_⟩ | refine iteT ?_ | refine iteF ?_ | refine ⟨(by show (0 : Int) < _; omega), ?_⟩ | refine ⟨(⟨by omega, by omega⟩ : CDiv _ _), ?_⟩ | refine ⟨(⟨by decide, by decide, by decide⟩ : CPow _ _), ?_⟩ | refine ⟨(.inl ⟨by omega, by omega⟩ : CMul _ _), ?_⟩ | refine ⟨(.inr ⟨by omega, by omega⟩ : CMul _ _), ?_⟩ | refine Or.inl ⟨_, rfl, ?_⟩ | refine Or.inr ⟨_, rfl, ?_⟩ | refine ⟨_, _, _, _, true, rfl, .ty _, .base (.str _), kit_ty (by decide +kernel), ?_⟩ | refine ⟨_, _, rfl, ⟨by rw [sizeLine_eq]; omega, rfl⟩, ?_⟩ | refine ⟨_, _, rfl, .inl ⟨_, SqL.of (by assumption), rfl⟩, ?_⟩ | refine ⟨_, _, rfl, .inr ⟨_, SqT.of (by assumption), rfl⟩, ?_⟩))
        obtain ⟨kvs, hd, R⟩ := hh.ex
        have g := R.get x
        cases lk : rows.lookup x with
        | none =>
          rw [lk] at g
          refine ⟨d, none, rfl, .inl ⟨kvs, .inr x, .inl hd, rfl, g.symm⟩, ?_⟩
          have fi := hh.mono
          (repeat (first | refine ⟨_, rfl, ?_⟩ | refine ⟨rfl, ?_⟩ | refine ⟨_, _, rfl, rfl, ?_⟩ | refine iteT ?_ | refine iteF ?_ | refine ⟨(by show (0 : Int) < _; omega), ?_⟩ | refine ⟨(⟨by omega, by omega⟩ : CDiv _ _), ?_⟩ | refine ⟨(⟨by decide, by decide, by decide⟩ : CPow _ _), ?_⟩ | refine ⟨(.inl ⟨by omega, by omega⟩ : CMul _ _), ?_⟩ | refine ⟨(.inr ⟨by omega, by omega⟩ : CMul _ _), ?_⟩ | refine Or.inl ⟨_, rfl, ?_⟩ | refine Or.inr ⟨_, rfl, ?_⟩ | refine ⟨_, _, _, _, true, rfl, .ty _, .base (.str _), kit_ty (by decide +kernel), ?_⟩ | refine ⟨_, _, rfl, ⟨by rw [sizeLine_eq]; omega, rfl⟩, ?_⟩ | refine ⟨_, _, rfl, .inl ⟨_, SqL.of (by assumption), rfl⟩, ?_⟩ | refine ⟨_, _, rfl, .inr ⟨_, SqT.of (by assumption), rfl⟩, ?_⟩))
          refine ⟨(by show 2 ≤ sizeLine; rw [sizeLine_eq]; omega), fun t nt => ?_⟩
          (repeat (first | refine ⟨_, rfl, ?_⟩ | refine ⟨rfl, ?_⟩ | refine ⟨_, _, rfl, rfl, ?_⟩ | refine iteT ?_ | refine iteF ?_ | refine ⟨(by show (0 : Int) < _; omega), ?_⟩ | refine ⟨(⟨by omega, by omega⟩ : CDiv _ _), ?_⟩ | refine ⟨(⟨by decide, by decide, by decide⟩ : CPow _ _), ?_⟩ | refine ⟨(.inl ⟨by omega, by omega⟩ : CMul _ _), ?_⟩ | refine ⟨(.inr ⟨by omega, by omega⟩ : CMul _ _), ?_⟩ | refine Or.inl ⟨_, rfl, ?_⟩ | refine Or.inr ⟨_, rfl, ?_⟩ | refine ⟨_, _, _, _, true, rfl, .ty _, .base (.str _), kit_ty (by decide +kernel), ?_⟩ | refine ⟨_, _, rfl, ⟨by rw [sizeLine_eq]; omega, rfl⟩, ?_⟩ | refine ⟨_, _, rfl, .inl ⟨_, SqL.of (by assumption), rfl⟩, ?_⟩ | refine ⟨_, _, rfl, .inr ⟨_, SqT.of (by assumption), rfl⟩, ?_⟩))
          exact k t _ _ _ _ upd_same (fi.lay nt)
        | some ws =>
          rw [lk] at g
          obtain ⟨rl, g1, g2, hrl⟩ := g
          have lws : ws.length ≤ 24 + 26 * j := (hh.sz.sr _ (mem_of_look lk)).2.1
          have get1 : DGet H5 d (.str x) (some (.ref rl)) := .inl ⟨kvs, .inr x, .inl hd, rfl, g1.symm⟩
          refine ⟨d, some (.ref rl), rfl, get1, ?_⟩
          (repeat (first | refine ⟨_, rfl, ?_⟩ | refine ⟨rfl, ?_⟩ | refine ⟨_, _, rfl, rfl, ?_⟩ | refine iteT ?_ | refine iteF ?_ | refine ⟨(by show (0 : Int) < _; omega), ?_⟩ | refine ⟨(⟨by omega, by omega⟩ : CDiv _ _), ?_⟩ | refine ⟨(⟨by decide, by decide, by decide⟩ : CPow _ _), ?_⟩ | refine ⟨(.inl ⟨by omega, by omega⟩ : CMul _ _), ?_⟩ | refine ⟨(.inr ⟨by omega, by omega⟩ : CMul _ _), ?_⟩ | refine Or.inl ⟨_, rfl, ?_⟩ | refine Or.inr ⟨_, rfl, ?_⟩ | refine ⟨_, _, _, _, true, rfl, .ty _, .base (.str _), kit_ty (by decide +kernel), ?_⟩ | refine ⟨_, _, rfl, ⟨by rw [sizeLine_eq]; omega, rfl⟩, ?_⟩ | refine ⟨_, _, rfl, .inl ⟨_, SqL.of (by assumption), rfl⟩, ?_⟩ | refine ⟨_, _, rfl, .inr ⟨_, SqT.of (by assumption), rfl⟩, ?_⟩))
          refine ⟨d, .ref rl, rfl, get1, ?_⟩
          refine g_name ?_
          try dsimp only
          refine seq_asg ?_
          (repeat (first | refine ⟨_, rfl, ?_⟩ | refine ⟨rfl, ?_⟩ | refine ⟨_, _, rfl, rfl, ?_⟩ | refine iteT ?_ | refine iteF ?_ | refine ⟨(by show (0 : Int) < _; omega), ?_⟩ | refine ⟨(⟨by omega, by omega⟩ : CDiv _ _), ?_⟩ | refine ⟨(⟨by decide, by decide, by decide⟩ : CPow _ _), ?_⟩ | refine ⟨(.inl ⟨by omega, by omega⟩ : CMul _ _), ?_⟩ | refine ⟨(.inr ⟨by omega, by omega⟩ : CMul _ _), ?_⟩ | refine Or.inl ⟨_, rfl, ?_⟩ | refine Or.inr ⟨_, rfl, ?_⟩ | refine ⟨_, _, _, _, true, rfl, .ty _, .base (.str _), kit_ty (by decide +kernel), ?_⟩ | refine ⟨_, _, rfl, ⟨by rw [sizeLine_eq]; omega, rfl⟩, ?_⟩ | refine ⟨_, _, rfl, .inl ⟨_, SqL.of (by assumption), rfl⟩, ?_⟩ | refine ⟨_, _, rfl, .inr ⟨_, SqT.of (by assumption), rfl⟩, ?_⟩))
          refine ⟨(by show 1 ≤ sizeLine; rw [sizeLine_eq]; omega), fun yo nyo => ?_⟩
          have so := Same.new (o := .lst [V.str odd]) nyo
          have ho : upd H5 yo (.lst [V.str odd]) yo = some (.lst ([odd].map V.str)) := upd_same
          generalize hGo : upd H5 yo (.lst [V.str odd]) = Go at *
          refine g_name ?_
          try dsimp only
          (repeat (first | refine ⟨_, rfl, ?_⟩ | refine ⟨rfl, ?_⟩ | refine ⟨_, _, rfl, rfl, ?_⟩ | refine iteT ?_ | refine iteF ?_ | refine ⟨(by show (0 : Int) < _; omega), ?_⟩ | refine ⟨(⟨by omega, by omega⟩ : CDiv _ _), ?_⟩ | refine ⟨(⟨by decide, by decide, by decide⟩ : CPow _ _), ?_⟩ | refine ⟨(.inl ⟨by omega, by omega⟩ : CMul _ _), ?_⟩ | refine ⟨(.inr ⟨by omega, by omega⟩ : CMul _ _), ?_⟩ | refine Or.inl ⟨_, rfl, ?_⟩ | refine Or.inr ⟨_, rfl, ?_⟩ | refine ⟨_, _, _, _, true, rfl, .ty _, .base (.str _), kit_ty (by decide +kernel), ?_⟩ | refine ⟨_, _, rfl, ⟨by rw [sizeLine_eq]; omega, rfl⟩, ?_⟩ | refine ⟨_, _, rfl, .inl ⟨_, SqL.of (by assumption), rfl⟩, ?_⟩ | refine ⟨_, _, rfl, .inr ⟨_, SqT.of (by assumption), rfl⟩, ?_⟩))
          obtain ⟨G, rfl⟩ : ∃ G, G = Go := ⟨_, rfl⟩
          have sg := so
          obtain ⟨y, rfl⟩ : ∃ y, y = yo := ⟨_, rfl⟩
          obtain ⟨more, em⟩ : ∃ more : List Str, more = [odd] := ⟨_, rfl⟩
          have hy := ho
          rw [← em] at hy
          have lm : more.length ≤ 26 := by rw [em]; show 1 ≤ 26; omega
          have wm : ∀ u ∈ more, Wd u := fun u hu => by
            rw [em] at hu
            rw [List.mem_singleton.mp hu]
            exact wo
          (repeat (first | refine ⟨_, rfl, ?_⟩ | refine ⟨rfl, ?_⟩ | refine ⟨_, _, rfl, rfl, ?_⟩ | refine iteT ?_ | refine iteF ?_ | refine ⟨(by show (0 : Int) < _; omega), ?_⟩ | refine ⟨(⟨by omega, by omega⟩ : CDiv _ _), ?_⟩ | refine ⟨(⟨by decide, by decide, by decide⟩ : CPow _ _), ?_⟩ | refine ⟨(.inl ⟨by omega, by omega⟩ : CMul _ _), ?_⟩ | refine ⟨(.inr ⟨by omega, by omega⟩ : CMul _ _), ?_⟩ | refine Or.inl ⟨_, rfl, ?_⟩ | refine Or.inr ⟨_, rfl, ?_⟩ | refine ⟨_, _, _, _, true, rfl, .ty _, .base (.str _), kit_ty (by decide +kernel), ?_⟩ | refine ⟨_, _, rfl, ⟨by rw [sizeLine_eq]; omega, rfl⟩, ?_⟩ | refine ⟨_, _, rfl, .inl ⟨_, SqL.of (by assumption), rfl⟩, ?_⟩ | refine ⟨_, _, rfl, .inr ⟨_, SqT.of (by assumption), rfl⟩, ?_⟩))
          -- lists[person] = row + more, more at y
          refine ⟨rl, y, _, _, rfl, rfl, sg _ _ hrl, hy, (by rw [List.length_map, List.length_map, sizeLine_eq]; omega), fun q nq => ?_⟩
          rw [← List.map_append]
          have sq := Same.put (o := .lst ((ws ++ more).map V.str)) sg (sg.free nq)
          have hq : upd G q (.lst ((ws ++ more).map V.str)) q = _ := upd_same
          generalize hGq : upd G q (.lst ((ws ++ more).map V.str)) = Gq at *
          have gq := hh.same sq
          have qw : q ≠ wl := hh.hw.ne (sg.free nq)
          have Rq := R.same sq
          (repeat (first | refine ⟨_, rfl, ?_⟩ | refine ⟨rfl, ?_⟩ | refine ⟨_, _, rfl, rfl, ?_⟩ | refine iteT ?_ | refine iteF ?_ | refine ⟨(by show (0 : Int) < _; omega), ?_⟩ | refine ⟨(⟨by omega, by omega⟩ : CDiv _ _), ?_⟩ | refine ⟨(⟨by decide, by decide, by decide⟩ : CPow _ _), ?_⟩ | refine ⟨(.inl ⟨by omega, by omega⟩ : CMul _ _), ?_⟩ | refine ⟨(.inr ⟨by omega, by omega⟩ : CMul _ _), ?_⟩ | refine Or.inl ⟨_, rfl, ?_⟩ | refine Or.inr ⟨_, rfl, ?_⟩ | refine ⟨_, _, _, _, true, rfl, .ty _, .base (.str _), kit_ty (by decide +kernel), ?_⟩ | refine ⟨_, _, rfl, ⟨by rw [sizeLine_eq]; omega, rfl⟩, ?_⟩ | refine ⟨_, _, rfl, .inl ⟨_, SqL.of (by assumption), rfl⟩, ?_⟩ | refine ⟨_, _, rfl, .inr ⟨_, SqT.of (by assumption), rfl⟩, ?_⟩))
          refine ⟨d, _, rfl, .inl ⟨kvs, .inr x, sq _ _ hd, rfl, small1000 (by rw [R.length]; have := hh.sz.lr; omega), rfl⟩, ?_⟩
          have fi := gq.dput (n := x) Rq qw hq wx (by rw [List.length_append]; omega) fun u hu => by
            rcases List.mem_append.mp hu with hu | hu
            · exact (hh.sz.sr _ (mem_of_look lk)).2.2 u hu
            · exact wm u hu
          (repeat (first | refine ⟨_, rfl, ?_⟩ | refine ⟨rfl, ?_⟩ | refine ⟨_, _, rfl, rfl, ?_⟩ | refine iteT ?_ | refine iteF ?_ | refine ⟨(by show (0 : Int) < _; omega), ?_⟩ | refine ⟨(⟨by omega, by omega⟩ : CDiv _ _), ?_⟩ | refine ⟨(⟨by decide, by decide, by decide⟩ : CPow _ _), ?_⟩ | refine ⟨(.inl ⟨by omega, by omega⟩ : CMul _ _), ?_⟩ | refine ⟨(.inr ⟨by omega, by omega⟩ : CMul _ _), ?_⟩ | refine Or.inl ⟨_, rfl, ?_⟩ | refine Or.inr ⟨_, rfl, ?_⟩ | refine ⟨_, _, _, _, true, rfl, .ty _, .base (.str _), kit_ty (by decide +kernel), ?_⟩ | refine ⟨_, _, rfl, ⟨by rw [sizeLine_eq]; omega, rfl⟩, ?_⟩ | refine ⟨_, _, rfl, .inl ⟨_, SqL.of (by assumption), rfl⟩, ?_⟩ | refine ⟨_, _, rfl, .inr ⟨_, SqT.of (by assumption), rfl⟩, ?_⟩))
          refine ⟨(by show 2 ≤ sizeLine; rw [sizeLine_eq]; omega), fun t nt => ?_⟩
          (repeat (first | refine ⟨_, rfl, ?_⟩ | refine ⟨rfl, ?_⟩ | refine ⟨_, _, rfl, rfl, ?_⟩ | refine iteT ?_ | refine iteF ?_ | refine ⟨(by show (0 : Int) < _; omega), ?_⟩ | refine ⟨(⟨by omega, by omega⟩ : CDiv _ _), ?_⟩ | refine ⟨(⟨by decide, by decide, by decide⟩ : CPow _ _), ?_⟩ | refine ⟨(.inl ⟨by omega, by omega⟩ : CMul _ _), ?_⟩ | refine ⟨(.inr ⟨by omega, by omega⟩ : CMul _ _), ?_⟩ | refine Or.inl ⟨_, rfl, ?_⟩ | refine Or.inr ⟨_, rfl, ?_⟩ | refine ⟨_, _, _, _, true, rfl, .ty _, .base (.str _), kit_ty (by decide +kernel), ?_⟩ | refine ⟨_, _, rfl, ⟨by rw [sizeLine_eq]; omega, rfl⟩, ?_⟩ | refine ⟨_, _, rfl, .inl ⟨_, SqL.of (by assumption), rfl⟩, ?_⟩ | refine ⟨_, _, rfl, .inr ⟨_, SqT.of (by assumption), rfl⟩, ?_⟩))
          exact k t _ _ _ _ upd_same (fi.lay nt)
end
end BF25
set_option Elab.async false
set_option linter.all false
set_option maxRecDepth 100000
set_option maxHeartbeats 4000000
namespace BF25
open BF
open PySem PySem.Spec PyProof.Rows L2
open C8 (Cal CalAt Met Mak cal0 met0 mak0 fn0 pe_c pe_mk pe_mt pe_mt0 pe_gc fnScope fnBody fnArgs fnScope_by)
open SX
section
variable {P : Program} {w : World} {K : PySem.W.Frag} {mg : Str → Option Value} {base : Heap} {A : Ad}
theorem Drawn.good {ps : List Str} {rows : List Rw} (h : Drawn ps rows) : Good ps rows := ⟨h.len, h.nd, h.nm, by rw [h.keys], h.row⟩
theorem Drawn.put {ps : List Str} {rows : List Rw} {n : Str} {ws : List Str} (h : Drawn ps rows) (hn : n ∈ ps) (l : ws.length ≤ 24) (nd : ws.Nodup) (nm : ∀ x ∈ ws, isNm x = true) : Drawn ps (putR rows n ws) :=
  ⟨h.len, h.nd, h.nm, by rw [put_keys, if_pos (by rw [h.keys]; exact hn)]; exact h.keys, (h.good.put hn l nd nm).row⟩
theorem _root_.BF.Good.made {ps : List Str} {rows : List Rw} (g : Good ps rows) : peF ps = none := by
  unfold peF
  rw [if_pos g.len, g.fw]
  rfl
theorem _root_.BF.Good.mid {ps : List Str} {rows : List Rw} (g : Good ps rows) : Mid rows := fun r hr =>
  have h := g.row r hr
  ⟨by omega, fun x hx => by have := (wd_nm (h.2.2 x hx)).1; omega⟩
theorem _root_.BF.St.given {H : Hp} {s p a d : Addr} {ns : List Int} {ps : List Str} {rows : List Rw} {k : Nat} (h : St K H s p a d ns ps rows k) (hk : k ≤ 2) : Given H a d ps rows :=
  ⟨let ⟨kvs, e, R⟩ := h.ex; ⟨kvs, _, e, R⟩, h.ha, h.sz.nk, by have := h.sz.lr; omega, by have := h.sz.lp; omega, fun x hx => by have := (h.sz.sp x hx).1; omega, fun r hr => by
    have q := h.sz.sr r hr
    exact ⟨by have := q.2.1; omega, fun x hx => by have := (q.2.2 x hx).1; omega⟩⟩
theorem due_sc (x : DueH) : (∀ v ∈ dueT x, Sc v) ∧ (dueT x).length ≤ 1000 := by
  cases x with
  | things k => exact ⟨fun v hv => by
      rcases List.mem_cons.mp hv with e | e
      · rw [e]; exact .str _
      · rw [List.mem_singleton.mp e]; exact .int _, by show 2 ≤ 1000; omega⟩
  | jobs n => exact ⟨fun v hv => by
      rcases List.mem_cons.mp hv with e | e
      · rw [e]; exact .str _
      · rw [List.mem_singleton.mp e]; exact .str _, by show 2 ≤ 1000; omega⟩
  | made => exact ⟨fun v hv => by rw [List.mem_singleton.mp hv]; exact .str _, by show 1 ≤ 1000; omega⟩
theorem strs_sc (xs : List Str) : ∀ v ∈ xs.map V.str, Sc v := fun v hv => by
  obtain ⟨x, _, rfl⟩ := List.mem_map.mp hv
  exact .str x
theorem _root_.BF.HireO.obj {C : Addr} {N : Addr → Prop} {H : Hp} {x : Addr} {ps : List Str} {rows : List Rw} (h : HireO C N H x ps rows) : ∃ dx fs, H x = some (.ins C dx fs) := let ⟨dx, _, _, _, _, _, _, e, _⟩ := h.ex; ⟨dx, _, e⟩
theorem seq_joinS {O : Ends} {t u : TS} {σ : L2.St} {H : Hp} (J : L2.St → Hp → Prop) (h1 : ∀ O' : Ends, (∀ τ G, J τ G → O'.nx τ G) → t O' σ H) (h2 : ∀ τ G, J τ G → u O τ G) : tSeq t u O σ H := h1 _ h2
theorem _root_.BF.St.at {K : PySem.W.Frag} {H : Hp} {s p a d : Addr} {ns : List Int} {ps : List Str} {rows : List Rw} {k : Nat} {x : Str} {ws : List Str} (h : St K H s p a d ns ps rows k) (lk : rows.lookup x = some ws) : ∃ l, DGet H d (.str x) (some (.ref l)) ∧ H l = some (.lst (ws.map V.str)) := by
  obtain ⟨kvs, hd, R⟩ := h.ex
  have g := R.get x
  rw [lk] at g
  obtain ⟨l, g1, _, g3⟩ := g
  exact ⟨l, .inl ⟨kvs, .inr x, .inl hd, rfl, g1.symm⟩, g3⟩
theorem seq_join {O : Ends} {t u : TS} {σ : L2.St} {H : Hp} (J : Hp → Prop) (h1 : ∀ O' : Ends, (∀ G, J G → O'.nx σ G) → t O' σ H) (h2 : ∀ G, J G → u O σ G) : tSeq t u O σ H := h1 _ h2
theorem ok_law (T : Txt K mg A) (hb : ∀ (s : Shared) (u : Value), BindsTo s A.fd_law ⟨[u], []⟩ [("script", u)]) : TopOk P w K mg base 63 A.f_law := fun s H sc ns e0 hS hn => by
  refine run_top (k := 8) (sp := fun _ _ _ _ => True) (vs := [.ref sc]) (ps := ["script"]) T.d_law.fn sc_law ⟨rfl, by decide, by decide⟩ (fun cd hr => ?_) e0 (hb _ _) (by exact .cons rfl .nil) rfl
  have hgu : (callerA.deeper (envOfC "law" (C8.fnScope s_law) s.heap.objs.size A.f_law cd)).guards = some [] := rfl
  clear e0
  refine ⟨_, (pss_cons (ps_set (i := 1) sc_law.nd rfl (by first | exact Or.inl rfl | exact Or.inr rfl) (pe_lst (pa_cons pe_int (pa_cons pe_int (pa_cons pe_int (pa_cons pe_int pa_nil))))))
 (pss_cons (ps_asg (pe_c (cal_law_people T) hr (by decide) rfl (pa_cons (pv 0) (pa_cons (pv 1) (pa_cons pe_int (pa_cons pe_int pa_nil))))) (pg_tup (by rfl) (pgs_cons (pg_name (i := 2) sc_law.nd rfl (by first | exact Or.inl rfl | exact Or.inr rfl)) (pgs_cons (pg_name (i := 3) sc_law.nd rfl (by first | exact Or.inl rfl | exact Or.inr rfl)) pgs_nil))))
 (pss_cons (ps_if (PW.pt (pw_and (pt_cmpR (neDK K hr) (pv 2) (pe_lst pa_nil) (nomark _)) (pw_and1 (pt_cmpR op_eq (pe_c (cal_law_take T) hr (by decide) rfl (pa_cons (pv 0) (pa_cons (pv 1) (pa_cons pe_int pa_nil)))) pe_int (nomark _))))) (pss_one (ps_dput (hu_of hr) (pv 3) (pe_ix (ixLK K) (pv 2) (pe_un un_neg pe_int) (fun _ _ => rfl)) (pe_c (cal_law_shuffled T) hr (by decide) rfl (pa_cons (pv 0) (pa_cons (pv 1) (pa_cons (pe_lc (own := [("letter", 13)]) (g := gName 13) rfl sc_law.nd (pi_str pe_str) (blkOk_by (own := [("letter", 13)]) (N := N_law) (sc := fnScope s_law) (by decide +kernel)) (fun _ _ _ _ _ => (pg_name (i := 13) sc_law.nd rfl (by first | exact Or.inl rfl | exact Or.inr rfl))) (fun _ _ _ _ _ => pts_nil) (fun _ _ _ _ _ => (pe_op op_add_str (pv 13) pe_str))) pa_nil)))) rfl)) pss_nil)
 (pss_cons (ps_set (i := 4) sc_law.nd rfl (by first | exact Or.inl rfl | exact Or.inr rfl) (pe_lst (pa_cons (pe_callTy (listK K) (by rfl) T.z_list (by decide +kernel) (pa_cons (pv 2) pa_nil)) (pa_cons pe_dnewK pa_nil))))
 (pss_cons (ps_for PassesOwn.never rfl (pi_list (pv 2)) (pg_name (i := 5) sc_law.nd rfl (by first | exact Or.inl rfl | exact Or.inr rfl)) (pss_one (ps_expr (pe_dupd (pe_ix (ixLK K) (pv 4) pe_int (fun _ _ => rfl)) (pe_disp (pps_cons (pv 5) (pe_callTy (listK K) (by rfl) T.z_list (by decide +kernel) (pa_cons (pe_dget (hu_of hr) (pv 3) (pv 5) (fun _ _ => rfl)) pa_nil)) pps_nil) rfl rfl (by decide) (by decide)) (by exact ⟨rfl, rfl, rfl, rfl⟩)))))
 (pss_cons (ps_set (i := 6) sc_law.nd rfl (by first | exact Or.inl rfl | exact Or.inr rfl) (pe_mkN (mak_Hires T) hr (by decide) rfl (pa_cons (pe_ix (ixLK K) (pv 4) pe_int (fun _ _ => rfl)) (pa_cons (pe_ix (ixLK K) (pv 4) pe_int (fun _ _ => rfl)) pa_nil))))
 (pss_cons (ps_expr (pe_bm PySem.F.plainAttrs_list PySem.F.slot_list_append PySem.F.type_list_append mt_append (pe_ix (ixLK K) (pv 4) pe_int (fun _ _ => rfl)) (pa_cons pe_str pa_nil)))
 (pss_cons (ps_for PassesOwn.never rfl (pi_list (pv 2)) (pg_name (i := 5) sc_law.nd rfl (by first | exact Or.inl rfl | exact Or.inr rfl)) (pss_cons (ps_set (i := 7) sc_law.nd rfl (by first | exact Or.inl rfl | exact Or.inr rfl) (pe_dget1 (hu_of hr) (pe_ix (ixLK K) (pv 4) pe_int (fun _ _ => rfl)) (pv 5) (by exact ⟨rfl, rfl, rfl, rfl⟩)))
 (pss_one (ps_expr (pe_bm PySem.F.plainAttrs_list PySem.F.slot_list_append PySem.F.type_list_append mt_append (pv 7) (pa_cons pe_str pa_nil))))))
 (pss_cons (ps_for PassesOwn.never rfl (pi_range1 (by rfl) T.z_range (pa_cons pe_int pa_nil)) (pg_name (i := 8) sc_law.nd rfl (by first | exact Or.inl rfl | exact Or.inr rfl)) (pss_cons (ps_if (pt_not (pt_val (pe_c (cal_law_like T) hr (by decide) rfl (pa_cons (pe_mt0 (met_Hires_people T) hr (by decide) (pv 6)) (pa_cons (pe_callB (sortedSK K) (by rfl) T.z_sorted (by decide +kernel) (pa_cons (pv 2) pa_nil)) pa_nil))))) (pss_one (ps_ret pe_bl)) pss_nil)
 (pss_cons (ps_for PassesOwn.never rfl (pi_list (pv 2)) (pg_name (i := 5) sc_law.nd rfl (by first | exact Or.inl rfl | exact Or.inr rfl)) (pss_cons (ps_set (i := 9) sc_law.nd rfl (by first | exact Or.inl rfl | exact Or.inr rfl) (pe_mtN (met_Hires_jobs_of T) hr (by decide) (pv 6) (pa_cons (pv 5) pa_nil)))
 (pss_cons (ps_if (pt_not (pt_val (pe_c (cal_law_like T) hr (by decide) rfl (pa_cons (pv 9) (pa_cons (pe_callB (sortedSK K) (by rfl) T.z_sorted (by decide +kernel) (pa_cons (pe_dget (hu_of hr) (pv 3) (pv 5) (fun _ _ => rfl)) pa_nil)) pa_nil))))) (pss_one (ps_ret pe_bl)) pss_nil)
 (pss_one (ps_expr (pe_bm PySem.F.plainAttrs_list PySem.F.slot_list_append PySem.F.type_list_append mt_append (pv 9) (pa_cons pe_str pa_nil)))))))
 (pss_cons (ps_set (i := 9) sc_law.nd rfl (by first | exact Or.inl rfl | exact Or.inr rfl) (pe_mt0 (met_Hires_people T) hr (by decide) (pv 6)))
 (pss_one (ps_expr (pe_bm PySem.F.plainAttrs_list PySem.F.slot_list_append PySem.F.type_list_append mt_append (pv 9) (pa_cons pe_str pa_nil))))))))
 (pss_cons (ps_if (PW.pt (pw_and (pt_not (pt_val (pe_c (cal_law_like T) hr (by decide) rfl (pa_cons (pe_c (cal_law_nobody T) hr (by decide) rfl (pa_cons (pv 6) (pa_cons pe_str pa_nil))) (pa_cons (pe_tup (pa_cons pe_str (pa_cons pe_str pa_nil))) pa_nil))))) (pw_and1 (pt_cmpR (notIn_seqK K) pe_str (pv 2) rfl)))) (pss_one (ps_ret pe_bl)) pss_nil)
 (pss_cons (ps_set (i := 10) sc_law.nd rfl (by first | exact Or.inl rfl | exact Or.inr rfl) pe_dnewK)
 (pss_cons (ps_for PassesOwn.never rfl (pi_list (pe_lstRev K rfl (by rfl) T.z_list (by rfl) T.z_reversed (pv 2))) (pg_name (i := 5) sc_law.nd rfl (by first | exact Or.inl rfl | exact Or.inr rfl)) (pss_one (ps_dput (hu_of hr) (pv 10) (pv 5) (pe_lstRev K rfl (by rfl) T.z_list (by rfl) T.z_reversed (pe_dget (hu_of hr) (pv 3) (pv 5) (fun _ _ => rfl))) rfl)))
 (pss_cons (ps_if (pt_not (pt_cmpR (op_eq_Hires T hr) (pv 6) (pe_mkN (mak_Hires T) hr (by decide) rfl (pa_cons (pe_lstRev K rfl (by rfl) T.z_list (by rfl) T.z_reversed (pv 2)) (pa_cons (pv 10) pa_nil))) (nomark _))) (pss_one (ps_ret pe_bl)) pss_nil)
 (pss_cons (ps_if (PW.pt (pw_and (pt_cmpR (neDK K hr) (pv 2) (pe_lst pa_nil) (nomark _)) (pw_and1 (pt_cmpR op_lt (pe_callB (lenK K) (by rfl) T.z_len (by decide +kernel) (pa_cons (pe_dget (hu_of hr) (pv 3) (pe_ix (ixLK K) (pv 2) pe_int (fun _ _ => rfl)) (fun _ _ => rfl)) pa_nil)) pe_int (nomark _))))) (pss_cons (ps_dput (hu_of hr) (pv 10) (pe_ix (ixLK K) (pv 2) pe_int (fun _ _ => rfl)) (pe_op op_cat (pe_dget (hu_of hr) (pv 10) (pe_ix (ixLK K) (pv 2) pe_int (fun _ _ => rfl)) (fun _ _ => rfl)) (pe_lst (pa_cons pe_str pa_nil))) rfl)
 (pss_one (ps_if (PW.pt (pw_and (pt_cmpR (notIn_seqK K) pe_str (pe_dget (hu_of hr) (pv 3) (pe_ix (ixLK K) (pv 2) pe_int (fun _ _ => rfl)) (fun _ _ => rfl)) rfl) (pw_and1 (pt_cmpR (op_eq_Hires T hr) (pv 6) (pe_mkN (mak_Hires T) hr (by decide) rfl (pa_cons (pe_callTy (listK K) (by rfl) T.z_list (by decide +kernel) (pa_cons (pv 2) pa_nil)) (pa_cons (pv 10) pa_nil))) (nomark _))))) (pss_one (ps_ret pe_bl)) pss_nil))) pss_nil)
 (pss_cons (ps_for PassesOwn.never rfl (pi_range1 (by rfl) T.z_range (pa_cons pe_int pa_nil)) (pg_name (i := 11) sc_law.nd rfl (by first | exact Or.inl rfl | exact Or.inr rfl)) (pss_cons (ps_asg (pe_c (cal_law_spoiled T) hr (by decide) rfl (pa_cons (pv 0) (pa_cons (pv 1) (pa_cons (pv 2) (pa_cons (pv 3) pa_nil))))) (pg_tup (by rfl) (pgs_cons (pg_name (i := 2) sc_law.nd rfl (by first | exact Or.inl rfl | exact Or.inr rfl)) (pgs_cons (pg_name (i := 3) sc_law.nd rfl (by first | exact Or.inl rfl | exact Or.inr rfl)) pgs_nil))))
 (pss_cons (ps_set (i := 12) sc_law.nd rfl (by first | exact Or.inl rfl | exact Or.inr rfl) (pe_callB (cr_reprB hgu (hu8_of hr)) (by rfl) T.z_repr (by decide +kernel) (pa_cons (pe_tup (pa_cons (pv 2) (pa_cons (pv 3) pa_nil))) pa_nil)))
 (pss_one (ps_if (PW.pt (pw_or (pt_not (pt_val (pe_c (cal_law_like T) hr (by decide) rfl (pa_cons (pe_c (cal_law_made_so T) hr (by decide) rfl (pa_cons (pv 2) (pa_cons (pv 3) pa_nil))) (pa_cons (pe_c (cal_law_due T) hr (by decide) rfl (pa_cons (pv 2) (pa_cons (pv 3) pa_nil))) pa_nil))))) (pw_or1 (pt_cmpR op_ne (pe_callB (cr_reprB hgu (hu8_of hr)) (by rfl) T.z_repr (by decide +kernel) (pa_cons (pe_tup (pa_cons (pv 2) (pa_cons (pv 3) pa_nil))) pa_nil)) (pv 12) (nomark _))))) (pss_one (ps_ret pe_bl)) pss_nil)))))
 (pss_one (ps_ret pe_bl))))))))))))))))), ?_⟩
  refine ⟨(by show 4 ≤ sizeLine; rw [sizeLine_eq]; omega), fun wl nw => ?_⟩
  have hw0 : PoolAt (upd H wl (.lst [.int 0, .int 0, .int 0, .int 0])) wl := ⟨0, 0, 0, 0, upd_same⟩
  have hs0 : Scr K (upd H wl (.lst [.int 0, .int 0, .int 0, .int 0])) sc wl ns := Scr.of hS nw (Same.new nw)
  generalize upd H wl (.lst [.int 0, .int 0, .int 0, .int 0]) = Ha at *
  clear hS
  refine g_name ?_
  try dsimp only
  refine seq_asg ?_
  (repeat (first | refine ⟨_, rfl, ?_⟩ | refine ⟨rfl, ?_⟩ | refine ⟨_, _, rfl, rfl, ?_⟩ | refine iteT ?_ | refine iteF ?_ | refine ⟨(by show (0 : Int) < _; omega), ?_⟩ | refine ⟨(⟨by omega, by omega⟩ : CDiv _ _), ?_⟩ | refine ⟨(⟨by decide, by decide, by decide⟩ : CPow _ _), ?_⟩ | refine ⟨(.inl ⟨by omega, by omega⟩ : CMul _ _), ?_⟩ | refine ⟨(.inr ⟨by omega, by omega⟩ : CMul _ _), ?_⟩ | refine Or.inl ⟨_, rfl, ?_⟩ | refine Or.inr ⟨_, rfl, ?_⟩ | refine ⟨_, _, _, _, true, rfl, .ty _, .base (.str _), kit_ty (by decide +kernel), ?_⟩ | refine ⟨_, _, rfl, ⟨by rw [sizeLine_eq]; omega, rfl⟩, ?_⟩ | refine ⟨_, _, rfl, .inl ⟨_, SqL.of (by assumption), rfl⟩, ?_⟩ | refine ⟨_, _, rfl, .inr ⟨_, SqT.of (by assumption), rfl⟩, ?_⟩))
  refine ⟨sc, wl, ns, rfl, hs0, hn, hw0, fun t a d kvs ps rows Hb na nd kp ht ha hd hR hD => ?_⟩
  have h0 : St K Hb sc wl a d ns ps rows 0 := ⟨hs0.kp kp, kp.pool hw0, ha, ⟨kvs, hd, hR.mv fun l xs n e => ⟨hw0.ne n, e⟩⟩, hD.good.sz⟩
  clear hR hd ha na nd kp
  refine ⟨t, [.ref a, .ref d], rfl, SqT.of ht, rfl, ?_⟩
  clear ht
  refine ⟨_, _, rfl, g_name ⟨_, _, rfl, g_name ⟨rfl, ?_⟩⟩⟩
  refine seq_join (fun G => ∃ rows, St K G sc wl a d ns ps rows 0 ∧ Drawn ps rows) (fun O k => ?_) ?_
  · skip
    (repeat (first | refine ⟨_, rfl, ?_⟩ | refine ⟨rfl, ?_⟩ | refine ⟨_, _, rfl, rfl, ?_⟩ | refine iteT ?_ | refine iteF ?_ | refine ⟨(by show (0 : Int) < _; omega), ?_⟩ | refine ⟨(⟨by omega, by omega⟩ : CDiv _ _), ?_⟩ | refine ⟨(⟨by decide, by decide, by decide⟩ : CPow _ _), ?_⟩ | refine ⟨(.inl ⟨by omega, by omega⟩ : CMul _ _), ?_⟩ | refine ⟨(.inr ⟨by omega, by omega⟩ : CMul _ _), ?_⟩ | refine Or.inl ⟨_, rfl, ?_⟩ | refine Or.inr ⟨_, rfl, ?_⟩ | refine ⟨_, _, _, _, true, rfl, .ty _, .base (.str _), kit_ty (by decide +kernel), ?_⟩ | refine ⟨_, _, rfl, ⟨by rw [sizeLine_eq]; omega, rfl⟩, ?_⟩ | refine ⟨_, _, rfl, .inl ⟨_, SqL.of (by assumption), rfl⟩, ?_⟩ | refine ⟨_, _, rfl, .inr ⟨_, SqT.of (by assumption), rfl⟩, ?_⟩))
    refine ⟨Nat.zero_le _, fun y0 ny0 => ?_⟩
    have h1 := h0.lay (o := .lst []) ny0
    refine ⟨_, _, dp_strs h1.ha, dp_strs (ps := []) upd_same, shaped_strs (fun x hx => (h0.sz.sp x hx).ok), shaped_strs (fun _ h => by cases h), ?_⟩
    rw [eqv_strs]
    generalize upd Hb y0 (.lst []) = Hc at *
    clear h0
    by_cases hne : ps = []
    · rw [decide_eq_true hne]
      (repeat (first | refine ⟨_, rfl, ?_⟩ | refine ⟨rfl, ?_⟩ | refine ⟨_, _, rfl, rfl, ?_⟩ | refine iteT ?_ | refine iteF ?_ | refine ⟨(by show (0 : Int) < _; omega), ?_⟩ | refine ⟨(⟨by omega, by omega⟩ : CDiv _ _), ?_⟩ | refine ⟨(⟨by decide, by decide, by decide⟩ : CPow _ _), ?_⟩ | refine ⟨(.inl ⟨by omega, by omega⟩ : CMul _ _), ?_⟩ | refine ⟨(.inr ⟨by omega, by omega⟩ : CMul _ _), ?_⟩ | refine Or.inl ⟨_, rfl, ?_⟩ | refine Or.inr ⟨_, rfl, ?_⟩ | refine ⟨_, _, _, _, true, rfl, .ty _, .base (.str _), kit_ty (by decide +kernel), ?_⟩ | refine ⟨_, _, rfl, ⟨by rw [sizeLine_eq]; omega, rfl⟩, ?_⟩ | refine ⟨_, _, rfl, .inl ⟨_, SqL.of (by assumption), rfl⟩, ?_⟩ | refine ⟨_, _, rfl, .inr ⟨_, SqT.of (by assumption), rfl⟩, ?_⟩))
      exact k _ ⟨rows, h1, hD⟩
    · rw [decide_eq_false hne]
      (repeat (first | refine ⟨_, rfl, ?_⟩ | refine ⟨rfl, ?_⟩ | refine ⟨_, _, rfl, rfl, ?_⟩ | refine iteT ?_ | refine iteF ?_ | refine ⟨(by show (0 : Int) < _; omega), ?_⟩ | refine ⟨(⟨by omega, by omega⟩ : CDiv _ _), ?_⟩ | refine ⟨(⟨by decide, by decide, by decide⟩ : CPow _ _), ?_⟩ | refine ⟨(.inl ⟨by omega, by omega⟩ : CMul _ _), ?_⟩ | refine ⟨(.inr ⟨by omega, by omega⟩ : CMul _ _), ?_⟩ | refine Or.inl ⟨_, rfl, ?_⟩ | refine Or.inr ⟨_, rfl, ?_⟩ | refine ⟨_, _, _, _, true, rfl, .ty _, .base (.str _), kit_ty (by decide +kernel), ?_⟩ | refine ⟨_, _, rfl, ⟨by rw [sizeLine_eq]; omega, rfl⟩, ?_⟩ | refine ⟨_, _, rfl, .inl ⟨_, SqL.of (by assumption), rfl⟩, ?_⟩ | refine ⟨_, _, rfl, .inr ⟨_, SqT.of (by assumption), rfl⟩, ?_⟩))
      refine ⟨sc, wl, 3, ns, rfl, h1.hs, h1.hw, by omega, by omega, hn, fun n1 H1 a1 b1 k1 => ?_⟩
      have h2 := h1.kp k1
      clear h1 k1
      (repeat (first | refine ⟨_, rfl, ?_⟩ | refine ⟨rfl, ?_⟩ | refine ⟨_, _, rfl, rfl, ?_⟩ | refine iteT ?_ | refine iteF ?_ | refine ⟨(by show (0 : Int) < _; omega), ?_⟩ | refine ⟨(⟨by omega, by omega⟩ : CDiv _ _), ?_⟩ | refine ⟨(⟨by decide, by decide, by decide⟩ : CPow _ _), ?_⟩ | refine ⟨(.inl ⟨by omega, by omega⟩ : CMul _ _), ?_⟩ | refine ⟨(.inr ⟨by omega, by omega⟩ : CMul _ _), ?_⟩ | refine Or.inl ⟨_, rfl, ?_⟩ | refine Or.inr ⟨_, rfl, ?_⟩ | refine ⟨_, _, _, _, true, rfl, .ty _, .base (.str _), kit_ty (by decide +kernel), ?_⟩ | refine ⟨_, _, rfl, ⟨by rw [sizeLine_eq]; omega, rfl⟩, ?_⟩ | refine ⟨_, _, rfl, .inl ⟨_, SqL.of (by assumption), rfl⟩, ?_⟩ | refine ⟨_, _, rfl, .inr ⟨_, SqT.of (by assumption), rfl⟩, ?_⟩))
      refine ite2 (fun c0 => ?_) (fun c0 => ?_)
      · (repeat (first | refine ⟨_, rfl, ?_⟩ | refine ⟨rfl, ?_⟩ | refine ⟨_, _, rfl, rfl, ?_⟩ | refine iteT ?_ | refine iteF ?_ | refine ⟨(by show (0 : Int) < _; omega), ?_⟩ | refine ⟨(⟨by omega, by omega⟩ : CDiv _ _), ?_⟩ | refine ⟨(⟨by decide, by decide, by decide⟩ : CPow _ _), ?_⟩ | refine ⟨(.inl ⟨by omega, by omega⟩ : CMul _ _), ?_⟩ | refine ⟨(.inr ⟨by omega, by omega⟩ : CMul _ _), ?_⟩ | refine Or.inl ⟨_, rfl, ?_⟩ | refine Or.inr ⟨_, rfl, ?_⟩ | refine ⟨_, _, _, _, true, rfl, .ty _, .base (.str _), kit_ty (by decide +kernel), ?_⟩ | refine ⟨_, _, rfl, ⟨by rw [sizeLine_eq]; omega, rfl⟩, ?_⟩ | refine ⟨_, _, rfl, .inl ⟨_, SqL.of (by assumption), rfl⟩, ?_⟩ | refine ⟨_, _, rfl, .inr ⟨_, SqT.of (by assumption), rfl⟩, ?_⟩))
        refine fun D nD => ?_
        refine lc_it walk_str (fun i H' => Same H1 H' ∧ H' D = some (.lst ((tailed "yyyyyy" ((Str.ofString "abcdefghijklmnopqrstuvwx").cps.toList.take i)).map V.str))) ⟨Same.new nD, upd_same⟩ (fun _ _ _ _ => True.intro) ?_ ?_
        · rintro i v Hx H2 hi ⟨s1, hD⟩ ⟨rfl, c, hc, rfl⟩
          refine ⟨rfl, ?_⟩
          (repeat (first | refine ⟨_, rfl, ?_⟩ | refine ⟨rfl, ?_⟩ | refine ⟨_, _, rfl, rfl, ?_⟩ | refine iteT ?_ | refine iteF ?_ | refine ⟨(by show (0 : Int) < _; omega), ?_⟩ | refine ⟨(⟨by omega, by omega⟩ : CDiv _ _), ?_⟩ | refine ⟨(⟨by decide, by decide, by decide⟩ : CPow _ _), ?_⟩ | refine ⟨(.inl ⟨by omega, by omega⟩ : CMul _ _), ?_⟩ | refine ⟨(.inr ⟨by omega, by omega⟩ : CMul _ _), ?_⟩ | refine Or.inl ⟨_, rfl, ?_⟩ | refine Or.inr ⟨_, rfl, ?_⟩ | refine ⟨_, _, _, _, true, rfl, .ty _, .base (.str _), kit_ty (by decide +kernel), ?_⟩ | refine ⟨_, _, rfl, ⟨by rw [sizeLine_eq]; omega, rfl⟩, ?_⟩ | refine ⟨_, _, rfl, .inl ⟨_, SqL.of (by assumption), rfl⟩, ?_⟩ | refine ⟨_, _, rfl, .inr ⟨_, SqT.of (by assumption), rfl⟩, ?_⟩))
          refine ⟨(by show 1 + 6 ≤ sizeLine; rw [sizeLine_eq]; omega), ?_⟩
          refine ⟨_, hD, small1000 (by rw [List.length_map, tailed_len, List.length_take, lets24, List.length_range']; omega), Same.put s1 nD, ?_⟩
          rw [upd_same, tailed_snoc (toL hc)]
        · rintro G ⟨sg, hL⟩
          rw [List.take_of_length_le (by rw [Array.length_toList]; exact Nat.le_refl _)] at hL
          have h3 := h2.same sg
          have lD : (tailed "yyyyyy" (Str.ofString "abcdefghijklmnopqrstuvwx").cps.toList).length = 24 := by rw [tailed_len, lets24, List.length_range']
          have nmD : ∀ u ∈ tailed "yyyyyy" (Str.ofString "abcdefghijklmnopqrstuvwx").cps.toList, isNm u = true := by
            rw [lets24]
            exact tailed_nm (low_range (by omega)) (by decide +kernel) (by decide +kernel)
          have ndD : (tailed "yyyyyy" (Str.ofString "abcdefghijklmnopqrstuvwx").cps.toList).Nodup := tailed_nd (by rw [lets24]; exact List.nodup_range')
          generalize tailed "yyyyyy" (Str.ofString "abcdefghijklmnopqrstuvwx").cps.toList = us at *
          (repeat (first | refine ⟨_, rfl, ?_⟩ | refine ⟨rfl, ?_⟩ | refine ⟨_, _, rfl, rfl, ?_⟩ | refine iteT ?_ | refine iteF ?_ | refine ⟨(by show (0 : Int) < _; omega), ?_⟩ | refine ⟨(⟨by omega, by omega⟩ : CDiv _ _), ?_⟩ | refine ⟨(⟨by decide, by decide, by decide⟩ : CPow _ _), ?_⟩ | refine ⟨(.inl ⟨by omega, by omega⟩ : CMul _ _), ?_⟩ | refine ⟨(.inr ⟨by omega, by omega⟩ : CMul _ _), ?_⟩ | refine Or.inl ⟨_, rfl, ?_⟩ | refine Or.inr ⟨_, rfl, ?_⟩ | refine ⟨_, _, _, _, true, rfl, .ty _, .base (.str _), kit_ty (by decide +kernel), ?_⟩ | refine ⟨_, _, rfl, ⟨by rw [sizeLine_eq]; omega, rfl⟩, ?_⟩ | refine ⟨_, _, rfl, .inl ⟨_, SqL.of (by assumption), rfl⟩, ?_⟩ | refine ⟨_, _, rfl, .inr ⟨_, SqT.of (by assumption), rfl⟩, ?_⟩))
          refine ⟨sc, wl, D, ns, _, rfl, h3.hs, hn, h3.hw, hL, h2.hw.ne nD, by rw [List.length_map]; omega, fun l ys H4 nl k4 hl pm => ?_⟩
          obtain ⟨ws, rfl, pw⟩ := perm_strs pm
          have h4 := h3.kp k4
          obtain ⟨x, hx, ex⟩ := at_last hne
          (repeat (first | refine ⟨_, rfl, ?_⟩ | refine ⟨rfl, ?_⟩ | refine ⟨_, _, rfl, rfl, ?_⟩ | refine iteT ?_ | refine iteF ?_ | refine ⟨(by show (0 : Int) < _; omega), ?_⟩ | refine ⟨(⟨by omega, by omega⟩ : CDiv _ _), ?_⟩ | refine ⟨(⟨by decide, by decide, by decide⟩ : CPow _ _), ?_⟩ | refine ⟨(.inl ⟨by omega, by omega⟩ : CMul _ _), ?_⟩ | refine ⟨(.inr ⟨by omega, by omega⟩ : CMul _ _), ?_⟩ | refine Or.inl ⟨_, rfl, ?_⟩ | refine Or.inr ⟨_, rfl, ?_⟩ | refine ⟨_, _, _, _, true, rfl, .ty _, .base (.str _), kit_ty (by decide +kernel), ?_⟩ | refine ⟨_, _, rfl, ⟨by rw [sizeLine_eq]; omega, rfl⟩, ?_⟩ | refine ⟨_, _, rfl, .inl ⟨_, SqL.of (by assumption), rfl⟩, ?_⟩ | refine ⟨_, _, rfl, .inr ⟨_, SqT.of (by assumption), rfl⟩, ?_⟩))
          refine ⟨a, _, -1, _, rfl, rfl, SqL.of h4.ha, ex, ?_⟩
          obtain ⟨kvs, hd, R⟩ := h4.ex
          have lw : l ≠ wl := h3.hw.ne nl
          have hD2 : Drawn ps (putR rows x ws) := hD.put hx (by rw [pw.length_eq, lD]; omega) (pw.nodup_iff.mpr ndD) fun u hu => nmD u (pw.mem_iff.mp hu)
          refine ⟨d, _, rfl, .inl ⟨kvs, .inr x, hd, rfl, small1000 (by rw [R.length]; have := h4.sz.lr; omega), rfl⟩, ?_⟩
          have h5 := h4.dset (R.put (n := x) lw hl) hD2.good.sz.mono
          exact k _ ⟨_, ⟨h5.hs, h5.hw, h5.ha, h5.ex, hD2.good.sz⟩, hD2⟩
      · (repeat (first | refine ⟨_, rfl, ?_⟩ | refine ⟨rfl, ?_⟩ | refine ⟨_, _, rfl, rfl, ?_⟩ | refine iteT ?_ | refine iteF ?_ | refine ⟨(by show (0 : Int) < _; omega), ?_⟩ | refine ⟨(⟨by omega, by omega⟩ : CDiv _ _), ?_⟩ | refine ⟨(⟨by decide, by decide, by decide⟩ : CPow _ _), ?_⟩ | refine ⟨(.inl ⟨by omega, by omega⟩ : CMul _ _), ?_⟩ | refine ⟨(.inr ⟨by omega, by omega⟩ : CMul _ _), ?_⟩ | refine Or.inl ⟨_, rfl, ?_⟩ | refine Or.inr ⟨_, rfl, ?_⟩ | refine ⟨_, _, _, _, true, rfl, .ty _, .base (.str _), kit_ty (by decide +kernel), ?_⟩ | refine ⟨_, _, rfl, ⟨by rw [sizeLine_eq]; omega, rfl⟩, ?_⟩ | refine ⟨_, _, rfl, .inl ⟨_, SqL.of (by assumption), rfl⟩, ?_⟩ | refine ⟨_, _, rfl, .inr ⟨_, SqT.of (by assumption), rfl⟩, ?_⟩))
        exact k _ ⟨rows, h2, hD⟩
  · clear h0 hD rows
    rintro Hc ⟨rows, h, hD⟩
    refine seq_asg ?_
    (repeat (first | refine ⟨_, rfl, ?_⟩ | refine ⟨rfl, ?_⟩ | refine ⟨_, _, rfl, rfl, ?_⟩ | refine iteT ?_ | refine iteF ?_ | refine ⟨(by show (0 : Int) < _; omega), ?_⟩ | refine ⟨(⟨by omega, by omega⟩ : CDiv _ _), ?_⟩ | refine ⟨(⟨by decide, by decide, by decide⟩ : CPow _ _), ?_⟩ | refine ⟨(.inl ⟨by omega, by omega⟩ : CMul _ _), ?_⟩ | refine ⟨(.inr ⟨by omega, by omega⟩ : CMul _ _), ?_⟩ | refine Or.inl ⟨_, rfl, ?_⟩ | refine Or.inr ⟨_, rfl, ?_⟩ | refine ⟨_, _, _, _, true, rfl, .ty _, .base (.str _), kit_ty (by decide +kernel), ?_⟩ | refine ⟨_, _, rfl, ⟨by rw [sizeLine_eq]; omega, rfl⟩, ?_⟩ | refine ⟨_, _, rfl, .inl ⟨_, SqL.of (by assumption), rfl⟩, ?_⟩ | refine ⟨_, _, rfl, .inr ⟨_, SqT.of (by assumption), rfl⟩, ?_⟩))
    refine ⟨a, _, rfl, .inl (SqL.of h.ha), fun l0 nl0 => ?_⟩
    refine fun d1 nd1 => ?_
    (repeat (first | refine ⟨_, rfl, ?_⟩ | refine ⟨rfl, ?_⟩ | refine ⟨_, _, rfl, rfl, ?_⟩ | refine iteT ?_ | refine iteF ?_ | refine ⟨(by show (0 : Int) < _; omega), ?_⟩ | refine ⟨(⟨by omega, by omega⟩ : CDiv _ _), ?_⟩ | refine ⟨(⟨by decide, by decide, by decide⟩ : CPow _ _), ?_⟩ | refine ⟨(.inl ⟨by omega, by omega⟩ : CMul _ _), ?_⟩ | refine ⟨(.inr ⟨by omega, by omega⟩ : CMul _ _), ?_⟩ | refine Or.inl ⟨_, rfl, ?_⟩ | refine Or.inr ⟨_, rfl, ?_⟩ | refine ⟨_, _, _, _, true, rfl, .ty _, .base (.str _), kit_ty (by decide +kernel), ?_⟩ | refine ⟨_, _, rfl, ⟨by rw [sizeLine_eq]; omega, rfl⟩, ?_⟩ | refine ⟨_, _, rfl, .inl ⟨_, SqL.of (by assumption), rfl⟩, ?_⟩ | refine ⟨_, _, rfl, .inr ⟨_, SqT.of (by assumption), rfl⟩, ?_⟩))
    refine ⟨(by show 2 ≤ sizeLine; rw [sizeLine_eq]; omega), fun h4 nh4 => ?_⟩
    refine g_name ?_
    have s1 : Same Hc (upd Hc l0 (.lst (ps.map V.str))) := Same.new nl0
    have f1 := s1.free nd1
    have s2 := Same.put (o := .dK []) s1 f1
    have f2 := s2.free nh4
    have s3 := Same.put (o := .lst [.ref l0, .ref d1]) s2 f2
    have eL : upd (upd (upd Hc l0 (.lst (ps.map V.str))) d1 (.dK [])) h4 (.lst [.ref l0, .ref d1]) l0 = some (.lst (ps.map V.str)) := (Same.new nh4) _ _ ((Same.new nd1) _ _ upd_same)
    have eD : upd (upd (upd Hc l0 (.lst (ps.map V.str))) d1 (.dK [])) h4 (.lst [.ref l0, .ref d1]) d1 = some (.dK []) := (Same.new nh4) _ _ upd_same
    have eH : upd (upd (upd Hc l0 (.lst (ps.map V.str))) d1 (.dK [])) h4 (.lst [.ref l0, .ref d1]) h4 = some (.lst [.ref l0, .ref d1]) := upd_same
    have hl0 : l0 ≠ h4 := ne_of_none ((Same.new nd1) _ _ upd_same) nh4
    generalize upd (upd (upd Hc l0 (.lst (ps.map V.str))) d1 (.dK [])) h4 (.lst [.ref l0, .ref d1]) = Hd at *
    clear s1 s2 nd1 nh4
    have lps := hD.len
    refine seq_joinS (fun σ G => ∃ (v5 : Option V) (kvs1 : List (Key × V)), σ = [some (.ref sc), some (.ref wl), some (.ref a), some (.ref d), some (.ref h4), v5, none, none, none, none, none, none, none, none] ∧ Same Hc G ∧ G h4 = some (.lst [.ref l0, .ref d1]) ∧ G l0 = some (.lst (ps.map V.str)) ∧ G d1 = some (.dK kvs1) ∧ RowsN (fun l => l ≠ l0 ∧ l ≠ d1 ∧ l ≠ h4 ∧ Hc l = none) G kvs1 (mkR (rowG rows) ps)) (fun O k => ?_) ?_
    · skip
      (repeat (first | refine ⟨_, rfl, ?_⟩ | refine ⟨rfl, ?_⟩ | refine ⟨_, _, rfl, rfl, ?_⟩ | refine iteT ?_ | refine iteF ?_ | refine ⟨(by show (0 : Int) < _; omega), ?_⟩ | refine ⟨(⟨by omega, by omega⟩ : CDiv _ _), ?_⟩ | refine ⟨(⟨by decide, by decide, by decide⟩ : CPow _ _), ?_⟩ | refine ⟨(.inl ⟨by omega, by omega⟩ : CMul _ _), ?_⟩ | refine ⟨(.inr ⟨by omega, by omega⟩ : CMul _ _), ?_⟩ | refine Or.inl ⟨_, rfl, ?_⟩ | refine Or.inr ⟨_, rfl, ?_⟩ | refine ⟨_, _, _, _, true, rfl, .ty _, .base (.str _), kit_ty (by decide +kernel), ?_⟩ | refine ⟨_, _, rfl, ⟨by rw [sizeLine_eq]; omega, rfl⟩, ?_⟩ | refine ⟨_, _, rfl, .inl ⟨_, SqL.of (by assumption), rfl⟩, ?_⟩ | refine ⟨_, _, rfl, .inr ⟨_, SqT.of (by assumption), rfl⟩, ?_⟩))
      refine ⟨⟨_, SqL.of (h.same s3).ha⟩, for_it walk_list (fun i σ G => ∃ (v5 : Option V) (kvs1 : List (Key × V)), σ = [some (.ref sc), some (.ref wl), some (.ref a), some (.ref d), some (.ref h4), v5, none, none, none, none, none, none, none, none] ∧ Same Hc G ∧ G h4 = some (.lst [.ref l0, .ref d1]) ∧ G l0 = some (.lst (ps.map V.str)) ∧ G d1 = some (.dK kvs1) ∧ RowsN (fun l => l ≠ l0 ∧ l ≠ d1 ∧ l ≠ h4 ∧ Hc l = none) G kvs1 (mkR (rowG rows) (ps.take i)))
        ⟨_, [], rfl, s3, eH, eL, eD, .nil⟩ (fun i σ H' _ ⟨_, _, _, z, _⟩ => SqL.of (h.same z).ha) ?_ ?_⟩
      · clear s3 eH eL eD
        rintro i v σ Hx G hi ⟨v5, kvs1, rfl, sG, gH, gL, gD, gR⟩ ⟨rfl, hv⟩
        rw [List.length_map] at hi
        obtain ⟨x, hx⟩ : ∃ n, ps[i]? = some n := ⟨_, List.getElem?_eq_getElem hi⟩
        have ev : v = V.str x := by
          rw [List.getElem?_map, hx] at hv
          exact (Option.some.inj hv).symm
        subst ev
        have xm : x ∈ ps := List.mem_of_getElem? hx
        obtain ⟨ws, lk, ew, lws, _, _⟩ := hD.good.look xm
        (repeat (first | refine ⟨_, rfl, ?_⟩ | refine ⟨rfl, ?_⟩ | refine ⟨_, _, rfl, rfl, ?_⟩ | refine iteT ?_ | refine iteF ?_ | refine ⟨(by show (0 : Int) < _; omega), ?_⟩ | refine ⟨(⟨by omega, by omega⟩ : CDiv _ _), ?_⟩ | refine ⟨(⟨by decide, by decide, by decide⟩ : CPow _ _), ?_⟩ | refine ⟨(.inl ⟨by omega, by omega⟩ : CMul _ _), ?_⟩ | refine ⟨(.inr ⟨by omega, by omega⟩ : CMul _ _), ?_⟩ | refine Or.inl ⟨_, rfl, ?_⟩ | refine Or.inr ⟨_, rfl, ?_⟩ | refine ⟨_, _, _, _, true, rfl, .ty _, .base (.str _), kit_ty (by decide +kernel), ?_⟩ | refine ⟨_, _, rfl, ⟨by rw [sizeLine_eq]; omega, rfl⟩, ?_⟩ | refine ⟨_, _, rfl, .inl ⟨_, SqL.of (by assumption), rfl⟩, ?_⟩ | refine ⟨_, _, rfl, .inr ⟨_, SqT.of (by assumption), rfl⟩, ?_⟩))
        refine ⟨h4, _, 1, _, rfl, rfl, SqL.of gH, atI_nat (j := 1) rfl, ?_⟩
        (repeat (first | refine ⟨_, rfl, ?_⟩ | refine ⟨rfl, ?_⟩ | refine ⟨_, _, rfl, rfl, ?_⟩ | refine iteT ?_ | refine iteF ?_ | refine ⟨(by show (0 : Int) < _; omega), ?_⟩ | refine ⟨(⟨by omega, by omega⟩ : CDiv _ _), ?_⟩ | refine ⟨(⟨by decide, by decide, by decide⟩ : CPow _ _), ?_⟩ | refine ⟨(.inl ⟨by omega, by omega⟩ : CMul _ _), ?_⟩ | refine ⟨(.inr ⟨by omega, by omega⟩ : CMul _ _), ?_⟩ | refine Or.inl ⟨_, rfl, ?_⟩ | refine Or.inr ⟨_, rfl, ?_⟩ | refine ⟨_, _, _, _, true, rfl, .ty _, .base (.str _), kit_ty (by decide +kernel), ?_⟩ | refine ⟨_, _, rfl, ⟨by rw [sizeLine_eq]; omega, rfl⟩, ?_⟩ | refine ⟨_, _, rfl, .inl ⟨_, SqL.of (by assumption), rfl⟩, ?_⟩ | refine ⟨_, _, rfl, .inr ⟨_, SqT.of (by assumption), rfl⟩, ?_⟩))
        refine ⟨.inl ⟨kvs1, .inl gD⟩, fun p np => ?_⟩
        obtain ⟨l, gl, hl⟩ := ((h.same sG).lay (o := .dK []) np).at lk
        have ep : upd G p (.dK []) p = some (.dK []) := upd_same
        have sp := Same.new (o := .dK []) np
        (repeat (first | refine ⟨_, rfl, ?_⟩ | refine ⟨rfl, ?_⟩ | refine ⟨_, _, rfl, rfl, ?_⟩ | refine iteT ?_ | refine iteF ?_ | refine ⟨(by show (0 : Int) < _; omega), ?_⟩ | refine ⟨(⟨by omega, by omega⟩ : CDiv _ _), ?_⟩ | refine ⟨(⟨by decide, by decide, by decide⟩ : CPow _ _), ?_⟩ | refine ⟨(.inl ⟨by omega, by omega⟩ : CMul _ _), ?_⟩ | refine ⟨(.inr ⟨by omega, by omega⟩ : CMul _ _), ?_⟩ | refine Or.inl ⟨_, rfl, ?_⟩ | refine Or.inr ⟨_, rfl, ?_⟩ | refine ⟨_, _, _, _, true, rfl, .ty _, .base (.str _), kit_ty (by decide +kernel), ?_⟩ | refine ⟨_, _, rfl, ⟨by rw [sizeLine_eq]; omega, rfl⟩, ?_⟩ | refine ⟨_, _, rfl, .inl ⟨_, SqL.of (by assumption), rfl⟩, ?_⟩ | refine ⟨_, _, rfl, .inr ⟨_, SqT.of (by assumption), rfl⟩, ?_⟩))
        refine ⟨d, .ref l, rfl, gl, ?_⟩
        refine ⟨l, _, rfl, .inl (SqL.of hl), fun q nq => ?_⟩
        have nqG := sp.free nq
        have qp : q ≠ p := fun e => by rw [e, ep] at nq; cases nq
        have s3 : Same G (upd (upd (upd G p (.dK [])) q (.lst (ws.map V.str))) p (.dK (mergeK [] [((.inr x : Key), V.ref q)]))) := Same.put (Same.put sp nqG) np
        refine ⟨(upd_ne qp.symm).trans ep, [(.inr x, .ref q)], rfl, by show 1 ≤ 15; omega, ?_⟩
        have e3q : upd (upd (upd G p (.dK [])) q (.lst (ws.map V.str))) p (.dK (mergeK [] [((.inr x : Key), V.ref q)])) q = some (.lst (ws.map V.str)) := (upd_ne qp).trans upd_same
        have e3p : upd (upd (upd G p (.dK [])) q (.lst (ws.map V.str))) p (.dK (mergeK [] [((.inr x : Key), V.ref q)])) p = some (.dK [((.inr x : Key), V.ref q)]) := upd_same
        generalize upd (upd (upd G p (.dK [])) q (.lst (ws.map V.str))) p (.dK (mergeK [] [((.inr x : Key), V.ref q)])) = G3 at *
        have q0 := sG.free nqG
        have qd : q ≠ d1 := (ne_of_none gD nqG).symm
        have dp : d1 ≠ p := ne_of_none gD np
        have lk1 : kvs1.length ≤ 24 := by
          rw [gR.length]
          unfold mkR
          rw [List.length_map, List.length_take]
          omega
        refine ⟨p, kvs1, [(.inr x, .ref q)], rfl, s3 _ _ gD, e3p, dp, (by rw [sizeLine_eq]; simp only [List.length_cons, List.length_nil]; omega), ?_⟩
        have gR2 : RowsN (fun l => l ≠ l0 ∧ l ≠ d1 ∧ l ≠ h4 ∧ Hc l = none) (upd G3 d1 (.dK (mergeK kvs1 [(.inr x, .ref q)]))) kvs1 (mkR (rowG rows) (ps.take i)) := gR.mv fun l xs n e => ⟨n, (upd_ne n.2.1).trans (s3 _ _ e)⟩
        have gR3 := gR2.put (n := x) (ws := ws) (l := q) ⟨(ne_of_none gL nqG).symm, qd, (ne_of_none gH nqG).symm, q0⟩ ((upd_ne qd).trans e3q)
        rw [← ew, mkR_put hD.nd hx] at gR3
        exact ⟨_, _, rfl, Same.put (sG.trans s3) f1, (upd_ne (fun e => by rw [e, gD] at gH; cases gH)).trans (s3 _ _ gH), (upd_ne (fun e => by rw [e, gD] at gL; cases gL)).trans (s3 _ _ gL), upd_same, gR3⟩
      · rintro σ G ⟨v5, kvs1, rfl, sG, gH, gL, gD, gR⟩
        rw [List.length_map, List.take_of_length_le (Nat.le_refl _)] at gR
        exact k _ _ ⟨v5, kvs1, rfl, sG, gH, gL, gD, gR⟩
    · clear eL eD eH s3 Hd
      rintro σ He ⟨v5, kvs1, rfl, sG, gH, gL, gD, gR⟩
      have hg := hD.good
      have rf : ∀ n ∈ ps, (rowG rows n).Perm (rowG rows n) := fun _ _ => List.Perm.refl _
      have hg1 : Good ps (mkR (rowG rows) ps) := hg.mk' (List.Perm.refl _) (List.Perm.refl _) rf
      refine seq_asg ?_
      (repeat (first | refine ⟨_, rfl, ?_⟩ | refine ⟨rfl, ?_⟩ | refine ⟨_, _, rfl, rfl, ?_⟩ | refine iteT ?_ | refine iteF ?_ | refine ⟨(by show (0 : Int) < _; omega), ?_⟩ | refine ⟨(⟨by omega, by omega⟩ : CDiv _ _), ?_⟩ | refine ⟨(⟨by decide, by decide, by decide⟩ : CPow _ _), ?_⟩ | refine ⟨(.inl ⟨by omega, by omega⟩ : CMul _ _), ?_⟩ | refine ⟨(.inr ⟨by omega, by omega⟩ : CMul _ _), ?_⟩ | refine Or.inl ⟨_, rfl, ?_⟩ | refine Or.inr ⟨_, rfl, ?_⟩ | refine ⟨_, _, _, _, true, rfl, .ty _, .base (.str _), kit_ty (by decide +kernel), ?_⟩ | refine ⟨_, _, rfl, ⟨by rw [sizeLine_eq]; omega, rfl⟩, ?_⟩ | refine ⟨_, _, rfl, .inl ⟨_, SqL.of (by assumption), rfl⟩, ?_⟩ | refine ⟨_, _, rfl, .inr ⟨_, SqT.of (by assumption), rfl⟩, ?_⟩))
      refine ⟨h4, _, 0, _, rfl, rfl, SqL.of gH, atI_nat (j := 0) rfl, ?_⟩
      (repeat (first | refine ⟨_, rfl, ?_⟩ | refine ⟨rfl, ?_⟩ | refine ⟨_, _, rfl, rfl, ?_⟩ | refine iteT ?_ | refine iteF ?_ | refine ⟨(by show (0 : Int) < _; omega), ?_⟩ | refine ⟨(⟨by omega, by omega⟩ : CDiv _ _), ?_⟩ | refine ⟨(⟨by decide, by decide, by decide⟩ : CPow _ _), ?_⟩ | refine ⟨(.inl ⟨by omega, by omega⟩ : CMul _ _), ?_⟩ | refine ⟨(.inr ⟨by omega, by omega⟩ : CMul _ _), ?_⟩ | refine Or.inl ⟨_, rfl, ?_⟩ | refine Or.inr ⟨_, rfl, ?_⟩ | refine ⟨_, _, _, _, true, rfl, .ty _, .base (.str _), kit_ty (by decide +kernel), ?_⟩ | refine ⟨_, _, rfl, ⟨by rw [sizeLine_eq]; omega, rfl⟩, ?_⟩ | refine ⟨_, _, rfl, .inl ⟨_, SqL.of (by assumption), rfl⟩, ?_⟩ | refine ⟨_, _, rfl, .inr ⟨_, SqT.of (by assumption), rfl⟩, ?_⟩))
      refine ⟨h4, _, 1, _, rfl, rfl, SqL.of gH, atI_nat (j := 1) rfl, ?_⟩
      (repeat (first | refine ⟨_, rfl, ?_⟩ | refine ⟨rfl, ?_⟩ | refine ⟨_, _, rfl, rfl, ?_⟩ | refine iteT ?_ | refine iteF ?_ | refine ⟨(by show (0 : Int) < _; omega), ?_⟩ | refine ⟨(⟨by omega, by omega⟩ : CDiv _ _), ?_⟩ | refine ⟨(⟨by decide, by decide, by decide⟩ : CPow _ _), ?_⟩ | refine ⟨(.inl ⟨by omega, by omega⟩ : CMul _ _), ?_⟩ | refine ⟨(.inr ⟨by omega, by omega⟩ : CMul _ _), ?_⟩ | refine Or.inl ⟨_, rfl, ?_⟩ | refine Or.inr ⟨_, rfl, ?_⟩ | refine ⟨_, _, _, _, true, rfl, .ty _, .base (.str _), kit_ty (by decide +kernel), ?_⟩ | refine ⟨_, _, rfl, ⟨by rw [sizeLine_eq]; omega, rfl⟩, ?_⟩ | refine ⟨_, _, rfl, .inl ⟨_, SqL.of (by assumption), rfl⟩, ?_⟩ | refine ⟨_, _, rfl, .inr ⟨_, SqT.of (by assumption), rfl⟩, ?_⟩))
      refine fun x dx nx ndx ne => ?_
      have s1 := made_at (C := A.C_Hires) nx ndx ne
      refine ⟨x, dx, l0, d1, ps, kvs1, mkR (rowG rows) ps, _, rfl, upd_same, s1 _ _ gL, by omega, fun y hy => by have := (wd_nm (hD.nm y hy)).1; omega, s1 _ _ gD, gR.same s1, hg1.nk, by have := hg1.lr; omega, hg1.mid, fun z hz => (by rw [hg1.made] at hz; cases hz), fun _ z hz => (by rw [hg1.jo] at hz; cases hz), fun _ _ Hf fr hO => ?_⟩
      have s2 : Same He Hf := made_fr nx ndx ne fr
      have hO1 : HireO A.C_Hires (fun b => b = x ∨ He b = none) Hf x (sortS ps) (toldR ps rows) := by
        rw [← hg.told_mk (List.Perm.refl _) (List.Perm.refl _) rf]
        exact hO.mv fun b o n e => ⟨n.imp id s1.free, e⟩
      clear hO fr s1
      refine ⟨rfl, g_name ?_⟩
      have gH := s2 _ _ gH
      have xn : ∀ {b o}, He b = some o → b ≠ x := fun e => ne_of_none e nx
      have wr : ∀ {G : Hp} {l : Addr} {o : HO}, He l ≠ none → l ≠ x → HireO A.C_Hires (fun b => b = x ∨ He b = none) G x (sortS ps) (toldR ps rows) → HireO A.C_Hires (fun b => b = x ∨ He b = none) (upd G l o) x (sortS ps) (toldR ps rows) :=
        fun hl hx hO => hO.mv fun b o' n e => ⟨n, (upd_ne (fun z => n.elim (fun q => hx (z.symm.trans q)) (fun q => hl (by rw [← z]; exact q)))).trans e⟩
      have lists : ∀ n ∈ ps, ∃ l xs, valV kvs1 (.inr n) = some (.ref l) ∧ (l ≠ d1 ∧ l ≠ h4 ∧ Hc l = none ∧ l ≠ x ∧ He l ≠ none) ∧ l ≠ l0 ∧ Hf l = some (.lst xs) ∧ xs.length ≤ 24 := fun n hn => by
        have g := gR.get n
        rw [mkR_look hn] at g
        obtain ⟨l, g1, ⟨m1, m2, m3, m4⟩, g3⟩ := g
        obtain ⟨ws, _, ew, lw, _⟩ := hg.look hn
        exact ⟨l, _, g1, ⟨m2, m3, m4, xn g3, by rw [g3]; simp⟩, m1, s2 _ _ g3, by rw [List.length_map, ew]; exact lw⟩
      refine seq_join (fun G => Same Hc G ∧ G h4 = some (.lst [.ref l0, .ref d1]) ∧ G d1 = some (.dK kvs1) ∧ HireO A.C_Hires (fun b => b = x ∨ He b = none) G x (sortS ps) (toldR ps rows) ∧ ∀ n ∈ ps, ∃ l xs, valV kvs1 (.inr n) = some (.ref l) ∧ (l ≠ d1 ∧ l ≠ h4 ∧ Hc l = none ∧ l ≠ x ∧ He l ≠ none) ∧ G l = some (.lst xs) ∧ xs.length ≤ 24) (fun O k => ?_) ?_
      · skip
        (repeat (first | refine ⟨_, rfl, ?_⟩ | refine ⟨rfl, ?_⟩ | refine ⟨_, _, rfl, rfl, ?_⟩ | refine iteT ?_ | refine iteF ?_ | refine ⟨(by show (0 : Int) < _; omega), ?_⟩ | refine ⟨(⟨by omega, by omega⟩ : CDiv _ _), ?_⟩ | refine ⟨(⟨by decide, by decide, by decide⟩ : CPow _ _), ?_⟩ | refine ⟨(.inl ⟨by omega, by omega⟩ : CMul _ _), ?_⟩ | refine ⟨(.inr ⟨by omega, by omega⟩ : CMul _ _), ?_⟩ | refine Or.inl ⟨_, rfl, ?_⟩ | refine Or.inr ⟨_, rfl, ?_⟩ | refine ⟨_, _, _, _, true, rfl, .ty _, .base (.str _), kit_ty (by decide +kernel), ?_⟩ | refine ⟨_, _, rfl, ⟨by rw [sizeLine_eq]; omega, rfl⟩, ?_⟩ | refine ⟨_, _, rfl, .inl ⟨_, SqL.of (by assumption), rfl⟩, ?_⟩ | refine ⟨_, _, rfl, .inr ⟨_, SqT.of (by assumption), rfl⟩, ?_⟩))
        refine ⟨h4, _, 0, _, rfl, rfl, SqL.of gH, atI_nat (j := 0) rfl, ?_⟩
        refine ⟨.inl ⟨rfl, _, SqL.of (s2 _ _ gL)⟩, ?_⟩
        (repeat (first | refine ⟨_, rfl, ?_⟩ | refine ⟨rfl, ?_⟩ | refine ⟨_, _, rfl, rfl, ?_⟩ | refine iteT ?_ | refine iteF ?_ | refine ⟨(by show (0 : Int) < _; omega), ?_⟩ | refine ⟨(⟨by omega, by omega⟩ : CDiv _ _), ?_⟩ | refine ⟨(⟨by decide, by decide, by decide⟩ : CPow _ _), ?_⟩ | refine ⟨(.inl ⟨by omega, by omega⟩ : CMul _ _), ?_⟩ | refine ⟨(.inr ⟨by omega, by omega⟩ : CMul _ _), ?_⟩ | refine Or.inl ⟨_, rfl, ?_⟩ | refine Or.inr ⟨_, rfl, ?_⟩ | refine ⟨_, _, _, _, true, rfl, .ty _, .base (.str _), kit_ty (by decide +kernel), ?_⟩ | refine ⟨_, _, rfl, ⟨by rw [sizeLine_eq]; omega, rfl⟩, ?_⟩ | refine ⟨_, _, rfl, .inl ⟨_, SqL.of (by assumption), rfl⟩, ?_⟩ | refine ⟨_, _, rfl, .inr ⟨_, SqT.of (by assumption), rfl⟩, ?_⟩))
        refine ⟨l0, _, _, rfl, rfl, s2 _ _ gL, small1000 (by rw [List.length_map]; omega), ?_⟩
        exact k _ ⟨Same.put (sG.trans s2) nl0, (upd_ne hl0.symm).trans gH, (upd_ne (fun e => by rw [e, gL] at gD; cases gD)).trans (s2 _ _ gD), wr (by rw [gL]; simp) (xn gL) hO1, fun n hn => let ⟨l, xs, a1, a2, a3, a4, a5⟩ := lists n hn; ⟨l, xs, a1, a2, (upd_ne a3).trans a4, a5⟩⟩
      · clear lists gH s2 hO1 gL gD gR sG Hf ndx ne dx hl0
        rintro Hg ⟨sG, gH, gD, hO, lists⟩
        refine seq_joinS (fun σ G => ∃ (v5 v7 : Option V), σ = [some (.ref sc), some (.ref wl), some (.ref a), some (.ref d), some (.ref h4), v5, some (.ref x), v7, none, none, none, none, none, none] ∧ Same Hc G ∧ HireO A.C_Hires (fun b => b = x ∨ He b = none) G x (sortS ps) (toldR ps rows)) (fun O k => ?_) ?_
        · skip
          (repeat (first | refine ⟨_, rfl, ?_⟩ | refine ⟨rfl, ?_⟩ | refine ⟨_, _, rfl, rfl, ?_⟩ | refine iteT ?_ | refine iteF ?_ | refine ⟨(by show (0 : Int) < _; omega), ?_⟩ | refine ⟨(⟨by omega, by omega⟩ : CDiv _ _), ?_⟩ | refine ⟨(⟨by decide, by decide, by decide⟩ : CPow _ _), ?_⟩ | refine ⟨(.inl ⟨by omega, by omega⟩ : CMul _ _), ?_⟩ | refine ⟨(.inr ⟨by omega, by omega⟩ : CMul _ _), ?_⟩ | refine Or.inl ⟨_, rfl, ?_⟩ | refine Or.inr ⟨_, rfl, ?_⟩ | refine ⟨_, _, _, _, true, rfl, .ty _, .base (.str _), kit_ty (by decide +kernel), ?_⟩ | refine ⟨_, _, rfl, ⟨by rw [sizeLine_eq]; omega, rfl⟩, ?_⟩ | refine ⟨_, _, rfl, .inl ⟨_, SqL.of (by assumption), rfl⟩, ?_⟩ | refine ⟨_, _, rfl, .inr ⟨_, SqT.of (by assumption), rfl⟩, ?_⟩))
          refine ⟨⟨_, SqL.of (h.same sG).ha⟩, for_it walk_list (fun i σ G => ∃ (v5 v7 : Option V), σ = [some (.ref sc), some (.ref wl), some (.ref a), some (.ref d), some (.ref h4), v5, some (.ref x), v7, none, none, none, none, none, none] ∧ Same Hc G ∧ G h4 = some (.lst [.ref l0, .ref d1]) ∧ G d1 = some (.dK kvs1) ∧ HireO A.C_Hires (fun b => b = x ∨ He b = none) G x (sortS ps) (toldR ps rows) ∧ ∀ n ∈ ps, ∃ l xs, valV kvs1 (.inr n) = some (.ref l) ∧ (l ≠ d1 ∧ l ≠ h4 ∧ Hc l = none ∧ l ≠ x ∧ He l ≠ none) ∧ G l = some (.lst xs) ∧ xs.length ≤ 24 + i)
            ⟨_, _, rfl, sG, gH, gD, hO, lists⟩ (fun i σ H' _ ⟨_, _, _, z, _⟩ => SqL.of (h.same z).ha) ?_ ?_⟩
          · clear sG gH gD hO lists
            rintro i v σ Hx G hi ⟨v5, v7, rfl, sG, gH, gD, hO, lists⟩ ⟨rfl, hv⟩
            rw [List.length_map] at hi
            obtain ⟨y, hy⟩ : ∃ n, ps[i]? = some n := ⟨_, List.getElem?_eq_getElem hi⟩
            have ev : v = V.str y := by
              rw [List.getElem?_map, hy] at hv
              exact (Option.some.inj hv).symm
            subst ev
            have ym : y ∈ ps := List.mem_of_getElem? hy
            obtain ⟨l, xs, gv, ⟨m1, m2, m3, m4, m5⟩, gl, lx⟩ := lists y ym
            refine g_name ?_
            try dsimp only
            refine seq_asg ?_
            (repeat (first | refine ⟨_, rfl, ?_⟩ | refine ⟨rfl, ?_⟩ | refine ⟨_, _, rfl, rfl, ?_⟩ | refine iteT ?_ | refine iteF ?_ | refine ⟨(by show (0 : Int) < _; omega), ?_⟩ | refine ⟨(⟨by omega, by omega⟩ : CDiv _ _), ?_⟩ | refine ⟨(⟨by decide, by decide, by decide⟩ : CPow _ _), ?_⟩ | refine ⟨(.inl ⟨by omega, by omega⟩ : CMul _ _), ?_⟩ | refine ⟨(.inr ⟨by omega, by omega⟩ : CMul _ _), ?_⟩ | refine Or.inl ⟨_, rfl, ?_⟩ | refine Or.inr ⟨_, rfl, ?_⟩ | refine ⟨_, _, _, _, true, rfl, .ty _, .base (.str _), kit_ty (by decide +kernel), ?_⟩ | refine ⟨_, _, rfl, ⟨by rw [sizeLine_eq]; omega, rfl⟩, ?_⟩ | refine ⟨_, _, rfl, .inl ⟨_, SqL.of (by assumption), rfl⟩, ?_⟩ | refine ⟨_, _, rfl, .inr ⟨_, SqT.of (by assumption), rfl⟩, ?_⟩))
            refine ⟨h4, _, 1, _, rfl, rfl, SqL.of gH, atI_nat (j := 1) rfl, ?_⟩
            (repeat (first | refine ⟨_, rfl, ?_⟩ | refine ⟨rfl, ?_⟩ | refine ⟨_, _, rfl, rfl, ?_⟩ | refine iteT ?_ | refine iteF ?_ | refine ⟨(by show (0 : Int) < _; omega), ?_⟩ | refine ⟨(⟨by omega, by omega⟩ : CDiv _ _), ?_⟩ | refine ⟨(⟨by decide, by decide, by decide⟩ : CPow _ _), ?_⟩ | refine ⟨(.inl ⟨by omega, by omega⟩ : CMul _ _), ?_⟩ | refine ⟨(.inr ⟨by omega, by omega⟩ : CMul _ _), ?_⟩ | refine Or.inl ⟨_, rfl, ?_⟩ | refine Or.inr ⟨_, rfl, ?_⟩ | refine ⟨_, _, _, _, true, rfl, .ty _, .base (.str _), kit_ty (by decide +kernel), ?_⟩ | refine ⟨_, _, rfl, ⟨by rw [sizeLine_eq]; omega, rfl⟩, ?_⟩ | refine ⟨_, _, rfl, .inl ⟨_, SqL.of (by assumption), rfl⟩, ?_⟩ | refine ⟨_, _, rfl, .inr ⟨_, SqT.of (by assumption), rfl⟩, ?_⟩))
            refine ⟨.inl ⟨kvs1, .inl gD⟩, ?_⟩
            (repeat (first | refine ⟨_, rfl, ?_⟩ | refine ⟨rfl, ?_⟩ | refine ⟨_, _, rfl, rfl, ?_⟩ | refine iteT ?_ | refine iteF ?_ | refine ⟨(by show (0 : Int) < _; omega), ?_⟩ | refine ⟨(⟨by omega, by omega⟩ : CDiv _ _), ?_⟩ | refine ⟨(⟨by decide, by decide, by decide⟩ : CPow _ _), ?_⟩ | refine ⟨(.inl ⟨by omega, by omega⟩ : CMul _ _), ?_⟩ | refine ⟨(.inr ⟨by omega, by omega⟩ : CMul _ _), ?_⟩ | refine Or.inl ⟨_, rfl, ?_⟩ | refine Or.inr ⟨_, rfl, ?_⟩ | refine ⟨_, _, _, _, true, rfl, .ty _, .base (.str _), kit_ty (by decide +kernel), ?_⟩ | refine ⟨_, _, rfl, ⟨by rw [sizeLine_eq]; omega, rfl⟩, ?_⟩ | refine ⟨_, _, rfl, .inl ⟨_, SqL.of (by assumption), rfl⟩, ?_⟩ | refine ⟨_, _, rfl, .inr ⟨_, SqT.of (by assumption), rfl⟩, ?_⟩))
            refine ⟨some (.ref l), .inl ⟨kvs1, .inr y, .inl gD, rfl, gv.symm⟩, ?_⟩
            refine g_name ?_
            try dsimp only
            (repeat (first | refine ⟨_, rfl, ?_⟩ | refine ⟨rfl, ?_⟩ | refine ⟨_, _, rfl, rfl, ?_⟩ | refine iteT ?_ | refine iteF ?_ | refine ⟨(by show (0 : Int) < _; omega), ?_⟩ | refine ⟨(⟨by omega, by omega⟩ : CDiv _ _), ?_⟩ | refine ⟨(⟨by decide, by decide, by decide⟩ : CPow _ _), ?_⟩ | refine ⟨(.inl ⟨by omega, by omega⟩ : CMul _ _), ?_⟩ | refine ⟨(.inr ⟨by omega, by omega⟩ : CMul _ _), ?_⟩ | refine Or.inl ⟨_, rfl, ?_⟩ | refine Or.inr ⟨_, rfl, ?_⟩ | refine ⟨_, _, _, _, true, rfl, .ty _, .base (.str _), kit_ty (by decide +kernel), ?_⟩ | refine ⟨_, _, rfl, ⟨by rw [sizeLine_eq]; omega, rfl⟩, ?_⟩ | refine ⟨_, _, rfl, .inl ⟨_, SqL.of (by assumption), rfl⟩, ?_⟩ | refine ⟨_, _, rfl, .inr ⟨_, SqT.of (by assumption), rfl⟩, ?_⟩))
            refine ⟨.inl ⟨rfl, _, SqL.of gl⟩, ?_⟩
            (repeat (first | refine ⟨_, rfl, ?_⟩ | refine ⟨rfl, ?_⟩ | refine ⟨_, _, rfl, rfl, ?_⟩ | refine iteT ?_ | refine iteF ?_ | refine ⟨(by show (0 : Int) < _; omega), ?_⟩ | refine ⟨(⟨by omega, by omega⟩ : CDiv _ _), ?_⟩ | refine ⟨(⟨by decide, by decide, by decide⟩ : CPow _ _), ?_⟩ | refine ⟨(.inl ⟨by omega, by omega⟩ : CMul _ _), ?_⟩ | refine ⟨(.inr ⟨by omega, by omega⟩ : CMul _ _), ?_⟩ | refine Or.inl ⟨_, rfl, ?_⟩ | refine Or.inr ⟨_, rfl, ?_⟩ | refine ⟨_, _, _, _, true, rfl, .ty _, .base (.str _), kit_ty (by decide +kernel), ?_⟩ | refine ⟨_, _, rfl, ⟨by rw [sizeLine_eq]; omega, rfl⟩, ?_⟩ | refine ⟨_, _, rfl, .inl ⟨_, SqL.of (by assumption), rfl⟩, ?_⟩ | refine ⟨_, _, rfl, .inr ⟨_, SqT.of (by assumption), rfl⟩, ?_⟩))
            refine ⟨l, _, _, rfl, rfl, gl, small1000 (by omega), ?_⟩
            refine ⟨_, _, rfl, Same.put sG m3, (upd_ne m2.symm).trans gH, (upd_ne m1.symm).trans gD, wr m5 m4 hO, fun n hn => ?_⟩
            obtain ⟨l', xs', b1, b2, b3, b4⟩ := lists n hn
            by_cases e : l' = l
            · subst e
              rw [gl] at b3
              cases b3
              exact ⟨l', _, b1, b2, upd_same, by rw [List.length_append]; simp only [List.length_cons, List.length_nil]; omega⟩
            · exact ⟨l', xs', b1, b2, (upd_ne e).trans b3, by omega⟩
          · rintro σ G ⟨v5, v7, rfl, sG, gH, gD, hO, lists⟩
            exact k _ _ ⟨v5, v7, rfl, sG, hO⟩
        · clear gD gH sG lists hO Hg
          rintro σ Hh ⟨v5, v7, rfl, sh, hO⟩
          have hO : HireO A.C_Hires (fun _ => True) Hh x (sortS ps) (toldR ps rows) := hO.mv fun b o _ e => ⟨trivial, e⟩
          have h := h.same sh
          obtain ⟨dx, lp, td, kvs2, _, _, _, hX, _⟩ := id hO
          have no1 : (hfl lp td).lookup ("people" : Str) = none := hfl_no _ _ (by decide +kernel) (by decide +kernel)
          have no2 : (hfl lp td).lookup ("jobs_of" : Str) = none := hfl_no _ _ (by decide +kernel) (by decide +kernel)
          clear sh
          refine seq_joinS (fun σ G => ∃ (v5 v7 v8 v9 : Option V), σ = [some (.ref sc), some (.ref wl), some (.ref a), some (.ref d), some (.ref h4), v5, some (.ref x), v7, v8, v9, none, none, none, none] ∧ Same Hh G) (fun O k => ?_) ?_
          · skip
            (repeat (first | refine ⟨_, rfl, ?_⟩ | refine ⟨rfl, ?_⟩ | refine ⟨_, _, rfl, rfl, ?_⟩ | refine iteT ?_ | refine iteF ?_ | refine ⟨(by show (0 : Int) < _; omega), ?_⟩ | refine ⟨(⟨by omega, by omega⟩ : CDiv _ _), ?_⟩ | refine ⟨(⟨by decide, by decide, by decide⟩ : CPow _ _), ?_⟩ | refine ⟨(.inl ⟨by omega, by omega⟩ : CMul _ _), ?_⟩ | refine ⟨(.inr ⟨by omega, by omega⟩ : CMul _ _), ?_⟩ | refine Or.inl ⟨_, rfl, ?_⟩ | refine Or.inr ⟨_, rfl, ?_⟩ | refine ⟨_, _, _, _, true, rfl, .ty _, .base (.str _), kit_ty (by decide +kernel), ?_⟩ | refine ⟨_, _, rfl, ⟨by rw [sizeLine_eq]; omega, rfl⟩, ?_⟩ | refine ⟨_, _, rfl, .inl ⟨_, SqL.of (by assumption), rfl⟩, ?_⟩ | refine ⟨_, _, rfl, .inr ⟨_, SqT.of (by assumption), rfl⟩, ?_⟩))
            refine ⟨by omega, by omega, for_it walk_range (fun i σ G => ∃ (v5 v7 v8 v9 : Option V), σ = [some (.ref sc), some (.ref wl), some (.ref a), some (.ref d), some (.ref h4), v5, some (.ref x), v7, v8, v9, none, none, none, none] ∧ Same Hh G) ⟨_, _, _, _, rfl, Same.refl _⟩ (fun _ _ _ _ _ => True.intro) ?_ ?_⟩
            · rintro i v σ Hx G hi ⟨v5, v7, v8, v9, rfl, sG⟩ ⟨rfl, rfl⟩
              refine g_name ?_
              try dsimp only
              (repeat (first | refine ⟨_, rfl, ?_⟩ | refine ⟨rfl, ?_⟩ | refine ⟨_, _, rfl, rfl, ?_⟩ | refine iteT ?_ | refine iteF ?_ | refine ⟨(by show (0 : Int) < _; omega), ?_⟩ | refine ⟨(⟨by omega, by omega⟩ : CDiv _ _), ?_⟩ | refine ⟨(⟨by decide, by decide, by decide⟩ : CPow _ _), ?_⟩ | refine ⟨(.inl ⟨by omega, by omega⟩ : CMul _ _), ?_⟩ | refine ⟨(.inr ⟨by omega, by omega⟩ : CMul _ _), ?_⟩ | refine Or.inl ⟨_, rfl, ?_⟩ | refine Or.inr ⟨_, rfl, ?_⟩ | refine ⟨_, _, _, _, true, rfl, .ty _, .base (.str _), kit_ty (by decide +kernel), ?_⟩ | refine ⟨_, _, rfl, ⟨by rw [sizeLine_eq]; omega, rfl⟩, ?_⟩ | refine ⟨_, _, rfl, .inl ⟨_, SqL.of (by assumption), rfl⟩, ?_⟩ | refine ⟨_, _, rfl, .inr ⟨_, SqT.of (by assumption), rfl⟩, ?_⟩))
              refine ⟨x, dx, _, rfl, sG _ _ hX, no1, ?_⟩
              refine ⟨x, _, _, _, rfl, hO.same sG, fun p G1 np s1 hp => ?_⟩
              have sG1 := sG.trans s1
              (repeat (first | refine ⟨_, rfl, ?_⟩ | refine ⟨rfl, ?_⟩ | refine ⟨_, _, rfl, rfl, ?_⟩ | refine iteT ?_ | refine iteF ?_ | refine ⟨(by show (0 : Int) < _; omega), ?_⟩ | refine ⟨(⟨by omega, by omega⟩ : CDiv _ _), ?_⟩ | refine ⟨(⟨by decide, by decide, by decide⟩ : CPow _ _), ?_⟩ | refine ⟨(.inl ⟨by omega, by omega⟩ : CMul _ _), ?_⟩ | refine ⟨(.inr ⟨by omega, by omega⟩ : CMul _ _), ?_⟩ | refine Or.inl ⟨_, rfl, ?_⟩ | refine Or.inr ⟨_, rfl, ?_⟩ | refine ⟨_, _, _, _, true, rfl, .ty _, .base (.str _), kit_ty (by decide +kernel), ?_⟩ | refine ⟨_, _, rfl, ⟨by rw [sizeLine_eq]; omega, rfl⟩, ?_⟩ | refine ⟨_, _, rfl, .inl ⟨_, SqL.of (by assumption), rfl⟩, ?_⟩ | refine ⟨_, _, rfl, .inr ⟨_, SqT.of (by assumption), rfl⟩, ?_⟩))
              refine ⟨a, _, rfl, SqL.of (h.same sG1).ha, (by omega), fun ys l pm so nl => ?_⟩
              rw [sortS_eq pm so]
              refine ⟨_, _, _, rfl, .lst (Same.new nl _ _ hp) upd_same (strs_sc _) (strs_sc _) (by rw [List.length_map, sortS_length]; omega) (by rw [List.length_map, sortS_length]; omega), fun G2 s2 => ?_⟩
              rw [decide_eq_true rfl]
              (repeat (first | refine ⟨_, rfl, ?_⟩ | refine ⟨rfl, ?_⟩ | refine ⟨_, _, rfl, rfl, ?_⟩ | refine iteT ?_ | refine iteF ?_ | refine ⟨(by show (0 : Int) < _; omega), ?_⟩ | refine ⟨(⟨by omega, by omega⟩ : CDiv _ _), ?_⟩ | refine ⟨(⟨by decide, by decide, by decide⟩ : CPow _ _), ?_⟩ | refine ⟨(.inl ⟨by omega, by omega⟩ : CMul _ _), ?_⟩ | refine ⟨(.inr ⟨by omega, by omega⟩ : CMul _ _), ?_⟩ | refine Or.inl ⟨_, rfl, ?_⟩ | refine Or.inr ⟨_, rfl, ?_⟩ | refine ⟨_, _, _, _, true, rfl, .ty _, .base (.str _), kit_ty (by decide +kernel), ?_⟩ | refine ⟨_, _, rfl, ⟨by rw [sizeLine_eq]; omega, rfl⟩, ?_⟩ | refine ⟨_, _, rfl, .inl ⟨_, SqL.of (by assumption), rfl⟩, ?_⟩ | refine ⟨_, _, rfl, .inr ⟨_, SqT.of (by assumption), rfl⟩, ?_⟩))
              have sG2 := (Same.put sG1 (sG1.free nl)).trans s2
              clear hp pm so nl np s1 s2 sG sG1
              refine ⟨⟨_, SqL.of (h.same sG2).ha⟩, for_it walk_list (fun i σ G => ∃ (v5 v7 v8 v9 : Option V), σ = [some (.ref sc), some (.ref wl), some (.ref a), some (.ref d), some (.ref h4), v5, some (.ref x), v7, v8, v9, none, none, none, none] ∧ Same Hh G) ⟨_, _, _, _, rfl, sG2⟩ (fun i σ H' _ ⟨_, _, _, _, _, z⟩ => SqL.of (h.same z).ha) ?_ ?_⟩
              · clear sG2
                rintro j u τ Hy G3 hj ⟨v5, v7, v8, v9, rfl, sG⟩ ⟨rfl, hu⟩
                rw [List.length_map] at hj
                obtain ⟨y, hy⟩ : ∃ n, ps[j]? = some n := ⟨_, List.getElem?_eq_getElem hj⟩
                have ev : u = V.str y := by
                  rw [List.getElem?_map, hy] at hu
                  exact (Option.some.inj hu).symm
                subst ev
                have ym : y ∈ ps := List.mem_of_getElem? hy
                have tl := told_look (rows := rows) ym
                obtain ⟨ws, lk, ew, lw, _⟩ := hg.look ym
                rw [ew] at tl
                refine g_name ?_
                try dsimp only
                refine seq_asg ?_
                (repeat (first | refine ⟨_, rfl, ?_⟩ | refine ⟨rfl, ?_⟩ | refine ⟨_, _, rfl, rfl, ?_⟩ | refine iteT ?_ | refine iteF ?_ | refine ⟨(by show (0 : Int) < _; omega), ?_⟩ | refine ⟨(⟨by omega, by omega⟩ : CDiv _ _), ?_⟩ | refine ⟨(⟨by decide, by decide, by decide⟩ : CPow _ _), ?_⟩ | refine ⟨(.inl ⟨by omega, by omega⟩ : CMul _ _), ?_⟩ | refine ⟨(.inr ⟨by omega, by omega⟩ : CMul _ _), ?_⟩ | refine Or.inl ⟨_, rfl, ?_⟩ | refine Or.inr ⟨_, rfl, ?_⟩ | refine ⟨_, _, _, _, true, rfl, .ty _, .base (.str _), kit_ty (by decide +kernel), ?_⟩ | refine ⟨_, _, rfl, ⟨by rw [sizeLine_eq]; omega, rfl⟩, ?_⟩ | refine ⟨_, _, rfl, .inl ⟨_, SqL.of (by assumption), rfl⟩, ?_⟩ | refine ⟨_, _, rfl, .inr ⟨_, SqT.of (by assumption), rfl⟩, ?_⟩))
                refine ⟨x, dx, _, rfl, sG _ _ hX, no2, ?_⟩
                (repeat (first | refine ⟨_, rfl, ?_⟩ | refine ⟨rfl, ?_⟩ | refine ⟨_, _, rfl, rfl, ?_⟩ | refine iteT ?_ | refine iteF ?_ | refine ⟨(by show (0 : Int) < _; omega), ?_⟩ | refine ⟨(⟨by omega, by omega⟩ : CDiv _ _), ?_⟩ | refine ⟨(⟨by decide, by decide, by decide⟩ : CPow _ _), ?_⟩ | refine ⟨(.inl ⟨by omega, by omega⟩ : CMul _ _), ?_⟩ | refine ⟨(.inr ⟨by omega, by omega⟩ : CMul _ _), ?_⟩ | refine Or.inl ⟨_, rfl, ?_⟩ | refine Or.inr ⟨_, rfl, ?_⟩ | refine ⟨_, _, _, _, true, rfl, .ty _, .base (.str _), kit_ty (by decide +kernel), ?_⟩ | refine ⟨_, _, rfl, ⟨by rw [sizeLine_eq]; omega, rfl⟩, ?_⟩ | refine ⟨_, _, rfl, .inl ⟨_, SqL.of (by assumption), rfl⟩, ?_⟩ | refine ⟨_, _, rfl, .inr ⟨_, SqT.of (by assumption), rfl⟩, ?_⟩))
                refine ⟨x, y, _, _, _, rfl, hO.same sG, fun us hw p G4 np s1 hp => ?_, fun e => (by rw [tl] at e; cases e)⟩
                rw [tl] at hw
                cases hw
                refine g_name ?_
                try dsimp only
                have sG4 := sG.trans s1
                obtain ⟨l, gl, hl⟩ := (h.same sG4).at lk
                (repeat (first | refine ⟨_, rfl, ?_⟩ | refine ⟨rfl, ?_⟩ | refine ⟨_, _, rfl, rfl, ?_⟩ | refine iteT ?_ | refine iteF ?_ | refine ⟨(by show (0 : Int) < _; omega), ?_⟩ | refine ⟨(⟨by omega, by omega⟩ : CDiv _ _), ?_⟩ | refine ⟨(⟨by decide, by decide, by decide⟩ : CPow _ _), ?_⟩ | refine ⟨(.inl ⟨by omega, by omega⟩ : CMul _ _), ?_⟩ | refine ⟨(.inr ⟨by omega, by omega⟩ : CMul _ _), ?_⟩ | refine Or.inl ⟨_, rfl, ?_⟩ | refine Or.inr ⟨_, rfl, ?_⟩ | refine ⟨_, _, _, _, true, rfl, .ty _, .base (.str _), kit_ty (by decide +kernel), ?_⟩ | refine ⟨_, _, rfl, ⟨by rw [sizeLine_eq]; omega, rfl⟩, ?_⟩ | refine ⟨_, _, rfl, .inl ⟨_, SqL.of (by assumption), rfl⟩, ?_⟩ | refine ⟨_, _, rfl, .inr ⟨_, SqT.of (by assumption), rfl⟩, ?_⟩))
                refine ⟨d, .ref l, rfl, gl, ?_⟩
                refine ⟨l, _, rfl, SqL.of hl, (by omega), fun ys q pm so nq => ?_⟩
                rw [sortS_eq pm so]
                refine ⟨_, _, _, rfl, .lst (Same.new nq _ _ hp) upd_same (strs_sc _) (strs_sc _) (by rw [List.length_map, sortS_length]; omega) (by rw [List.length_map, sortS_length]; omega), fun G5 s5 => ?_⟩
                rw [decide_eq_true rfl]
                have hp5 := s5 _ _ (Same.new nq _ _ hp)
                have sG5 := (Same.put sG4 (sG4.free nq)).trans s5
                (repeat (first | refine ⟨_, rfl, ?_⟩ | refine ⟨rfl, ?_⟩ | refine ⟨_, _, rfl, rfl, ?_⟩ | refine iteT ?_ | refine iteF ?_ | refine ⟨(by show (0 : Int) < _; omega), ?_⟩ | refine ⟨(⟨by omega, by omega⟩ : CDiv _ _), ?_⟩ | refine ⟨(⟨by decide, by decide, by decide⟩ : CPow _ _), ?_⟩ | refine ⟨(.inl ⟨by omega, by omega⟩ : CMul _ _), ?_⟩ | refine ⟨(.inr ⟨by omega, by omega⟩ : CMul _ _), ?_⟩ | refine Or.inl ⟨_, rfl, ?_⟩ | refine Or.inr ⟨_, rfl, ?_⟩ | refine ⟨_, _, _, _, true, rfl, .ty _, .base (.str _), kit_ty (by decide +kernel), ?_⟩ | refine ⟨_, _, rfl, ⟨by rw [sizeLine_eq]; omega, rfl⟩, ?_⟩ | refine ⟨_, _, rfl, .inl ⟨_, SqL.of (by assumption), rfl⟩, ?_⟩ | refine ⟨_, _, rfl, .inr ⟨_, SqT.of (by assumption), rfl⟩, ?_⟩))
                refine ⟨.inl ⟨rfl, _, SqL.of hp5⟩, ?_⟩
                (repeat (first | refine ⟨_, rfl, ?_⟩ | refine ⟨rfl, ?_⟩ | refine ⟨_, _, rfl, rfl, ?_⟩ | refine iteT ?_ | refine iteF ?_ | refine ⟨(by show (0 : Int) < _; omega), ?_⟩ | refine ⟨(⟨by omega, by omega⟩ : CDiv _ _), ?_⟩ | refine ⟨(⟨by decide, by decide, by decide⟩ : CPow _ _), ?_⟩ | refine ⟨(.inl ⟨by omega, by omega⟩ : CMul _ _), ?_⟩ | refine ⟨(.inr ⟨by omega, by omega⟩ : CMul _ _), ?_⟩ | refine Or.inl ⟨_, rfl, ?_⟩ | refine Or.inr ⟨_, rfl, ?_⟩ | refine ⟨_, _, _, _, true, rfl, .ty _, .base (.str _), kit_ty (by decide +kernel), ?_⟩ | refine ⟨_, _, rfl, ⟨by rw [sizeLine_eq]; omega, rfl⟩, ?_⟩ | refine ⟨_, _, rfl, .inl ⟨_, SqL.of (by assumption), rfl⟩, ?_⟩ | refine ⟨_, _, rfl, .inr ⟨_, SqT.of (by assumption), rfl⟩, ?_⟩))
                refine ⟨p, _, _, rfl, rfl, hp5, small1000 (by rw [List.length_map, sortS_length]; omega), ?_⟩
                exact ⟨_, _, _, _, rfl, Same.put sG5 (sG.free np)⟩
              · clear sG2
                rintro τ G3 ⟨v5, v7, v8, v9, rfl, sG⟩
                try dsimp only
                refine seq_asg ?_
                (repeat (first | refine ⟨_, rfl, ?_⟩ | refine ⟨rfl, ?_⟩ | refine ⟨_, _, rfl, rfl, ?_⟩ | refine iteT ?_ | refine iteF ?_ | refine ⟨(by show (0 : Int) < _; omega), ?_⟩ | refine ⟨(⟨by omega, by omega⟩ : CDiv _ _), ?_⟩ | refine ⟨(⟨by decide, by decide, by decide⟩ : CPow _ _), ?_⟩ | refine ⟨(.inl ⟨by omega, by omega⟩ : CMul _ _), ?_⟩ | refine ⟨(.inr ⟨by omega, by omega⟩ : CMul _ _), ?_⟩ | refine Or.inl ⟨_, rfl, ?_⟩ | refine Or.inr ⟨_, rfl, ?_⟩ | refine ⟨_, _, _, _, true, rfl, .ty _, .base (.str _), kit_ty (by decide +kernel), ?_⟩ | refine ⟨_, _, rfl, ⟨by rw [sizeLine_eq]; omega, rfl⟩, ?_⟩ | refine ⟨_, _, rfl, .inl ⟨_, SqL.of (by assumption), rfl⟩, ?_⟩ | refine ⟨_, _, rfl, .inr ⟨_, SqT.of (by assumption), rfl⟩, ?_⟩))
                refine ⟨x, dx, _, rfl, sG _ _ hX, no1, ?_⟩
                refine ⟨x, _, _, _, rfl, hO.same sG, fun p G1 np s1 hp => ?_⟩
                refine g_name ?_
                try dsimp only
                (repeat (first | refine ⟨_, rfl, ?_⟩ | refine ⟨rfl, ?_⟩ | refine ⟨_, _, rfl, rfl, ?_⟩ | refine iteT ?_ | refine iteF ?_ | refine ⟨(by show (0 : Int) < _; omega), ?_⟩ | refine ⟨(⟨by omega, by omega⟩ : CDiv _ _), ?_⟩ | refine ⟨(⟨by decide, by decide, by decide⟩ : CPow _ _), ?_⟩ | refine ⟨(.inl ⟨by omega, by omega⟩ : CMul _ _), ?_⟩ | refine ⟨(.inr ⟨by omega, by omega⟩ : CMul _ _), ?_⟩ | refine Or.inl ⟨_, rfl, ?_⟩ | refine Or.inr ⟨_, rfl, ?_⟩ | refine ⟨_, _, _, _, true, rfl, .ty _, .base (.str _), kit_ty (by decide +kernel), ?_⟩ | refine ⟨_, _, rfl, ⟨by rw [sizeLine_eq]; omega, rfl⟩, ?_⟩ | refine ⟨_, _, rfl, .inl ⟨_, SqL.of (by assumption), rfl⟩, ?_⟩ | refine ⟨_, _, rfl, .inr ⟨_, SqT.of (by assumption), rfl⟩, ?_⟩))
                refine ⟨.inl ⟨rfl, _, SqL.of hp⟩, ?_⟩
                (repeat (first | refine ⟨_, rfl, ?_⟩ | refine ⟨rfl, ?_⟩ | refine ⟨_, _, rfl, rfl, ?_⟩ | refine iteT ?_ | refine iteF ?_ | refine ⟨(by show (0 : Int) < _; omega), ?_⟩ | refine ⟨(⟨by omega, by omega⟩ : CDiv _ _), ?_⟩ | refine ⟨(⟨by decide, by decide, by decide⟩ : CPow _ _), ?_⟩ | refine ⟨(.inl ⟨by omega, by omega⟩ : CMul _ _), ?_⟩ | refine ⟨(.inr ⟨by omega, by omega⟩ : CMul _ _), ?_⟩ | refine Or.inl ⟨_, rfl, ?_⟩ | refine Or.inr ⟨_, rfl, ?_⟩ | refine ⟨_, _, _, _, true, rfl, .ty _, .base (.str _), kit_ty (by decide +kernel), ?_⟩ | refine ⟨_, _, rfl, ⟨by rw [sizeLine_eq]; omega, rfl⟩, ?_⟩ | refine ⟨_, _, rfl, .inl ⟨_, SqL.of (by assumption), rfl⟩, ?_⟩ | refine ⟨_, _, rfl, .inr ⟨_, SqT.of (by assumption), rfl⟩, ?_⟩))
                refine ⟨p, _, _, rfl, rfl, hp, small1000 (by rw [List.length_map, sortS_length]; omega), ?_⟩
                exact ⟨_, _, _, _, rfl, Same.put (sG.trans s1) (sG.free np)⟩
            · rintro σ G ⟨v5, v7, v8, v9, rfl, sG⟩
              exact k _ _ ⟨v5, v7, v8, v9, rfl, sG⟩
          · rintro σ Hi ⟨v5, v7, v8, v9, rfl, sG⟩
            replace hO := hO.same sG
            replace h := h.same sG
            clear hX no2 no1 sG
            refine seq_join (fun G => Same Hi G) (fun O k => ?_) ?_
            · skip
              (repeat (first | refine ⟨_, rfl, ?_⟩ | refine ⟨rfl, ?_⟩ | refine ⟨_, _, rfl, rfl, ?_⟩ | refine iteT ?_ | refine iteF ?_ | refine ⟨(by show (0 : Int) < _; omega), ?_⟩ | refine ⟨(⟨by omega, by omega⟩ : CDiv _ _), ?_⟩ | refine ⟨(⟨by decide, by decide, by decide⟩ : CPow _ _), ?_⟩ | refine ⟨(.inl ⟨by omega, by omega⟩ : CMul _ _), ?_⟩ | refine ⟨(.inr ⟨by omega, by omega⟩ : CMul _ _), ?_⟩ | refine Or.inl ⟨_, rfl, ?_⟩ | refine Or.inr ⟨_, rfl, ?_⟩ | refine ⟨_, _, _, _, true, rfl, .ty _, .base (.str _), kit_ty (by decide +kernel), ?_⟩ | refine ⟨_, _, rfl, ⟨by rw [sizeLine_eq]; omega, rfl⟩, ?_⟩ | refine ⟨_, _, rfl, .inl ⟨_, SqL.of (by assumption), rfl⟩, ?_⟩ | refine ⟨_, _, rfl, .inr ⟨_, SqT.of (by assumption), rfl⟩, ?_⟩))
              refine ⟨x, "zzzzzzzz", _, _, _, rfl, hO, fun ws hw p G1 np s1 hp => ?_, fun hn p G1 np s1 hp => ?_⟩
              · have zm : ("zzzzzzzz" : Str) ∈ ps := Decidable.byContradiction fun c => by
                  rw [lookup_none.mpr (by rw [told_keys]; exact fun q => c ((mem_sortS _ _).mp q))] at hw
                  cases hw
                (repeat (first | refine ⟨_, rfl, ?_⟩ | refine ⟨rfl, ?_⟩ | refine ⟨_, _, rfl, rfl, ?_⟩ | refine iteT ?_ | refine iteF ?_ | refine ⟨(by show (0 : Int) < _; omega), ?_⟩ | refine ⟨(⟨by omega, by omega⟩ : CDiv _ _), ?_⟩ | refine ⟨(⟨by decide, by decide, by decide⟩ : CPow _ _), ?_⟩ | refine ⟨(.inl ⟨by omega, by omega⟩ : CMul _ _), ?_⟩ | refine ⟨(.inr ⟨by omega, by omega⟩ : CMul _ _), ?_⟩ | refine Or.inl ⟨_, rfl, ?_⟩ | refine Or.inr ⟨_, rfl, ?_⟩ | refine ⟨_, _, _, _, true, rfl, .ty _, .base (.str _), kit_ty (by decide +kernel), ?_⟩ | refine ⟨_, _, rfl, ⟨by rw [sizeLine_eq]; omega, rfl⟩, ?_⟩ | refine ⟨_, _, rfl, .inl ⟨_, SqL.of (by assumption), rfl⟩, ?_⟩ | refine ⟨_, _, rfl, .inr ⟨_, SqT.of (by assumption), rfl⟩, ?_⟩))
                refine ⟨(by show 2 ≤ sizeLine; rw [sizeLine_eq]; omega), fun q nq => ?_⟩
                refine ⟨_, _, _, rfl, .odd (Same.new nq _ _ hp) upd_same, fun G2 s2 => ?_⟩
                have sG2 := (Same.put s1 (s1.free nq)).trans s2
                (repeat (first | refine ⟨_, rfl, ?_⟩ | refine ⟨rfl, ?_⟩ | refine ⟨_, _, rfl, rfl, ?_⟩ | refine iteT ?_ | refine iteF ?_ | refine ⟨(by show (0 : Int) < _; omega), ?_⟩ | refine ⟨(⟨by omega, by omega⟩ : CDiv _ _), ?_⟩ | refine ⟨(⟨by decide, by decide, by decide⟩ : CPow _ _), ?_⟩ | refine ⟨(.inl ⟨by omega, by omega⟩ : CMul _ _), ?_⟩ | refine ⟨(.inr ⟨by omega, by omega⟩ : CMul _ _), ?_⟩ | refine Or.inl ⟨_, rfl, ?_⟩ | refine Or.inr ⟨_, rfl, ?_⟩ | refine ⟨_, _, _, _, true, rfl, .ty _, .base (.str _), kit_ty (by decide +kernel), ?_⟩ | refine ⟨_, _, rfl, ⟨by rw [sizeLine_eq]; omega, rfl⟩, ?_⟩ | refine ⟨_, _, rfl, .inl ⟨_, SqL.of (by assumption), rfl⟩, ?_⟩ | refine ⟨_, _, rfl, .inr ⟨_, SqT.of (by assumption), rfl⟩, ?_⟩))
                refine ⟨a, _, rfl, .inl (SqL.of (h.same sG2).ha), rfl, flat_strs _, ?_⟩
                rw [if_pos rfl, inV_strs, decide_eq_true zm]
                (repeat (first | refine ⟨_, rfl, ?_⟩ | refine ⟨rfl, ?_⟩ | refine ⟨_, _, rfl, rfl, ?_⟩ | refine iteT ?_ | refine iteF ?_ | refine ⟨(by show (0 : Int) < _; omega), ?_⟩ | refine ⟨(⟨by omega, by omega⟩ : CDiv _ _), ?_⟩ | refine ⟨(⟨by decide, by decide, by decide⟩ : CPow _ _), ?_⟩ | refine ⟨(.inl ⟨by omega, by omega⟩ : CMul _ _), ?_⟩ | refine ⟨(.inr ⟨by omega, by omega⟩ : CMul _ _), ?_⟩ | refine Or.inl ⟨_, rfl, ?_⟩ | refine Or.inr ⟨_, rfl, ?_⟩ | refine ⟨_, _, _, _, true, rfl, .ty _, .base (.str _), kit_ty (by decide +kernel), ?_⟩ | refine ⟨_, _, rfl, ⟨by rw [sizeLine_eq]; omega, rfl⟩, ?_⟩ | refine ⟨_, _, rfl, .inl ⟨_, SqL.of (by assumption), rfl⟩, ?_⟩ | refine ⟨_, _, rfl, .inr ⟨_, SqT.of (by assumption), rfl⟩, ?_⟩))
                exact k _ sG2
              · (repeat (first | refine ⟨_, rfl, ?_⟩ | refine ⟨rfl, ?_⟩ | refine ⟨_, _, rfl, rfl, ?_⟩ | refine iteT ?_ | refine iteF ?_ | refine ⟨(by show (0 : Int) < _; omega), ?_⟩ | refine ⟨(⟨by omega, by omega⟩ : CDiv _ _), ?_⟩ | refine ⟨(⟨by decide, by decide, by decide⟩ : CPow _ _), ?_⟩ | refine ⟨(.inl ⟨by omega, by omega⟩ : CMul _ _), ?_⟩ | refine ⟨(.inr ⟨by omega, by omega⟩ : CMul _ _), ?_⟩ | refine Or.inl ⟨_, rfl, ?_⟩ | refine Or.inr ⟨_, rfl, ?_⟩ | refine ⟨_, _, _, _, true, rfl, .ty _, .base (.str _), kit_ty (by decide +kernel), ?_⟩ | refine ⟨_, _, rfl, ⟨by rw [sizeLine_eq]; omega, rfl⟩, ?_⟩ | refine ⟨_, _, rfl, .inl ⟨_, SqL.of (by assumption), rfl⟩, ?_⟩ | refine ⟨_, _, rfl, .inr ⟨_, SqT.of (by assumption), rfl⟩, ?_⟩))
                refine ⟨(by show 2 ≤ sizeLine; rw [sizeLine_eq]; omega), fun q nq => ?_⟩
                refine ⟨_, _, _, rfl, .tup (Same.new nq _ _ hp) upd_same (strs_sc ["thing", "zzzzzzzz"]) (strs_sc ["thing", "zzzzzzzz"]) (by show 2 ≤ 1000; omega) (by show 2 ≤ 1000; omega), fun G2 s2 => ?_⟩
                rw [decide_eq_true rfl]
                (repeat (first | refine ⟨_, rfl, ?_⟩ | refine ⟨rfl, ?_⟩ | refine ⟨_, _, rfl, rfl, ?_⟩ | refine iteT ?_ | refine iteF ?_ | refine ⟨(by show (0 : Int) < _; omega), ?_⟩ | refine ⟨(⟨by omega, by omega⟩ : CDiv _ _), ?_⟩ | refine ⟨(⟨by decide, by decide, by decide⟩ : CPow _ _), ?_⟩ | refine ⟨(.inl ⟨by omega, by omega⟩ : CMul _ _), ?_⟩ | refine ⟨(.inr ⟨by omega, by omega⟩ : CMul _ _), ?_⟩ | refine Or.inl ⟨_, rfl, ?_⟩ | refine Or.inr ⟨_, rfl, ?_⟩ | refine ⟨_, _, _, _, true, rfl, .ty _, .base (.str _), kit_ty (by decide +kernel), ?_⟩ | refine ⟨_, _, rfl, ⟨by rw [sizeLine_eq]; omega, rfl⟩, ?_⟩ | refine ⟨_, _, rfl, .inl ⟨_, SqL.of (by assumption), rfl⟩, ?_⟩ | refine ⟨_, _, rfl, .inr ⟨_, SqT.of (by assumption), rfl⟩, ?_⟩))
                exact k _ ((Same.put s1 (s1.free nq)).trans s2)
            · rintro Hj sG
              replace hO := hO.same sG
              replace h := h.same sG
              clear sG
              refine seq_asg ?_
              refine fun o no => ?_
              refine g_name ?_
              have so := Same.new (o := .dK []) no
              have eo : upd Hj o (.dK []) o = some (.dK []) := upd_same
              generalize upd Hj o (.dK []) = Hk at *
              refine seq_joinS (fun σ G => ∃ (v5 v7 v8 v9 : Option V) (kvs3 : List (Key × V)), σ = [some (.ref sc), some (.ref wl), some (.ref a), some (.ref d), some (.ref h4), v5, some (.ref x), v7, v8, v9, some (.ref o), none, none, none] ∧ Same Hj G ∧ G o = some (.dK kvs3) ∧ RowsN (fun l => l ≠ o) G kvs3 (mkR (fun n => (rowG rows n).reverse) ps.reverse)) (fun O k => ?_) ?_
              · skip
                (repeat (first | refine ⟨_, rfl, ?_⟩ | refine ⟨rfl, ?_⟩ | refine ⟨_, _, rfl, rfl, ?_⟩ | refine iteT ?_ | refine iteF ?_ | refine ⟨(by show (0 : Int) < _; omega), ?_⟩ | refine ⟨(⟨by omega, by omega⟩ : CDiv _ _), ?_⟩ | refine ⟨(⟨by decide, by decide, by decide⟩ : CPow _ _), ?_⟩ | refine ⟨(.inl ⟨by omega, by omega⟩ : CMul _ _), ?_⟩ | refine ⟨(.inr ⟨by omega, by omega⟩ : CMul _ _), ?_⟩ | refine Or.inl ⟨_, rfl, ?_⟩ | refine Or.inr ⟨_, rfl, ?_⟩ | refine ⟨_, _, _, _, true, rfl, .ty _, .base (.str _), kit_ty (by decide +kernel), ?_⟩ | refine ⟨_, _, rfl, ⟨by rw [sizeLine_eq]; omega, rfl⟩, ?_⟩ | refine ⟨_, _, rfl, .inl ⟨_, SqL.of (by assumption), rfl⟩, ?_⟩ | refine ⟨_, _, rfl, .inr ⟨_, SqT.of (by assumption), rfl⟩, ?_⟩))
                refine ⟨a, _, rfl, SqL.of (h.same so).ha, fun q nq => ?_⟩
                rw [← List.map_reverse]
                have qo : q ≠ o := fun e => by rw [e, eo] at nq; cases nq
                (repeat (first | refine ⟨_, rfl, ?_⟩ | refine ⟨rfl, ?_⟩ | refine ⟨_, _, rfl, rfl, ?_⟩ | refine iteT ?_ | refine iteF ?_ | refine ⟨(by show (0 : Int) < _; omega), ?_⟩ | refine ⟨(⟨by omega, by omega⟩ : CDiv _ _), ?_⟩ | refine ⟨(⟨by decide, by decide, by decide⟩ : CPow _ _), ?_⟩ | refine ⟨(.inl ⟨by omega, by omega⟩ : CMul _ _), ?_⟩ | refine ⟨(.inr ⟨by omega, by omega⟩ : CMul _ _), ?_⟩ | refine Or.inl ⟨_, rfl, ?_⟩ | refine Or.inr ⟨_, rfl, ?_⟩ | refine ⟨_, _, _, _, true, rfl, .ty _, .base (.str _), kit_ty (by decide +kernel), ?_⟩ | refine ⟨_, _, rfl, ⟨by rw [sizeLine_eq]; omega, rfl⟩, ?_⟩ | refine ⟨_, _, rfl, .inl ⟨_, SqL.of (by assumption), rfl⟩, ?_⟩ | refine ⟨_, _, rfl, .inr ⟨_, SqT.of (by assumption), rfl⟩, ?_⟩))
                refine ⟨⟨_, SqL.of upd_same⟩, for_it walk_list (fun i σ G => ∃ (v5 v7 v8 v9 : Option V) (kvs3 : List (Key × V)), σ = [some (.ref sc), some (.ref wl), some (.ref a), some (.ref d), some (.ref h4), v5, some (.ref x), v7, v8, v9, some (.ref o), none, none, none] ∧ Same Hj G ∧ G q = some (.lst (ps.reverse.map V.str)) ∧ G o = some (.dK kvs3) ∧ RowsN (fun l => l ≠ o) G kvs3 (mkR (fun n => (rowG rows n).reverse) (ps.reverse.take i)))
                  ⟨_, _, _, _, [], rfl, Same.put so (so.free nq), upd_same, (upd_ne qo.symm).trans eo, .nil⟩ (fun i σ H' _ ⟨_, _, _, _, _, _, _, z, _⟩ => SqL.of z) ?_ ?_⟩
                · clear so eo nq
                  rintro i v σ Hx G hi ⟨v5, v7, v8, v9, kvs3, rfl, sG, gq, go, gR⟩ ⟨rfl, hv⟩
                  rw [List.length_map] at hi
                  obtain ⟨y, hy⟩ : ∃ n, ps.reverse[i]? = some n := ⟨_, List.getElem?_eq_getElem hi⟩
                  have ev : v = V.str y := by
                    rw [List.getElem?_map, hy] at hv
                    exact (Option.some.inj hv).symm
                  subst ev
                  have ym : y ∈ ps := List.mem_reverse.mp (List.mem_of_getElem? hy)
                  obtain ⟨ws, lk, ew, lw, _⟩ := hg.look ym
                  obtain ⟨l, gl, hl⟩ := (h.same sG).at lk
                  have lk3 : kvs3.length ≤ 24 := by
                    rw [gR.length]
                    unfold mkR
                    rw [List.length_map, List.length_take, List.length_reverse]
                    omega
                  (repeat (first | refine ⟨_, rfl, ?_⟩ | refine ⟨rfl, ?_⟩ | refine ⟨_, _, rfl, rfl, ?_⟩ | refine iteT ?_ | refine iteF ?_ | refine ⟨(by show (0 : Int) < _; omega), ?_⟩ | refine ⟨(⟨by omega, by omega⟩ : CDiv _ _), ?_⟩ | refine ⟨(⟨by decide, by decide, by decide⟩ : CPow _ _), ?_⟩ | refine ⟨(.inl ⟨by omega, by omega⟩ : CMul _ _), ?_⟩ | refine ⟨(.inr ⟨by omega, by omega⟩ : CMul _ _), ?_⟩ | refine Or.inl ⟨_, rfl, ?_⟩ | refine Or.inr ⟨_, rfl, ?_⟩ | refine ⟨_, _, _, _, true, rfl, .ty _, .base (.str _), kit_ty (by decide +kernel), ?_⟩ | refine ⟨_, _, rfl, ⟨by rw [sizeLine_eq]; omega, rfl⟩, ?_⟩ | refine ⟨_, _, rfl, .inl ⟨_, SqL.of (by assumption), rfl⟩, ?_⟩ | refine ⟨_, _, rfl, .inr ⟨_, SqT.of (by assumption), rfl⟩, ?_⟩))
                  refine ⟨d, .ref l, rfl, gl, ?_⟩
                  refine ⟨l, _, rfl, SqL.of hl, fun r nr => ?_⟩
                  rw [← List.map_reverse]
                  have ro : r ≠ o := fun e => by rw [e, go] at nr; cases nr
                  have s1 := Same.new (o := .lst (ws.reverse.map V.str)) nr
                  (repeat (first | refine ⟨_, rfl, ?_⟩ | refine ⟨rfl, ?_⟩ | refine ⟨_, _, rfl, rfl, ?_⟩ | refine iteT ?_ | refine iteF ?_ | refine ⟨(by show (0 : Int) < _; omega), ?_⟩ | refine ⟨(⟨by omega, by omega⟩ : CDiv _ _), ?_⟩ | refine ⟨(⟨by decide, by decide, by decide⟩ : CPow _ _), ?_⟩ | refine ⟨(.inl ⟨by omega, by omega⟩ : CMul _ _), ?_⟩ | refine ⟨(.inr ⟨by omega, by omega⟩ : CMul _ _), ?_⟩ | refine Or.inl ⟨_, rfl, ?_⟩ | refine Or.inr ⟨_, rfl, ?_⟩ | refine ⟨_, _, _, _, true, rfl, .ty _, .base (.str _), kit_ty (by decide +kernel), ?_⟩ | refine ⟨_, _, rfl, ⟨by rw [sizeLine_eq]; omega, rfl⟩, ?_⟩ | refine ⟨_, _, rfl, .inl ⟨_, SqL.of (by assumption), rfl⟩, ?_⟩ | refine ⟨_, _, rfl, .inr ⟨_, SqT.of (by assumption), rfl⟩, ?_⟩))
                  refine ⟨o, _, rfl, .inl ⟨kvs3, .inr y, s1 _ _ go, rfl, small1000 (by omega), rfl⟩, ?_⟩
                  have gR3 := (gR.same s1).put (n := y) (ws := ws.reverse) (l := r) ro upd_same
                  rw [← ew] at gR3
                  rw [mkR_put (f := fun n => (rowG rows n).reverse) ((List.reverse_perm ps).nodup_iff.mpr hD.nd) hy] at gR3
                  exact ⟨_, _, _, _, _, rfl, Same.put (sG.trans s1) no, (upd_ne qo).trans (s1 _ _ gq), upd_same, gR3.mv fun l xs n e => ⟨n, by rw [upd_ne n, ← ew]; exact e⟩⟩
                · rintro σ G ⟨v5, v7, v8, v9, kvs3, rfl, sG, gq, go, gR⟩
                  rw [List.length_map, List.take_of_length_le (Nat.le_refl _)] at gR
                  exact k _ _ ⟨_, _, _, _, kvs3, rfl, sG, go, gR⟩
              · clear so eo
                rintro σ Hl ⟨v5, v7, v8, v9, kvs3, rfl, sG, go, gR⟩
                have hOj := hO
                have hj := h
                replace hO := hO.same sG
                replace h := h.same sG
                have hg2 : Good ps.reverse (mkR (fun n => (rowG rows n).reverse) ps.reverse) := hg.mk' (List.reverse_perm ps) (List.reverse_perm ps) (fun n _ => List.reverse_perm _)
                refine seq_join (fun G => Same Hl G) (fun O k => ?_) ?_
                · skip
                  (repeat (first | refine ⟨_, rfl, ?_⟩ | refine ⟨rfl, ?_⟩ | refine ⟨_, _, rfl, rfl, ?_⟩ | refine iteT ?_ | refine iteF ?_ | refine ⟨(by show (0 : Int) < _; omega), ?_⟩ | refine ⟨(⟨by omega, by omega⟩ : CDiv _ _), ?_⟩ | refine ⟨(⟨by decide, by decide, by decide⟩ : CPow _ _), ?_⟩ | refine ⟨(.inl ⟨by omega, by omega⟩ : CMul _ _), ?_⟩ | refine ⟨(.inr ⟨by omega, by omega⟩ : CMul _ _), ?_⟩ | refine Or.inl ⟨_, rfl, ?_⟩ | refine Or.inr ⟨_, rfl, ?_⟩ | refine ⟨_, _, _, _, true, rfl, .ty _, .base (.str _), kit_ty (by decide +kernel), ?_⟩ | refine ⟨_, _, rfl, ⟨by rw [sizeLine_eq]; omega, rfl⟩, ?_⟩ | refine ⟨_, _, rfl, .inl ⟨_, SqL.of (by assumption), rfl⟩, ?_⟩ | refine ⟨_, _, rfl, .inr ⟨_, SqT.of (by assumption), rfl⟩, ?_⟩))
                  refine ⟨a, _, rfl, SqL.of h.ha, fun r nr => ?_⟩
                  rw [← List.map_reverse]
                  have s0 := Same.new (o := .lst (ps.reverse.map V.str)) nr
                  have hr0 : upd Hl r (.lst (ps.reverse.map V.str)) r = _ := upd_same
                  generalize upd Hl r (.lst (ps.reverse.map V.str)) = Hm at *
                  (repeat (first | refine ⟨_, rfl, ?_⟩ | refine ⟨rfl, ?_⟩ | refine ⟨_, _, rfl, rfl, ?_⟩ | refine iteT ?_ | refine iteF ?_ | refine ⟨(by show (0 : Int) < _; omega), ?_⟩ | refine ⟨(⟨by omega, by omega⟩ : CDiv _ _), ?_⟩ | refine ⟨(⟨by decide, by decide, by decide⟩ : CPow _ _), ?_⟩ | refine ⟨(.inl ⟨by omega, by omega⟩ : CMul _ _), ?_⟩ | refine ⟨(.inr ⟨by omega, by omega⟩ : CMul _ _), ?_⟩ | refine Or.inl ⟨_, rfl, ?_⟩ | refine Or.inr ⟨_, rfl, ?_⟩ | refine ⟨_, _, _, _, true, rfl, .ty _, .base (.str _), kit_ty (by decide +kernel), ?_⟩ | refine ⟨_, _, rfl, ⟨by rw [sizeLine_eq]; omega, rfl⟩, ?_⟩ | refine ⟨_, _, rfl, .inl ⟨_, SqL.of (by assumption), rfl⟩, ?_⟩ | refine ⟨_, _, rfl, .inr ⟨_, SqT.of (by assumption), rfl⟩, ?_⟩))
                  refine fun z dz nz ndz nez => ?_
                  have s1 := made_at (C := A.C_Hires) nz ndz nez
                  refine ⟨z, dz, r, o, ps.reverse, kvs3, _, _, rfl, upd_same, s1 _ _ hr0, by rw [List.length_reverse]; omega, fun y hy => by have := (wd_nm (hD.nm y (List.mem_reverse.mp hy))).1; omega, s1 _ _ (s0 _ _ go), (gR.same s0).same s1, hg2.nk, by have := hg2.lr; omega, hg2.mid, fun z hz => (by rw [hg2.made] at hz; cases hz), fun _ z hz => (by rw [hg2.jo] at hz; cases hz), fun _ _ Hf fr hO2 => ?_⟩
                  have s2 := s0.trans (made_fr nz ndz nez fr)
                  rw [sortS_of_perm (List.reverse_perm ps), hg.told_mk (List.reverse_perm ps) (List.reverse_perm ps) (fun n _ => List.reverse_perm _)] at hO2
                  refine ⟨rfl, ?_⟩
                  obtain ⟨dx, fs, hX⟩ := hO.obj
                  obtain ⟨dy, gs, hZ⟩ := hO2.obj
                  refine ⟨x, z, dx, dy, _, _, rfl, rfl, s2 _ _ hX, hZ, x, z, _, _, _, _, _, _, rfl, hO.same s2, hO2, hg.sok, hg.sok, hg.txt, hg.txt, fun b hb => ⟨b, rfl, ?_⟩⟩
                  rw [decide_eq_true rfl, eqH_self hg.told_nk] at hb
                  cases hb
                  (repeat (first | refine ⟨_, rfl, ?_⟩ | refine ⟨rfl, ?_⟩ | refine ⟨_, _, rfl, rfl, ?_⟩ | refine iteT ?_ | refine iteF ?_ | refine ⟨(by show (0 : Int) < _; omega), ?_⟩ | refine ⟨(⟨by omega, by omega⟩ : CDiv _ _), ?_⟩ | refine ⟨(⟨by decide, by decide, by decide⟩ : CPow _ _), ?_⟩ | refine ⟨(.inl ⟨by omega, by omega⟩ : CMul _ _), ?_⟩ | refine ⟨(.inr ⟨by omega, by omega⟩ : CMul _ _), ?_⟩ | refine Or.inl ⟨_, rfl, ?_⟩ | refine Or.inr ⟨_, rfl, ?_⟩ | refine ⟨_, _, _, _, true, rfl, .ty _, .base (.str _), kit_ty (by decide +kernel), ?_⟩ | refine ⟨_, _, rfl, ⟨by rw [sizeLine_eq]; omega, rfl⟩, ?_⟩ | refine ⟨_, _, rfl, .inl ⟨_, SqL.of (by assumption), rfl⟩, ?_⟩ | refine ⟨_, _, rfl, .inr ⟨_, SqT.of (by assumption), rfl⟩, ?_⟩))
                  exact k _ s2
                · rintro Hm sM
                  replace h := h.same sM
                  replace go := sM _ _ go
                  replace gR := gR.same sM
                  have sJ := sG.trans sM
                  clear sG hO
                  refine seq_join (fun G => Same Hj G) (fun O k => ?_) ?_
                  · skip
                    (repeat (first | refine ⟨_, rfl, ?_⟩ | refine ⟨rfl, ?_⟩ | refine ⟨_, _, rfl, rfl, ?_⟩ | refine iteT ?_ | refine iteF ?_ | refine ⟨(by show (0 : Int) < _; omega), ?_⟩ | refine ⟨(⟨by omega, by omega⟩ : CDiv _ _), ?_⟩ | refine ⟨(⟨by decide, by decide, by decide⟩ : CPow _ _), ?_⟩ | refine ⟨(.inl ⟨by omega, by omega⟩ : CMul _ _), ?_⟩ | refine ⟨(.inr ⟨by omega, by omega⟩ : CMul _ _), ?_⟩ | refine Or.inl ⟨_, rfl, ?_⟩ | refine Or.inr ⟨_, rfl, ?_⟩ | refine ⟨_, _, _, _, true, rfl, .ty _, .base (.str _), kit_ty (by decide +kernel), ?_⟩ | refine ⟨_, _, rfl, ⟨by rw [sizeLine_eq]; omega, rfl⟩, ?_⟩ | refine ⟨_, _, rfl, .inl ⟨_, SqL.of (by assumption), rfl⟩, ?_⟩ | refine ⟨_, _, rfl, .inr ⟨_, SqT.of (by assumption), rfl⟩, ?_⟩))
                    refine ⟨Nat.zero_le _, fun y0 ny0 => ?_⟩
                    have s1 := Same.new (o := .lst []) ny0
                    have h1 := h.same s1
                    have sJ1 := sJ.trans s1
                    refine ⟨_, _, dp_strs h1.ha, dp_strs (ps := []) upd_same, shaped_strs (fun x hx => (h.sz.sp x hx).ok), shaped_strs (fun _ h => by cases h), ?_⟩
                    rw [eqv_strs]
                    have go1 := s1 _ _ go
                    have gR1 := gR.same s1
                    generalize upd Hm y0 (.lst []) = Hn at *
                    by_cases hne : ps = []
                    · rw [decide_eq_true hne]
                      (repeat (first | refine ⟨_, rfl, ?_⟩ | refine ⟨rfl, ?_⟩ | refine ⟨_, _, rfl, rfl, ?_⟩ | refine iteT ?_ | refine iteF ?_ | refine ⟨(by show (0 : Int) < _; omega), ?_⟩ | refine ⟨(⟨by omega, by omega⟩ : CDiv _ _), ?_⟩ | refine ⟨(⟨by decide, by decide, by decide⟩ : CPow _ _), ?_⟩ | refine ⟨(.inl ⟨by omega, by omega⟩ : CMul _ _), ?_⟩ | refine ⟨(.inr ⟨by omega, by omega⟩ : CMul _ _), ?_⟩ | refine Or.inl ⟨_, rfl, ?_⟩ | refine Or.inr ⟨_, rfl, ?_⟩ | refine ⟨_, _, _, _, true, rfl, .ty _, .base (.str _), kit_ty (by decide +kernel), ?_⟩ | refine ⟨_, _, rfl, ⟨by rw [sizeLine_eq]; omega, rfl⟩, ?_⟩ | refine ⟨_, _, rfl, .inl ⟨_, SqL.of (by assumption), rfl⟩, ?_⟩ | refine ⟨_, _, rfl, .inr ⟨_, SqT.of (by assumption), rfl⟩, ?_⟩))
                      exact k _ sJ1
                    · rw [decide_eq_false hne]
                      obtain ⟨y, pr, eps⟩ := List.exists_cons_of_ne_nil hne
                      have at0 : atI (ps.map V.str) 0 = some (V.str y) := by
                        rw [eps]
                        exact atI_nat (j := 0) rfl
                      have ym : y ∈ ps := by
                        rw [eps]
                        exact List.mem_cons_self ..
                      obtain ⟨ws, lk, ew, lw, ndw, nmw⟩ := hg.look ym
                      obtain ⟨l, gl, hl⟩ := h1.at lk
                      (repeat (first | refine ⟨_, rfl, ?_⟩ | refine ⟨rfl, ?_⟩ | refine ⟨_, _, rfl, rfl, ?_⟩ | refine iteT ?_ | refine iteF ?_ | refine ⟨(by show (0 : Int) < _; omega), ?_⟩ | refine ⟨(⟨by omega, by omega⟩ : CDiv _ _), ?_⟩ | refine ⟨(⟨by decide, by decide, by decide⟩ : CPow _ _), ?_⟩ | refine ⟨(.inl ⟨by omega, by omega⟩ : CMul _ _), ?_⟩ | refine ⟨(.inr ⟨by omega, by omega⟩ : CMul _ _), ?_⟩ | refine Or.inl ⟨_, rfl, ?_⟩ | refine Or.inr ⟨_, rfl, ?_⟩ | refine ⟨_, _, _, _, true, rfl, .ty _, .base (.str _), kit_ty (by decide +kernel), ?_⟩ | refine ⟨_, _, rfl, ⟨by rw [sizeLine_eq]; omega, rfl⟩, ?_⟩ | refine ⟨_, _, rfl, .inl ⟨_, SqL.of (by assumption), rfl⟩, ?_⟩ | refine ⟨_, _, rfl, .inr ⟨_, SqT.of (by assumption), rfl⟩, ?_⟩))
                      refine ⟨a, _, 0, _, rfl, rfl, SqL.of h1.ha, at0, ?_⟩
                      refine ⟨d, .ref l, rfl, gl, ?_⟩
                      refine ⟨_, _, rfl, .inl ⟨_, SqL.of hl, rfl⟩, ?_⟩
                      (repeat (first | refine ⟨_, rfl, ?_⟩ | refine ⟨rfl, ?_⟩ | refine ⟨_, _, rfl, rfl, ?_⟩ | refine iteT ?_ | refine iteF ?_ | refine ⟨(by show (0 : Int) < _; omega), ?_⟩ | refine ⟨(⟨by omega, by omega⟩ : CDiv _ _), ?_⟩ | refine ⟨(⟨by decide, by decide, by decide⟩ : CPow _ _), ?_⟩ | refine ⟨(.inl ⟨by omega, by omega⟩ : CMul _ _), ?_⟩ | refine ⟨(.inr ⟨by omega, by omega⟩ : CMul _ _), ?_⟩ | refine Or.inl ⟨_, rfl, ?_⟩ | refine Or.inr ⟨_, rfl, ?_⟩ | refine ⟨_, _, _, _, true, rfl, .ty _, .base (.str _), kit_ty (by decide +kernel), ?_⟩ | refine ⟨_, _, rfl, ⟨by rw [sizeLine_eq]; omega, rfl⟩, ?_⟩ | refine ⟨_, _, rfl, .inl ⟨_, SqL.of (by assumption), rfl⟩, ?_⟩ | refine ⟨_, _, rfl, .inr ⟨_, SqT.of (by assumption), rfl⟩, ?_⟩))
                      refine ite2 (fun c0 => ?_) (fun c0 => ?_)
                      · rw [List.length_map] at c0
                        replace c0 := of_decide_eq_true c0
                        have g := gR1.get y
                        rw [mkR_look (List.mem_reverse.mpr ym)] at g
                        obtain ⟨m, g1, mo, g3⟩ := g
                        (repeat (first | refine ⟨_, rfl, ?_⟩ | refine ⟨rfl, ?_⟩ | refine ⟨_, _, rfl, rfl, ?_⟩ | refine iteT ?_ | refine iteF ?_ | refine ⟨(by show (0 : Int) < _; omega), ?_⟩ | refine ⟨(⟨by omega, by omega⟩ : CDiv _ _), ?_⟩ | refine ⟨(⟨by decide, by decide, by decide⟩ : CPow _ _), ?_⟩ | refine ⟨(.inl ⟨by omega, by omega⟩ : CMul _ _), ?_⟩ | refine ⟨(.inr ⟨by omega, by omega⟩ : CMul _ _), ?_⟩ | refine Or.inl ⟨_, rfl, ?_⟩ | refine Or.inr ⟨_, rfl, ?_⟩ | refine ⟨_, _, _, _, true, rfl, .ty _, .base (.str _), kit_ty (by decide +kernel), ?_⟩ | refine ⟨_, _, rfl, ⟨by rw [sizeLine_eq]; omega, rfl⟩, ?_⟩ | refine ⟨_, _, rfl, .inl ⟨_, SqL.of (by assumption), rfl⟩, ?_⟩ | refine ⟨_, _, rfl, .inr ⟨_, SqT.of (by assumption), rfl⟩, ?_⟩))
                        refine ⟨a, _, 0, _, rfl, rfl, SqL.of h1.ha, at0, ?_⟩
                        refine ⟨o, .ref m, rfl, .inl ⟨kvs3, .inr y, .inl go1, rfl, g1.symm⟩, ?_⟩
                        (repeat (first | refine ⟨_, rfl, ?_⟩ | refine ⟨rfl, ?_⟩ | refine ⟨_, _, rfl, rfl, ?_⟩ | refine iteT ?_ | refine iteF ?_ | refine ⟨(by show (0 : Int) < _; omega), ?_⟩ | refine ⟨(⟨by omega, by omega⟩ : CDiv _ _), ?_⟩ | refine ⟨(⟨by decide, by decide, by decide⟩ : CPow _ _), ?_⟩ | refine ⟨(.inl ⟨by omega, by omega⟩ : CMul _ _), ?_⟩ | refine ⟨(.inr ⟨by omega, by omega⟩ : CMul _ _), ?_⟩ | refine Or.inl ⟨_, rfl, ?_⟩ | refine Or.inr ⟨_, rfl, ?_⟩ | refine ⟨_, _, _, _, true, rfl, .ty _, .base (.str _), kit_ty (by decide +kernel), ?_⟩ | refine ⟨_, _, rfl, ⟨by rw [sizeLine_eq]; omega, rfl⟩, ?_⟩ | refine ⟨_, _, rfl, .inl ⟨_, SqL.of (by assumption), rfl⟩, ?_⟩ | refine ⟨_, _, rfl, .inr ⟨_, SqT.of (by assumption), rfl⟩, ?_⟩))
                        refine ⟨(by show 1 ≤ sizeLine; rw [sizeLine_eq]; omega), fun q nq => ?_⟩
                        have s2 := Same.new (o := .lst [V.str "zzzzzzzz"]) nq
                        refine ⟨m, q, _, _, rfl, rfl, s2 _ _ g3, upd_same, (by rw [List.length_map, List.length_reverse, ew, sizeLine_eq]; simp only [List.length_cons, List.length_nil]; omega), fun c nc => ?_⟩
                        have s3 := Same.put (o := .lst (((rowG rows y).reverse).map V.str ++ [V.str "zzzzzzzz"])) s2 (s2.free nc)
                        have ec : upd (upd Hn q (.lst [V.str "zzzzzzzz"])) c (.lst (((rowG rows y).reverse).map V.str ++ [V.str "zzzzzzzz"])) c = some (.lst (((rowG rows y).reverse ++ [("zzzzzzzz" : Str)]).map V.str)) := by
                          rw [upd_same, List.map_append]
                          rfl
                        have co : c ≠ o := (ne_of_none (s2 _ _ go1) nc).symm
                        generalize upd (upd Hn q (.lst [V.str "zzzzzzzz"])) c (.lst (((rowG rows y).reverse).map V.str ++ [V.str "zzzzzzzz"])) = Gc at *
                        (repeat (first | refine ⟨_, rfl, ?_⟩ | refine ⟨rfl, ?_⟩ | refine ⟨_, _, rfl, rfl, ?_⟩ | refine iteT ?_ | refine iteF ?_ | refine ⟨(by show (0 : Int) < _; omega), ?_⟩ | refine ⟨(⟨by omega, by omega⟩ : CDiv _ _), ?_⟩ | refine ⟨(⟨by decide, by decide, by decide⟩ : CPow _ _), ?_⟩ | refine ⟨(.inl ⟨by omega, by omega⟩ : CMul _ _), ?_⟩ | refine ⟨(.inr ⟨by omega, by omega⟩ : CMul _ _), ?_⟩ | refine Or.inl ⟨_, rfl, ?_⟩ | refine Or.inr ⟨_, rfl, ?_⟩ | refine ⟨_, _, _, _, true, rfl, .ty _, .base (.str _), kit_ty (by decide +kernel), ?_⟩ | refine ⟨_, _, rfl, ⟨by rw [sizeLine_eq]; omega, rfl⟩, ?_⟩ | refine ⟨_, _, rfl, .inl ⟨_, SqL.of (by assumption), rfl⟩, ?_⟩ | refine ⟨_, _, rfl, .inr ⟨_, SqT.of (by assumption), rfl⟩, ?_⟩))
                        refine ⟨a, _, 0, _, rfl, rfl, SqL.of (h1.same s3).ha, at0, ?_⟩
                        refine ⟨o, _, rfl, .inl ⟨kvs3, .inr y, s3 _ _ go1, rfl, small1000 (by rw [gR1.length]; have := hg2.lr; omega), rfl⟩, ?_⟩
                        have sd : Same Hj (upd Gc o (.dK (putK kvs3 (.inr y) (.ref c)))) := Same.put (sJ1.trans s3) no
                        have gRc := (gR1.same s3).put (n := y) (ws := (rowG rows y).reverse ++ [("zzzzzzzz" : Str)]) (l := c) co ec
                        have gRd : RowsN (fun l => l ≠ o) (upd Gc o (.dK (putK kvs3 (.inr y) (.ref c)))) _ _ := gRc.mv fun l xs n e => ⟨n, (upd_ne n).trans e⟩
                        have god : upd Gc o (.dK (putK kvs3 (.inr y) (.ref c))) o = some (.dK (putK kvs3 (.inr y) (.ref c))) := upd_same
                        clear gRc
                        generalize upd Gc o (.dK (putK kvs3 (.inr y) (.ref c))) = Gd at *
                        clear s3 ec gR1 go1 s2 nq nc h1
                        have hd := hj.same sd
                        have hOd := hOj.same sd
                        obtain ⟨l', gl', hl'⟩ := hd.at lk
                        (repeat (first | refine ⟨_, rfl, ?_⟩ | refine ⟨rfl, ?_⟩ | refine ⟨_, _, rfl, rfl, ?_⟩ | refine iteT ?_ | refine iteF ?_ | refine ⟨(by show (0 : Int) < _; omega), ?_⟩ | refine ⟨(⟨by omega, by omega⟩ : CDiv _ _), ?_⟩ | refine ⟨(⟨by decide, by decide, by decide⟩ : CPow _ _), ?_⟩ | refine ⟨(.inl ⟨by omega, by omega⟩ : CMul _ _), ?_⟩ | refine ⟨(.inr ⟨by omega, by omega⟩ : CMul _ _), ?_⟩ | refine Or.inl ⟨_, rfl, ?_⟩ | refine Or.inr ⟨_, rfl, ?_⟩ | refine ⟨_, _, _, _, true, rfl, .ty _, .base (.str _), kit_ty (by decide +kernel), ?_⟩ | refine ⟨_, _, rfl, ⟨by rw [sizeLine_eq]; omega, rfl⟩, ?_⟩ | refine ⟨_, _, rfl, .inl ⟨_, SqL.of (by assumption), rfl⟩, ?_⟩ | refine ⟨_, _, rfl, .inr ⟨_, SqT.of (by assumption), rfl⟩, ?_⟩))
                        refine ⟨a, _, 0, _, rfl, rfl, SqL.of hd.ha, at0, ?_⟩
                        refine ⟨d, .ref l', rfl, gl', ?_⟩
                        refine ⟨l', _, rfl, .inl (SqL.of hl'), rfl, flat_strs _, ?_⟩
                        rw [if_pos rfl, inV_strs]
                        by_cases zin : ("zzzzzzzz" : Str) ∈ ws
                        · rw [decide_eq_true zin]
                          (repeat (first | refine ⟨_, rfl, ?_⟩ | refine ⟨rfl, ?_⟩ | refine ⟨_, _, rfl, rfl, ?_⟩ | refine iteT ?_ | refine iteF ?_ | refine ⟨(by show (0 : Int) < _; omega), ?_⟩ | refine ⟨(⟨by omega, by omega⟩ : CDiv _ _), ?_⟩ | refine ⟨(⟨by decide, by decide, by decide⟩ : CPow _ _), ?_⟩ | refine ⟨(.inl ⟨by omega, by omega⟩ : CMul _ _), ?_⟩ | refine ⟨(.inr ⟨by omega, by omega⟩ : CMul _ _), ?_⟩ | refine Or.inl ⟨_, rfl, ?_⟩ | refine Or.inr ⟨_, rfl, ?_⟩ | refine ⟨_, _, _, _, true, rfl, .ty _, .base (.str _), kit_ty (by decide +kernel), ?_⟩ | refine ⟨_, _, rfl, ⟨by rw [sizeLine_eq]; omega, rfl⟩, ?_⟩ | refine ⟨_, _, rfl, .inl ⟨_, SqL.of (by assumption), rfl⟩, ?_⟩ | refine ⟨_, _, rfl, .inr ⟨_, SqT.of (by assumption), rfl⟩, ?_⟩))
                          exact k _ sd
                        · rw [decide_eq_false zin]
                          (repeat (first | refine ⟨_, rfl, ?_⟩ | refine ⟨rfl, ?_⟩ | refine ⟨_, _, rfl, rfl, ?_⟩ | refine iteT ?_ | refine iteF ?_ | refine ⟨(by show (0 : Int) < _; omega), ?_⟩ | refine ⟨(⟨by omega, by omega⟩ : CDiv _ _), ?_⟩ | refine ⟨(⟨by decide, by decide, by decide⟩ : CPow _ _), ?_⟩ | refine ⟨(.inl ⟨by omega, by omega⟩ : CMul _ _), ?_⟩ | refine ⟨(.inr ⟨by omega, by omega⟩ : CMul _ _), ?_⟩ | refine Or.inl ⟨_, rfl, ?_⟩ | refine Or.inr ⟨_, rfl, ?_⟩ | refine ⟨_, _, _, _, true, rfl, .ty _, .base (.str _), kit_ty (by decide +kernel), ?_⟩ | refine ⟨_, _, rfl, ⟨by rw [sizeLine_eq]; omega, rfl⟩, ?_⟩ | refine ⟨_, _, rfl, .inl ⟨_, SqL.of (by assumption), rfl⟩, ?_⟩ | refine ⟨_, _, rfl, .inr ⟨_, SqT.of (by assumption), rfl⟩, ?_⟩))
                          refine ⟨a, _, rfl, .inl (SqL.of hd.ha), fun r nr => ?_⟩
                          have s0 := Same.new (o := .lst (ps.map V.str)) nr
                          have hr0 : upd Gd r (.lst (ps.map V.str)) r = _ := upd_same
                          generalize upd Gd r (.lst (ps.map V.str)) = Ge at *
                          (repeat (first | refine ⟨_, rfl, ?_⟩ | refine ⟨rfl, ?_⟩ | refine ⟨_, _, rfl, rfl, ?_⟩ | refine iteT ?_ | refine iteF ?_ | refine ⟨(by show (0 : Int) < _; omega), ?_⟩ | refine ⟨(⟨by omega, by omega⟩ : CDiv _ _), ?_⟩ | refine ⟨(⟨by decide, by decide, by decide⟩ : CPow _ _), ?_⟩ | refine ⟨(.inl ⟨by omega, by omega⟩ : CMul _ _), ?_⟩ | refine ⟨(.inr ⟨by omega, by omega⟩ : CMul _ _), ?_⟩ | refine Or.inl ⟨_, rfl, ?_⟩ | refine Or.inr ⟨_, rfl, ?_⟩ | refine ⟨_, _, _, _, true, rfl, .ty _, .base (.str _), kit_ty (by decide +kernel), ?_⟩ | refine ⟨_, _, rfl, ⟨by rw [sizeLine_eq]; omega, rfl⟩, ?_⟩ | refine ⟨_, _, rfl, .inl ⟨_, SqL.of (by assumption), rfl⟩, ?_⟩ | refine ⟨_, _, rfl, .inr ⟨_, SqT.of (by assumption), rfl⟩, ?_⟩))
                          refine fun z dz nz ndz nez => ?_
                          have s1 := made_at (C := A.C_Hires) nz ndz nez
                          have nmz : isNm ("zzzzzzzz" : Str) = true := by decide +kernel
                          have hg3 : Good ps (putR (mkR (fun n => (rowG rows n).reverse) ps.reverse) y ((rowG rows y).reverse ++ [("zzzzzzzz" : Str)])) := by
                            refine (hg.mk' (List.Perm.refl _) (List.reverse_perm ps) (fun n _ => List.reverse_perm _)).put ym (by rw [List.length_append, List.length_reverse, ew]; simp only [List.length_cons, List.length_nil]; omega) ?_ ?_
                            · rw [ew]
                              refine List.nodup_append.mpr ⟨(List.reverse_perm ws).nodup_iff.mpr ndw, by simp, fun u hu v hv e => zin ?_⟩
                              rw [List.mem_singleton.mp hv] at e
                              rw [← e]
                              exact List.mem_reverse.mp hu
                            · intro u hu
                              rcases List.mem_append.mp hu with hu | hu
                              · rw [ew] at hu
                                exact nmw u (List.mem_reverse.mp hu)
                              · rw [List.mem_singleton.mp hu]
                                exact nmz
                          refine ⟨z, dz, r, o, ps, _, _, _, rfl, upd_same, s1 _ _ hr0, by omega, fun y hy => by have := (wd_nm (hD.nm y hy)).1; omega, s1 _ _ (s0 _ _ god), (gRd.same s0).same s1, hg3.nk, by have := hg3.lr; omega, hg3.mid, fun z hz => (by rw [hg3.made] at hz; cases hz), fun _ z hz => (by rw [hg3.jo] at hz; cases hz), fun _ _ Hf fr hO2 => ?_⟩
                          have s2 := s0.trans (made_fr nz ndz nez fr)
                          refine ⟨rfl, ?_⟩
                          obtain ⟨dx, fs, hX⟩ := hOd.obj
                          obtain ⟨dy, gs, hZ⟩ := hO2.obj
                          refine ⟨x, z, dx, dy, _, _, rfl, rfl, s2 _ _ hX, hZ, x, z, _, _, _, _, _, _, rfl, hOd.same s2, hO2, hg.sok, hg.sok, hg.txt, hg3.txt, fun b hb => ⟨b, rfl, ?_⟩⟩
                          rw [told_diff ym (by rw [List.length_append, List.length_reverse]; simp), Bool.and_false] at hb
                          cases hb
                          (repeat (first | refine ⟨_, rfl, ?_⟩ | refine ⟨rfl, ?_⟩ | refine ⟨_, _, rfl, rfl, ?_⟩ | refine iteT ?_ | refine iteF ?_ | refine ⟨(by show (0 : Int) < _; omega), ?_⟩ | refine ⟨(⟨by omega, by omega⟩ : CDiv _ _), ?_⟩ | refine ⟨(⟨by decide, by decide, by decide⟩ : CPow _ _), ?_⟩ | refine ⟨(.inl ⟨by omega, by omega⟩ : CMul _ _), ?_⟩ | refine ⟨(.inr ⟨by omega, by omega⟩ : CMul _ _), ?_⟩ | refine Or.inl ⟨_, rfl, ?_⟩ | refine Or.inr ⟨_, rfl, ?_⟩ | refine ⟨_, _, _, _, true, rfl, .ty _, .base (.str _), kit_ty (by decide +kernel), ?_⟩ | refine ⟨_, _, rfl, ⟨by rw [sizeLine_eq]; omega, rfl⟩, ?_⟩ | refine ⟨_, _, rfl, .inl ⟨_, SqL.of (by assumption), rfl⟩, ?_⟩ | refine ⟨_, _, rfl, .inr ⟨_, SqT.of (by assumption), rfl⟩, ?_⟩))
                          exact k _ (sd.trans s2)
                      · (repeat (first | refine ⟨_, rfl, ?_⟩ | refine ⟨rfl, ?_⟩ | refine ⟨_, _, rfl, rfl, ?_⟩ | refine iteT ?_ | refine iteF ?_ | refine ⟨(by show (0 : Int) < _; omega), ?_⟩ | refine ⟨(⟨by omega, by omega⟩ : CDiv _ _), ?_⟩ | refine ⟨(⟨by decide, by decide, by decide⟩ : CPow _ _), ?_⟩ | refine ⟨(.inl ⟨by omega, by omega⟩ : CMul _ _), ?_⟩ | refine ⟨(.inr ⟨by omega, by omega⟩ : CMul _ _), ?_⟩ | refine Or.inl ⟨_, rfl, ?_⟩ | refine Or.inr ⟨_, rfl, ?_⟩ | refine ⟨_, _, _, _, true, rfl, .ty _, .base (.str _), kit_ty (by decide +kernel), ?_⟩ | refine ⟨_, _, rfl, ⟨by rw [sizeLine_eq]; omega, rfl⟩, ?_⟩ | refine ⟨_, _, rfl, .inl ⟨_, SqL.of (by assumption), rfl⟩, ?_⟩ | refine ⟨_, _, rfl, .inr ⟨_, SqT.of (by assumption), rfl⟩, ?_⟩))
                        exact k _ sJ1
                  · rintro Ho sO
                    replace h := hj.same sO
                    clear hj hOj no
                    refine seq_joinS (fun _ _ => True) (fun O k => ?_) ?_
                    · skip
                      (repeat (first | refine ⟨_, rfl, ?_⟩ | refine ⟨rfl, ?_⟩ | refine ⟨_, _, rfl, rfl, ?_⟩ | refine iteT ?_ | refine iteF ?_ | refine ⟨(by show (0 : Int) < _; omega), ?_⟩ | refine ⟨(⟨by omega, by omega⟩ : CDiv _ _), ?_⟩ | refine ⟨(⟨by decide, by decide, by decide⟩ : CPow _ _), ?_⟩ | refine ⟨(.inl ⟨by omega, by omega⟩ : CMul _ _), ?_⟩ | refine ⟨(.inr ⟨by omega, by omega⟩ : CMul _ _), ?_⟩ | refine Or.inl ⟨_, rfl, ?_⟩ | refine Or.inr ⟨_, rfl, ?_⟩ | refine ⟨_, _, _, _, true, rfl, .ty _, .base (.str _), kit_ty (by decide +kernel), ?_⟩ | refine ⟨_, _, rfl, ⟨by rw [sizeLine_eq]; omega, rfl⟩, ?_⟩ | refine ⟨_, _, rfl, .inl ⟨_, SqL.of (by assumption), rfl⟩, ?_⟩ | refine ⟨_, _, rfl, .inr ⟨_, SqT.of (by assumption), rfl⟩, ?_⟩))
                      refine ⟨by omega, by omega, for_it walk_range (fun i σ G => ∃ (v11 v12 : Option V) (a : Addr) (qs : List Str) (us : List Rw), σ = [some (.ref sc), some (.ref wl), some (.ref a), some (.ref d), some (.ref h4), v5, some (.ref x), v7, v8, v9, some (.ref o), v11, v12, none] ∧ St K G sc wl a d ns qs us i) ⟨_, _, a, ps, rows, rfl, h⟩ (fun _ _ _ _ _ => True.intro) ?_ ?_⟩
                      · clear h
                        rintro i v σ Hx G hi ⟨v11, v12, a, qs, us, rfl, h⟩ ⟨rfl, rfl⟩
                        have hi1 : i ≤ 1 := by
                          have : i < 2 := hi
                          omega
                        refine g_name ?_
                        try dsimp only
                        refine seq_asg ?_
                        (repeat (first | refine ⟨_, rfl, ?_⟩ | refine ⟨rfl, ?_⟩ | refine ⟨_, _, rfl, rfl, ?_⟩ | refine iteT ?_ | refine iteF ?_ | refine ⟨(by show (0 : Int) < _; omega), ?_⟩ | refine ⟨(⟨by omega, by omega⟩ : CDiv _ _), ?_⟩ | refine ⟨(⟨by decide, by decide, by decide⟩ : CPow _ _), ?_⟩ | refine ⟨(.inl ⟨by omega, by omega⟩ : CMul _ _), ?_⟩ | refine ⟨(.inr ⟨by omega, by omega⟩ : CMul _ _), ?_⟩ | refine Or.inl ⟨_, rfl, ?_⟩ | refine Or.inr ⟨_, rfl, ?_⟩ | refine ⟨_, _, _, _, true, rfl, .ty _, .base (.str _), kit_ty (by decide +kernel), ?_⟩ | refine ⟨_, _, rfl, ⟨by rw [sizeLine_eq]; omega, rfl⟩, ?_⟩ | refine ⟨_, _, rfl, .inl ⟨_, SqL.of (by assumption), rfl⟩, ?_⟩ | refine ⟨_, _, rfl, .inr ⟨_, SqT.of (by assumption), rfl⟩, ?_⟩))
                        refine ⟨sc, wl, a, d, ns, i, qs, us, rfl, hn, hi1, h, fun t b qs us H1 ht h => ?_⟩
                        refine ⟨t, [.ref b, .ref d], rfl, SqT.of ht, rfl, ?_⟩
                        refine ⟨_, _, rfl, g_name ⟨_, _, rfl, g_name ⟨rfl, ?_⟩⟩⟩
                        clear ht
                        try dsimp only
                        refine seq_asg ?_
                        (repeat (first | refine ⟨_, rfl, ?_⟩ | refine ⟨rfl, ?_⟩ | refine ⟨_, _, rfl, rfl, ?_⟩ | refine iteT ?_ | refine iteF ?_ | refine ⟨(by show (0 : Int) < _; omega), ?_⟩ | refine ⟨(⟨by omega, by omega⟩ : CDiv _ _), ?_⟩ | refine ⟨(⟨by decide, by decide, by decide⟩ : CPow _ _), ?_⟩ | refine ⟨(.inl ⟨by omega, by omega⟩ : CMul _ _), ?_⟩ | refine ⟨(.inr ⟨by omega, by omega⟩ : CMul _ _), ?_⟩ | refine Or.inl ⟨_, rfl, ?_⟩ | refine Or.inr ⟨_, rfl, ?_⟩ | refine ⟨_, _, _, _, true, rfl, .ty _, .base (.str _), kit_ty (by decide +kernel), ?_⟩ | refine ⟨_, _, rfl, ⟨by rw [sizeLine_eq]; omega, rfl⟩, ?_⟩ | refine ⟨_, _, rfl, .inl ⟨_, SqL.of (by assumption), rfl⟩, ?_⟩ | refine ⟨_, _, rfl, .inr ⟨_, SqT.of (by assumption), rfl⟩, ?_⟩))
                        refine ⟨(by show 2 ≤ sizeLine; rw [sizeLine_eq]; omega), fun p np => ?_⟩
                        have sp := Same.new (o := .tup [.ref b, .ref d]) np
                        have both := h.sz.both (by omega)
                        have e1 : upd H1 p (.tup [.ref b, .ref d]) p = _ := upd_same
                        replace h := h.same sp
                        generalize upd H1 p (.tup [.ref b, .ref d]) = G1 at *
                        obtain ⟨kvs, hd, R⟩ := h.ex
                        refine ⟨p, b, d, qs, kvs, us, rfl, e1, h.ha, hd, R.ok, both, ?_⟩
                        clear hd R e1 sp np
                        refine g_name ?_
                        try dsimp only
                        (repeat (first | refine ⟨_, rfl, ?_⟩ | refine ⟨rfl, ?_⟩ | refine ⟨_, _, rfl, rfl, ?_⟩ | refine iteT ?_ | refine iteF ?_ | refine ⟨(by show (0 : Int) < _; omega), ?_⟩ | refine ⟨(⟨by omega, by omega⟩ : CDiv _ _), ?_⟩ | refine ⟨(⟨by decide, by decide, by decide⟩ : CPow _ _), ?_⟩ | refine ⟨(.inl ⟨by omega, by omega⟩ : CMul _ _), ?_⟩ | refine ⟨(.inr ⟨by omega, by omega⟩ : CMul _ _), ?_⟩ | refine Or.inl ⟨_, rfl, ?_⟩ | refine Or.inr ⟨_, rfl, ?_⟩ | refine ⟨_, _, _, _, true, rfl, .ty _, .base (.str _), kit_ty (by decide +kernel), ?_⟩ | refine ⟨_, _, rfl, ⟨by rw [sizeLine_eq]; omega, rfl⟩, ?_⟩ | refine ⟨_, _, rfl, .inl ⟨_, SqL.of (by assumption), rfl⟩, ?_⟩ | refine ⟨_, _, rfl, .inr ⟨_, SqT.of (by assumption), rfl⟩, ?_⟩))
                        refine ⟨b, d, qs, us, rfl, h.given (by omega), fun p1 G2 np1 s2 hp1 => ?_⟩
                        replace h := h.same s2
                        (repeat (first | refine ⟨_, rfl, ?_⟩ | refine ⟨rfl, ?_⟩ | refine ⟨_, _, rfl, rfl, ?_⟩ | refine iteT ?_ | refine iteF ?_ | refine ⟨(by show (0 : Int) < _; omega), ?_⟩ | refine ⟨(⟨by omega, by omega⟩ : CDiv _ _), ?_⟩ | refine ⟨(⟨by decide, by decide, by decide⟩ : CPow _ _), ?_⟩ | refine ⟨(.inl ⟨by omega, by omega⟩ : CMul _ _), ?_⟩ | refine ⟨(.inr ⟨by omega, by omega⟩ : CMul _ _), ?_⟩ | refine Or.inl ⟨_, rfl, ?_⟩ | refine Or.inr ⟨_, rfl, ?_⟩ | refine ⟨_, _, _, _, true, rfl, .ty _, .base (.str _), kit_ty (by decide +kernel), ?_⟩ | refine ⟨_, _, rfl, ⟨by rw [sizeLine_eq]; omega, rfl⟩, ?_⟩ | refine ⟨_, _, rfl, .inl ⟨_, SqL.of (by assumption), rfl⟩, ?_⟩ | refine ⟨_, _, rfl, .inr ⟨_, SqT.of (by assumption), rfl⟩, ?_⟩))
                        refine ⟨b, d, qs, us, rfl, h.given (by omega), fun p2 G3 np2 s3 hp2 => ?_⟩
                        replace h := h.same s3
                        refine ⟨_, _, _, rfl, .tup (s3 _ _ hp1) hp2 (due_sc _).1 (due_sc _).1 (due_sc _).2 (due_sc _).2, fun G4 s4 => ?_⟩
                        replace h := h.same s4
                        clear hp1 hp2 s2 s3 s4 np1 np2
                        rw [decide_eq_true rfl]
                        (repeat (first | refine ⟨_, rfl, ?_⟩ | refine ⟨rfl, ?_⟩ | refine ⟨_, _, rfl, rfl, ?_⟩ | refine iteT ?_ | refine iteF ?_ | refine ⟨(by show (0 : Int) < _; omega), ?_⟩ | refine ⟨(⟨by omega, by omega⟩ : CDiv _ _), ?_⟩ | refine ⟨(⟨by decide, by decide, by decide⟩ : CPow _ _), ?_⟩ | refine ⟨(.inl ⟨by omega, by omega⟩ : CMul _ _), ?_⟩ | refine ⟨(.inr ⟨by omega, by omega⟩ : CMul _ _), ?_⟩ | refine Or.inl ⟨_, rfl, ?_⟩ | refine Or.inr ⟨_, rfl, ?_⟩ | refine ⟨_, _, _, _, true, rfl, .ty _, .base (.str _), kit_ty (by decide +kernel), ?_⟩ | refine ⟨_, _, rfl, ⟨by rw [sizeLine_eq]; omega, rfl⟩, ?_⟩ | refine ⟨_, _, rfl, .inl ⟨_, SqL.of (by assumption), rfl⟩, ?_⟩ | refine ⟨_, _, rfl, .inr ⟨_, SqT.of (by assumption), rfl⟩, ?_⟩))
                        refine ⟨(by show 2 ≤ sizeLine; rw [sizeLine_eq]; omega), fun p np => ?_⟩
                        have sp := Same.new (o := .tup [.ref b, .ref d]) np
                        have e1 : upd G4 p (.tup [.ref b, .ref d]) p = _ := upd_same
                        replace h := h.same sp
                        generalize upd G4 p (.tup [.ref b, .ref d]) = G5 at *
                        obtain ⟨kvs, hd, R⟩ := h.ex
                        refine ⟨p, b, d, qs, kvs, us, rfl, e1, h.ha, hd, R.ok, both, ?_⟩
                        (repeat (first | refine ⟨_, rfl, ?_⟩ | refine ⟨rfl, ?_⟩ | refine ⟨_, _, rfl, rfl, ?_⟩ | refine iteT ?_ | refine iteF ?_ | refine ⟨(by show (0 : Int) < _; omega), ?_⟩ | refine ⟨(⟨by omega, by omega⟩ : CDiv _ _), ?_⟩ | refine ⟨(⟨by decide, by decide, by decide⟩ : CPow _ _), ?_⟩ | refine ⟨(.inl ⟨by omega, by omega⟩ : CMul _ _), ?_⟩ | refine ⟨(.inr ⟨by omega, by omega⟩ : CMul _ _), ?_⟩ | refine Or.inl ⟨_, rfl, ?_⟩ | refine Or.inr ⟨_, rfl, ?_⟩ | refine ⟨_, _, _, _, true, rfl, .ty _, .base (.str _), kit_ty (by decide +kernel), ?_⟩ | refine ⟨_, _, rfl, ⟨by rw [sizeLine_eq]; omega, rfl⟩, ?_⟩ | refine ⟨_, _, rfl, .inl ⟨_, SqL.of (by assumption), rfl⟩, ?_⟩ | refine ⟨_, _, rfl, .inr ⟨_, SqT.of (by assumption), rfl⟩, ?_⟩))
                        rw [decide_eq_true rfl]
                        (repeat (first | refine ⟨_, rfl, ?_⟩ | refine ⟨rfl, ?_⟩ | refine ⟨_, _, rfl, rfl, ?_⟩ | refine iteT ?_ | refine iteF ?_ | refine ⟨(by show (0 : Int) < _; omega), ?_⟩ | refine ⟨(⟨by omega, by omega⟩ : CDiv _ _), ?_⟩ | refine ⟨(⟨by decide, by decide, by decide⟩ : CPow _ _), ?_⟩ | refine ⟨(.inl ⟨by omega, by omega⟩ : CMul _ _), ?_⟩ | refine ⟨(.inr ⟨by omega, by omega⟩ : CMul _ _), ?_⟩ | refine Or.inl ⟨_, rfl, ?_⟩ | refine Or.inr ⟨_, rfl, ?_⟩ | refine ⟨_, _, _, _, true, rfl, .ty _, .base (.str _), kit_ty (by decide +kernel), ?_⟩ | refine ⟨_, _, rfl, ⟨by rw [sizeLine_eq]; omega, rfl⟩, ?_⟩ | refine ⟨_, _, rfl, .inl ⟨_, SqL.of (by assumption), rfl⟩, ?_⟩ | refine ⟨_, _, rfl, .inr ⟨_, SqT.of (by assumption), rfl⟩, ?_⟩))
                        exact ⟨_, _, b, qs, us, rfl, h⟩
                      · rintro σ G _
                        exact k _ _ trivial
                    · intro σ G _
                      rfl
end
end BF25
set_option Elab.async false
set_option linter.all false
set_option maxRecDepth 100000
set_option maxHeartbeats 4000000
namespace BF25
open BF
open PySem PySem.Spec PyProof.Rows L2
open C8 (Cal CalAt Met Mak cal0 met0 mak0 fn0 pe_c pe_mk pe_mt pe_mt0 pe_gc fnScope fnBody fnArgs fnScope_by)
theorem all_mk {K : PySem.W.Frag} {h : Heap} {mg : Str → Option Value} {C_LotError C_BadThings C_NoThing C_BadJobs C_Hires f_BadThings__init f_NoThing__init f_BadJobs__init f_is_name f_first_wrong f_sorted_things f_Hires__init f_Hires_people f_Hires_jobs_of f_Hires__eq f_checked_jobs f_law_take f_law_like f_law_shuffled f_law_names f_law_some f_law_people f_law_made_so f_law_nobody f_law_is_name f_law_first_wrong f_law_due f_law_spoiled f_law : Addr} (X : K.In h) (G : h.Ns mainGlobals mg)
    {od_BadThings__init an_BadThings__init od_NoThing__init an_NoThing__init od_BadJobs__init an_BadJobs__init od_is_name an_is_name od_first_wrong an_first_wrong od_sorted_things an_sorted_things od_Hires__init an_Hires__init od_Hires_people an_Hires_people od_Hires_jobs_of an_Hires_jobs_of od_Hires__eq an_Hires__eq od_checked_jobs an_checked_jobs od_law_take an_law_take od_law_like an_law_like od_law_shuffled an_law_shuffled od_law_names an_law_names od_law_some an_law_some od_law_people an_law_people od_law_made_so an_law_made_so od_law_nobody an_law_nobody od_law_is_name an_law_is_name od_law_first_wrong an_law_first_wrong od_law_due an_law_due od_law_spoiled an_law_spoiled od_law an_law : Option Addr} {sl_BadThings__init sl_NoThing__init sl_BadJobs__init sl_is_name sl_first_wrong sl_sorted_things sl_Hires__init sl_Hires_people sl_Hires_jobs_of sl_Hires__eq sl_checked_jobs sl_law_take sl_law_like sl_law_shuffled sl_law_names sl_law_some sl_law_people sl_law_made_so sl_law_nobody sl_law_is_name sl_law_first_wrong sl_law_due sl_law_spoiled sl_law : Array (Option Value)} {oc_BadThings__init kV_BadThings__init dc_BadThings__init pm_BadThings__init cd_BadThings__init ct_BadThings__init oc_NoThing__init kV_NoThing__init dc_NoThing__init pm_NoThing__init cd_NoThing__init ct_NoThing__init oc_BadJobs__init kV_BadJobs__init dc_BadJobs__init pm_BadJobs__init cd_BadJobs__init ct_BadJobs__init oc_is_name kV_is_name dc_is_name pm_is_name cd_is_name ct_is_name oc_first_wrong kV_first_wrong dc_first_wrong pm_first_wrong cd_first_wrong ct_first_wrong oc_sorted_things kV_sorted_things dc_sorted_things pm_sorted_things cd_sorted_things ct_sorted_things oc_Hires__init kV_Hires__init dc_Hires__init pm_Hires__init cd_Hires__init ct_Hires__init oc_Hires_people kV_Hires_people dc_Hires_people pm_Hires_people cd_Hires_people ct_Hires_people oc_Hires_jobs_of kV_Hires_jobs_of dc_Hires_jobs_of pm_Hires_jobs_of cd_Hires_jobs_of ct_Hires_jobs_of oc_Hires__eq kV_Hires__eq dc_Hires__eq pm_Hires__eq cd_Hires__eq ct_Hires__eq oc_checked_jobs kV_checked_jobs dc_checked_jobs pm_checked_jobs cd_checked_jobs ct_checked_jobs oc_law_take kV_law_take dc_law_take pm_law_take cd_law_take ct_law_take oc_law_like kV_law_like dc_law_like pm_law_like cd_law_like ct_law_like oc_law_shuffled kV_law_shuffled dc_law_shuffled pm_law_shuffled cd_law_shuffled ct_law_shuffled oc_law_names kV_law_names dc_law_names pm_law_names cd_law_names ct_law_names oc_law_some kV_law_some dc_law_some pm_law_some cd_law_some ct_law_some oc_law_people kV_law_people dc_law_people pm_law_people cd_law_people ct_law_people oc_law_made_so kV_law_made_so dc_law_made_so pm_law_made_so cd_law_made_so ct_law_made_so oc_law_nobody kV_law_nobody dc_law_nobody pm_law_nobody cd_law_nobody ct_law_nobody oc_law_is_name kV_law_is_name dc_law_is_name pm_law_is_name cd_law_is_name ct_law_is_name oc_law_first_wrong kV_law_first_wrong dc_law_first_wrong pm_law_first_wrong cd_law_first_wrong ct_law_first_wrong oc_law_due kV_law_due dc_law_due pm_law_due cd_law_due ct_law_due oc_law_spoiled kV_law_spoiled dc_law_spoiled pm_law_spoiled cd_law_spoiled ct_law_spoiled oc_law kV_law dc_law pm_law cd_law ct_law : Value} {tk_LONGEST_NAME tk_MOST_PEOPLE tk_MOST_JOBS : Tok}
    {hd2_Hires : Bool} {ni_Hires : String}
    {nm_BadThings qn_BadThings : Str} {NS_BadThings : Addr} {bs_BadThings : List Value} {sn_BadThings : List Str} {sub_BadThings : List Value} {ab_BadThings : Bool} {col_BadThings : Option Bool} {dd_BadThings : Option Addr} {k0_BadThings k1_BadThings k2_BadThings k3_BadThings k5_BadThings : Option Value}
    {nm_NoThing qn_NoThing : Str} {NS_NoThing : Addr} {bs_NoThing : List Value} {sn_NoThing : List Str} {sub_NoThing : List Value} {ab_NoThing : Bool} {col_NoThing : Option Bool} {dd_NoThing : Option Addr} {k0_NoThing k1_NoThing k2_NoThing k3_NoThing k5_NoThing : Option Value}
    {nm_BadJobs qn_BadJobs : Str} {NS_BadJobs : Addr} {bs_BadJobs : List Value} {sn_BadJobs : List Str} {sub_BadJobs : List Value} {ab_BadJobs : Bool} {col_BadJobs : Option Bool} {dd_BadJobs : Option Addr} {k0_BadJobs k1_BadJobs k2_BadJobs k3_BadJobs k5_BadJobs : Option Value}
    {nm_Hires qn_Hires : Str} {NS_Hires : Addr} {bs_Hires : List Value} {sn_Hires : List Str} {sub_Hires : List Value} {ab_Hires : Bool} {col_Hires : Option Bool} {dd_Hires : Option Addr} {k0_Hires k1_Hires k2_Hires k3_Hires k5_Hires : Option Value}
    (hgC_LotError : PySem.W.nsIn K mainGlobals "LotError" = some (some (.ref C_LotError)))
    (hgC_BadThings : PySem.W.nsIn K mainGlobals "BadThings" = some (some (.ref C_BadThings)))
    (hgC_NoThing : PySem.W.nsIn K mainGlobals "NoThing" = some (some (.ref C_NoThing)))
    (hgC_BadJobs : PySem.W.nsIn K mainGlobals "BadJobs" = some (some (.ref C_BadJobs)))
    (hgC_Hires : PySem.W.nsIn K mainGlobals "Hires" = some (some (.ref C_Hires)))
    (ha_BadThings__init : PySem.W.findIn K (.ref C_BadThings) "__init__" = some (some (.ref f_BadThings__init)))
    (hi_BadThings__init : PySem.W.isFn K (.ref f_BadThings__init) = true)
    (hl_BadThings__init : K.lookup f_BadThings__init = some ⟨oc_BadThings__init, od_BadThings__init, .func (PySem.W.fnOf "__init__" "BadThings.__init__" (fnArgs s_BadThings__init) (fnBody s_BadThings__init) (fnScope s_BadThings__init) .none kV_BadThings__init dc_BadThings__init pm_BadThings__init an_BadThings__init cd_BadThings__init ct_BadThings__init), sl_BadThings__init⟩)
    (hc_BadThings__init : PySem.W.codeIn K cd_BadThings__init "BadThings.__init__" = true)
    (hk_BadThings__init : PySem.W.keepIn K (.ref f_BadThings__init) = true)
    (ha_NoThing__init : PySem.W.findIn K (.ref C_NoThing) "__init__" = some (some (.ref f_NoThing__init)))
    (hi_NoThing__init : PySem.W.isFn K (.ref f_NoThing__init) = true)
    (hl_NoThing__init : K.lookup f_NoThing__init = some ⟨oc_NoThing__init, od_NoThing__init, .func (PySem.W.fnOf "__init__" "NoThing.__init__" (fnArgs s_NoThing__init) (fnBody s_NoThing__init) (fnScope s_NoThing__init) .none kV_NoThing__init dc_NoThing__init pm_NoThing__init an_NoThing__init cd_NoThing__init ct_NoThing__init), sl_NoThing__init⟩)
    (hc_NoThing__init : PySem.W.codeIn K cd_NoThing__init "NoThing.__init__" = true)
    (hk_NoThing__init : PySem.W.keepIn K (.ref f_NoThing__init) = true)
    (ha_BadJobs__init : PySem.W.findIn K (.ref C_BadJobs) "__init__" = some (some (.ref f_BadJobs__init)))
    (hi_BadJobs__init : PySem.W.isFn K (.ref f_BadJobs__init) = true)
    (hl_BadJobs__init : K.lookup f_BadJobs__init = some ⟨oc_BadJobs__init, od_BadJobs__init, .func (PySem.W.fnOf "__init__" "BadJobs.__init__" (fnArgs s_BadJobs__init) (fnBody s_BadJobs__init) (fnScope s_BadJobs__init) .none kV_BadJobs__init dc_BadJobs__init pm_BadJobs__init an_BadJobs__init cd_BadJobs__init ct_BadJobs__init), sl_BadJobs__init⟩)
    (hc_BadJobs__init : PySem.W.codeIn K cd_BadJobs__init "BadJobs.__init__" = true)
    (hk_BadJobs__init : PySem.W.keepIn K (.ref f_BadJobs__init) = true)
    (ha_is_name : PySem.W.nsIn K mainGlobals "is_name" = some (some (.ref f_is_name)))
    (hl_is_name : K.lookup f_is_name = some ⟨oc_is_name, od_is_name, .func (PySem.W.fnOf "is_name" "is_name" (fnArgs s_is_name) (fnBody s_is_name) (fnScope s_is_name) .none kV_is_name dc_is_name pm_is_name an_is_name cd_is_name ct_is_name), sl_is_name⟩)
    (hc_is_name : PySem.W.codeIn K cd_is_name "is_name" = true)
    (hk_is_name : PySem.W.keepIn K (.ref f_is_name) = true)
    (ha_first_wrong : PySem.W.nsIn K mainGlobals "first_wrong" = some (some (.ref f_first_wrong)))
    (hl_first_wrong : K.lookup f_first_wrong = some ⟨oc_first_wrong, od_first_wrong, .func (PySem.W.fnOf "first_wrong" "first_wrong" (fnArgs s_first_wrong) (fnBody s_first_wrong) (fnScope s_first_wrong) .none kV_first_wrong dc_first_wrong pm_first_wrong an_first_wrong cd_first_wrong ct_first_wrong), sl_first_wrong⟩)
    (hc_first_wrong : PySem.W.codeIn K cd_first_wrong "first_wrong" = true)
    (hk_first_wrong : PySem.W.keepIn K (.ref f_first_wrong) = true)
    (ha_sorted_things : PySem.W.nsIn K mainGlobals "sorted_things" = some (some (.ref f_sorted_things)))
    (hl_sorted_things : K.lookup f_sorted_things = some ⟨oc_sorted_things, od_sorted_things, .func (PySem.W.fnOf "sorted_things" "sorted_things" (fnArgs s_sorted_things) (fnBody s_sorted_things) (fnScope s_sorted_things) .none kV_sorted_things dc_sorted_things pm_sorted_things an_sorted_things cd_sorted_things ct_sorted_things), sl_sorted_things⟩)
    (hc_sorted_things : PySem.W.codeIn K cd_sorted_things "sorted_things" = true)
    (hk_sorted_things : PySem.W.keepIn K (.ref f_sorted_things) = true)
    (ha_Hires__init : PySem.W.findIn K (.ref C_Hires) "__init__" = some (some (.ref f_Hires__init)))
    (hi_Hires__init : PySem.W.isFn K (.ref f_Hires__init) = true)
    (hl_Hires__init : K.lookup f_Hires__init = some ⟨oc_Hires__init, od_Hires__init, .func (PySem.W.fnOf "__init__" "Hires.__init__" (fnArgs s_Hires__init) (fnBody s_Hires__init) (fnScope s_Hires__init) .none kV_Hires__init dc_Hires__init pm_Hires__init an_Hires__init cd_Hires__init ct_Hires__init), sl_Hires__init⟩)
    (hc_Hires__init : PySem.W.codeIn K cd_Hires__init "Hires.__init__" = true)
    (hk_Hires__init : PySem.W.keepIn K (.ref f_Hires__init) = true)
    (ha_Hires_people : PySem.W.findIn K (.ref C_Hires) "people" = some (some (.ref f_Hires_people)))
    (hi_Hires_people : PySem.W.isFn K (.ref f_Hires_people) = true)
    (hl_Hires_people : K.lookup f_Hires_people = some ⟨oc_Hires_people, od_Hires_people, .func (PySem.W.fnOf "people" "Hires.people" (fnArgs s_Hires_people) (fnBody s_Hires_people) (fnScope s_Hires_people) .none kV_Hires_people dc_Hires_people pm_Hires_people an_Hires_people cd_Hires_people ct_Hires_people), sl_Hires_people⟩)
    (hc_Hires_people : PySem.W.codeIn K cd_Hires_people "Hires.people" = true)
    (hk_Hires_people : PySem.W.keepIn K (.ref f_Hires_people) = true)
    (ha_Hires_jobs_of : PySem.W.findIn K (.ref C_Hires) "jobs_of" = some (some (.ref f_Hires_jobs_of)))
    (hi_Hires_jobs_of : PySem.W.isFn K (.ref f_Hires_jobs_of) = true)
    (hl_Hires_jobs_of : K.lookup f_Hires_jobs_of = some ⟨oc_Hires_jobs_of, od_Hires_jobs_of, .func (PySem.W.fnOf "jobs_of" "Hires.jobs_of" (fnArgs s_Hires_jobs_of) (fnBody s_Hires_jobs_of) (fnScope s_Hires_jobs_of) .none kV_Hires_jobs_of dc_Hires_jobs_of pm_Hires_jobs_of an_Hires_jobs_of cd_Hires_jobs_of ct_Hires_jobs_of), sl_Hires_jobs_of⟩)
    (hc_Hires_jobs_of : PySem.W.codeIn K cd_Hires_jobs_of "Hires.jobs_of" = true)
    (hk_Hires_jobs_of : PySem.W.keepIn K (.ref f_Hires_jobs_of) = true)
    (ha_Hires__eq : PySem.W.findIn K (.ref C_Hires) "__eq__" = some (some (.ref f_Hires__eq)))
    (hi_Hires__eq : PySem.W.isFn K (.ref f_Hires__eq) = true)
    (hl_Hires__eq : K.lookup f_Hires__eq = some ⟨oc_Hires__eq, od_Hires__eq, .func (PySem.W.fnOf "__eq__" "Hires.__eq__" (fnArgs s_Hires__eq) (fnBody s_Hires__eq) (fnScope s_Hires__eq) .none kV_Hires__eq dc_Hires__eq pm_Hires__eq an_Hires__eq cd_Hires__eq ct_Hires__eq), sl_Hires__eq⟩)
    (hc_Hires__eq : PySem.W.codeIn K cd_Hires__eq "Hires.__eq__" = true)
    (hk_Hires__eq : PySem.W.keepIn K (.ref f_Hires__eq) = true)
    (ha_checked_jobs : PySem.W.nsIn K mainGlobals "_checked_jobs" = some (some (.ref f_checked_jobs)))
    (hl_checked_jobs : K.lookup f_checked_jobs = some ⟨oc_checked_jobs, od_checked_jobs, .func (PySem.W.fnOf "_checked_jobs" "_checked_jobs" (fnArgs s_checked_jobs) (fnBody s_checked_jobs) (fnScope s_checked_jobs) .none kV_checked_jobs dc_checked_jobs pm_checked_jobs an_checked_jobs cd_checked_jobs ct_checked_jobs), sl_checked_jobs⟩)
    (hc_checked_jobs : PySem.W.codeIn K cd_checked_jobs "_checked_jobs" = true)
    (hk_checked_jobs : PySem.W.keepIn K (.ref f_checked_jobs) = true)
    (ha_law_take : PySem.W.nsIn K mainGlobals "_law_take" = some (some (.ref f_law_take)))
    (hl_law_take : K.lookup f_law_take = some ⟨oc_law_take, od_law_take, .func (PySem.W.fnOf "_law_take" "_law_take" (fnArgs s_law_take) (fnBody s_law_take) (fnScope s_law_take) .none kV_law_take dc_law_take pm_law_take an_law_take cd_law_take ct_law_take), sl_law_take⟩)
    (hc_law_take : PySem.W.codeIn K cd_law_take "_law_take" = true)
    (hk_law_take : PySem.W.keepIn K (.ref f_law_take) = true)
    (ha_law_like : PySem.W.nsIn K mainGlobals "_law_like" = some (some (.ref f_law_like)))
    (hl_law_like : K.lookup f_law_like = some ⟨oc_law_like, od_law_like, .func (PySem.W.fnOf "_law_like" "_law_like" (fnArgs s_law_like) (fnBody s_law_like) (fnScope s_law_like) .none kV_law_like dc_law_like pm_law_like an_law_like cd_law_like ct_law_like), sl_law_like⟩)
    (hc_law_like : PySem.W.codeIn K cd_law_like "_law_like" = true)
    (hk_law_like : PySem.W.keepIn K (.ref f_law_like) = true)
    (ha_law_shuffled : PySem.W.nsIn K mainGlobals "_law_shuffled" = some (some (.ref f_law_shuffled)))
    (hl_law_shuffled : K.lookup f_law_shuffled = some ⟨oc_law_shuffled, od_law_shuffled, .func (PySem.W.fnOf "_law_shuffled" "_law_shuffled" (fnArgs s_law_shuffled) (fnBody s_law_shuffled) (fnScope s_law_shuffled) .none kV_law_shuffled dc_law_shuffled pm_law_shuffled an_law_shuffled cd_law_shuffled ct_law_shuffled), sl_law_shuffled⟩)
    (hc_law_shuffled : PySem.W.codeIn K cd_law_shuffled "_law_shuffled" = true)
    (hk_law_shuffled : PySem.W.keepIn K (.ref f_law_shuffled) = true)
    (ha_law_names : PySem.W.nsIn K mainGlobals "_law_names" = some (some (.ref f_law_names)))
    (hl_law_names : K.lookup f_law_names = some ⟨oc_law_names, od_law_names, .func (PySem.W.fnOf "_law_names" "_law_names" (fnArgs s_law_names) (fnBody s_law_names) (fnScope s_law_names) .none kV_law_names dc_law_names pm_law_names an_law_names cd_law_names ct_law_names), sl_law_names⟩)
    (hc_law_names : PySem.W.codeIn K cd_law_names "_law_names" = true)
    (hk_law_names : PySem.W.keepIn K (.ref f_law_names) = true)
    (ha_law_some : PySem.W.nsIn K mainGlobals "_law_some" = some (some (.ref f_law_some)))
    (hl_law_some : K.lookup f_law_some = some ⟨oc_law_some, od_law_some, .func (PySem.W.fnOf "_law_some" "_law_some" (fnArgs s_law_some) (fnBody s_law_some) (fnScope s_law_some) .none kV_law_some dc_law_some pm_law_some an_law_some cd_law_some ct_law_some), sl_law_some⟩)
    (hc_law_some : PySem.W.codeIn K cd_law_some "_law_some" = true)
    (hk_law_some : PySem.W.keepIn K (.ref f_law_some) = true)
    (ha_law_people : PySem.W.nsIn K mainGlobals "_law_people" = some (some (.ref f_law_people)))
    (hl_law_people : K.lookup f_law_people = some ⟨oc_law_people, od_law_people, .func (PySem.W.fnOf "_law_people" "_law_people" (fnArgs s_law_people) (fnBody s_law_people) (fnScope s_law_people) .none kV_law_people dc_law_people pm_law_people an_law_people cd_law_people ct_law_people), sl_law_people⟩)
    (hc_law_people : PySem.W.codeIn K cd_law_people "_law_people" = true)
    (hk_law_people : PySem.W.keepIn K (.ref f_law_people) = true)
    (ha_law_made_so : PySem.W.nsIn K mainGlobals "_law_made_so" = some (some (.ref f_law_made_so)))
    (hl_law_made_so : K.lookup f_law_made_so = some ⟨oc_law_made_so, od_law_made_so, .func (PySem.W.fnOf "_law_made_so" "_law_made_so" (fnArgs s_law_made_so) (fnBody s_law_made_so) (fnScope s_law_made_so) .none kV_law_made_so dc_law_made_so pm_law_made_so an_law_made_so cd_law_made_so ct_law_made_so), sl_law_made_so⟩)
    (hc_law_made_so : PySem.W.codeIn K cd_law_made_so "_law_made_so" = true)
    (hk_law_made_so : PySem.W.keepIn K (.ref f_law_made_so) = true)
    (ha_law_nobody : PySem.W.nsIn K mainGlobals "_law_nobody" = some (some (.ref f_law_nobody)))
    (hl_law_nobody : K.lookup f_law_nobody = some ⟨oc_law_nobody, od_law_nobody, .func (PySem.W.fnOf "_law_nobody" "_law_nobody" (fnArgs s_law_nobody) (fnBody s_law_nobody) (fnScope s_law_nobody) .none kV_law_nobody dc_law_nobody pm_law_nobody an_law_nobody cd_law_nobody ct_law_nobody), sl_law_nobody⟩)
    (hc_law_nobody : PySem.W.codeIn K cd_law_nobody "_law_nobody" = true)
    (hk_law_nobody : PySem.W.keepIn K (.ref f_law_nobody) = true)
    (ha_law_is_name : PySem.W.nsIn K mainGlobals "_law_is_name" = some (some (.ref f_law_is_name)))
    (hl_law_is_name : K.lookup f_law_is_name = some ⟨oc_law_is_name, od_law_is_name, .func (PySem.W.fnOf "_law_is_name" "_law_is_name" (fnArgs s_law_is_name) (fnBody s_law_is_name) (fnScope s_law_is_name) .none kV_law_is_name dc_law_is_name pm_law_is_name an_law_is_name cd_law_is_name ct_law_is_name), sl_law_is_name⟩)
    (hc_law_is_name : PySem.W.codeIn K cd_law_is_name "_law_is_name" = true)
    (hk_law_is_name : PySem.W.keepIn K (.ref f_law_is_name) = true)
    (ha_law_first_wrong : PySem.W.nsIn K mainGlobals "_law_first_wrong" = some (some (.ref f_law_first_wrong)))
    (hl_law_first_wrong : K.lookup f_law_first_wrong = some ⟨oc_law_first_wrong, od_law_first_wrong, .func (PySem.W.fnOf "_law_first_wrong" "_law_first_wrong" (fnArgs s_law_first_wrong) (fnBody s_law_first_wrong) (fnScope s_law_first_wrong) .none kV_law_first_wrong dc_law_first_wrong pm_law_first_wrong an_law_first_wrong cd_law_first_wrong ct_law_first_wrong), sl_law_first_wrong⟩)
    (hc_law_first_wrong : PySem.W.codeIn K cd_law_first_wrong "_law_first_wrong" = true)
    (hk_law_first_wrong : PySem.W.keepIn K (.ref f_law_first_wrong) = true)
    (ha_law_due : PySem.W.nsIn K mainGlobals "_law_due" = some (some (.ref f_law_due)))
    (hl_law_due : K.lookup f_law_due = some ⟨oc_law_due, od_law_due, .func (PySem.W.fnOf "_law_due" "_law_due" (fnArgs s_law_due) (fnBody s_law_due) (fnScope s_law_due) .none kV_law_due dc_law_due pm_law_due an_law_due cd_law_due ct_law_due), sl_law_due⟩)
    (hc_law_due : PySem.W.codeIn K cd_law_due "_law_due" = true)
    (hk_law_due : PySem.W.keepIn K (.ref f_law_due) = true)
    (ha_law_spoiled : PySem.W.nsIn K mainGlobals "_law_spoiled" = some (some (.ref f_law_spoiled)))
    (hl_law_spoiled : K.lookup f_law_spoiled = some ⟨oc_law_spoiled, od_law_spoiled, .func (PySem.W.fnOf "_law_spoiled" "_law_spoiled" (fnArgs s_law_spoiled) (fnBody s_law_spoiled) (fnScope s_law_spoiled) .none kV_law_spoiled dc_law_spoiled pm_law_spoiled an_law_spoiled cd_law_spoiled ct_law_spoiled), sl_law_spoiled⟩)
    (hc_law_spoiled : PySem.W.codeIn K cd_law_spoiled "_law_spoiled" = true)
    (hk_law_spoiled : PySem.W.keepIn K (.ref f_law_spoiled) = true)
    (ha_law : PySem.W.nsIn K mainGlobals "law" = some (some (.ref f_law)))
    (hl_law : K.lookup f_law = some ⟨oc_law, od_law, .func (PySem.W.fnOf "law" "law" (fnArgs s_law) (fnBody s_law) (fnScope s_law) .none kV_law dc_law pm_law an_law cd_law ct_law), sl_law⟩)
    (hc_law : PySem.W.codeIn K cd_law "law" = true)
    (hk_law : PySem.W.keepIn K (.ref f_law) = true)
    (pg_Hires : PySem.W.plainGet K C_Hires Str.empty = true)
    (hd_Hires : PySem.W.hasDictIn K C_Hires = true)
    (po_Hires : PySem.W.plainOver K C_Hires = true)
    (sa_Hires : PySem.W.findIn K (.ref C_Hires) "__setattr__" = some (some (.builtin "object.__setattr__")))
    (mk_Hires : PySem.W.makesIn K C_Hires = true)
    (kc_Hires : PySem.W.keepIn K (.ref C_Hires) = true)
    (na_Hires__people : PySem.W.findIn K (.ref C_Hires) "_people" = some none)
    (na_Hires__jobs : PySem.W.findIn K (.ref C_Hires) "_jobs" = some none)
    (wc_Hires : PySem.W.findIn K (.ref C_Hires) "__class__" = some (some (.builtin "object.__class__")))
    (wg_Hires : PySem.W.specialIn K (.builtin "object.__class__") "__get__" = some (some (.builtin "getset_descriptor.__get__")))
    (wt_Hires : PySem.W.takesIn K (.builtin "object.__class__") = some true)
    (wm_Hires : PySem.W.mroIn K C_Hires (.type "object") = some true)
    (xo_Hires : K.lookup C_Hires = some (excClassObj nm_Hires qn_Hires C_Hires NS_Hires bs_Hires [.type "object"] hd2_Hires sn_Hires sub_Hires ab_Hires col_Hires dd_Hires k0_Hires k1_Hires k2_Hires k3_Hires k5_Hires ni_Hires))
    (xe_Hires : PySem.W.findIn K (.ref C_Hires) "__ne__" = some (some (.builtin "object.__ne__")))
    (xL_BadThings : K.lookup C_BadThings = some (excClassObj nm_BadThings qn_BadThings C_BadThings NS_BadThings bs_BadThings [.ref C_LotError, .type "ValueError", .type "Exception", .type "BaseException", .type "object"] true sn_BadThings sub_BadThings ab_BadThings col_BadThings dd_BadThings k0_BadThings k1_BadThings k2_BadThings k3_BadThings k5_BadThings "ValueError.__new__"))
    (xs_BadThings : PySem.W.findIn K (.ref C_BadThings) "__setattr__" = some (some (.builtin "object.__setattr__")))
    (xb_BadThings : PySem.W.subIn K (.ref C_BadThings) (.type "BaseException") = some true)
    (xt_BadThings : PySem.W.typeIn K (.ref C_BadThings) = some (.type "type"))
    (xk_BadThings : PySem.W.keepIn K (.ref C_BadThings) = true)
    (xg_BadThings : PySem.W.findIn K (.ref C_BadThings) "__getattribute__" = some (some (.builtin "BaseException.__getattribute__")))
    (xn_BadThings : PySem.W.findIn K (.ref C_BadThings) "__getattr__" = some none)
    (xd_BadThings : PySem.W.hasDictIn K C_BadThings = true)
    (nx_BadThings_index : PySem.W.findIn K (.ref C_BadThings) "index" = some none)
    (xL_NoThing : K.lookup C_NoThing = some (excClassObj nm_NoThing qn_NoThing C_NoThing NS_NoThing bs_NoThing [.ref C_LotError, .type "ValueError", .type "Exception", .type "BaseException", .type "object"] true sn_NoThing sub_NoThing ab_NoThing col_NoThing dd_NoThing k0_NoThing k1_NoThing k2_NoThing k3_NoThing k5_NoThing "ValueError.__new__"))
    (xs_NoThing : PySem.W.findIn K (.ref C_NoThing) "__setattr__" = some (some (.builtin "object.__setattr__")))
    (xb_NoThing : PySem.W.subIn K (.ref C_NoThing) (.type "BaseException") = some true)
    (xt_NoThing : PySem.W.typeIn K (.ref C_NoThing) = some (.type "type"))
    (xk_NoThing : PySem.W.keepIn K (.ref C_NoThing) = true)
    (xg_NoThing : PySem.W.findIn K (.ref C_NoThing) "__getattribute__" = some (some (.builtin "BaseException.__getattribute__")))
    (xn_NoThing : PySem.W.findIn K (.ref C_NoThing) "__getattr__" = some none)
    (xd_NoThing : PySem.W.hasDictIn K C_NoThing = true)
    (nx_NoThing_thing : PySem.W.findIn K (.ref C_NoThing) "thing" = some none)
    (xL_BadJobs : K.lookup C_BadJobs = some (excClassObj nm_BadJobs qn_BadJobs C_BadJobs NS_BadJobs bs_BadJobs [.ref C_LotError, .type "ValueError", .type "Exception", .type "BaseException", .type "object"] true sn_BadJobs sub_BadJobs ab_BadJobs col_BadJobs dd_BadJobs k0_BadJobs k1_BadJobs k2_BadJobs k3_BadJobs k5_BadJobs "ValueError.__new__"))
    (xs_BadJobs : PySem.W.findIn K (.ref C_BadJobs) "__setattr__" = some (some (.builtin "object.__setattr__")))
    (xb_BadJobs : PySem.W.subIn K (.ref C_BadJobs) (.type "BaseException") = some true)
    (xt_BadJobs : PySem.W.typeIn K (.ref C_BadJobs) = some (.type "type"))
    (xk_BadJobs : PySem.W.keepIn K (.ref C_BadJobs) = true)
    (xg_BadJobs : PySem.W.findIn K (.ref C_BadJobs) "__getattribute__" = some (some (.builtin "BaseException.__getattribute__")))
    (xn_BadJobs : PySem.W.findIn K (.ref C_BadJobs) "__getattr__" = some none)
    (xd_BadJobs : PySem.W.hasDictIn K C_BadJobs = true)
    (nx_BadJobs_person : PySem.W.findIn K (.ref C_BadJobs) "person" = some none)
    (ic_BadThings : PySem.W.isClsIn K C_BadThings = true)
    (yt_BadThings : PySem.W.typeIn K (.ref C_BadThings) = some (.type "type"))
    (sb_BadThings_BadThings : PySem.W.subIn K (.ref C_BadThings) (.ref C_BadThings) = some true)
    (ic_NoThing : PySem.W.isClsIn K C_NoThing = true)
    (yt_NoThing : PySem.W.typeIn K (.ref C_NoThing) = some (.type "type"))
    (sb_NoThing_NoThing : PySem.W.subIn K (.ref C_NoThing) (.ref C_NoThing) = some true)
    (ic_BadJobs : PySem.W.isClsIn K C_BadJobs = true)
    (yt_BadJobs : PySem.W.typeIn K (.ref C_BadJobs) = some (.type "type"))
    (sb_BadJobs_BadJobs : PySem.W.subIn K (.ref C_BadJobs) (.ref C_BadJobs) = some true)
    (ic_LotError : PySem.W.isClsIn K C_LotError = true)
    (yt_LotError : PySem.W.typeIn K (.ref C_LotError) = some (.type "type"))
    (xb_LotError : PySem.W.subIn K (.ref C_LotError) (.type "BaseException") = some true)
    (sb_BadThings_LotError : PySem.W.subIn K (.ref C_BadThings) (.ref C_LotError) = some true)
    (sb_BadJobs_LotError : PySem.W.subIn K (.ref C_BadJobs) (.ref C_LotError) = some true)
    (xc_BadThings : PySem.W.findIn K (.ref C_BadThings) "__class__" = some (some (.builtin "object.__class__")))
    (wgx : PySem.W.specialIn K (.builtin "object.__class__") "__get__" = some (some (.builtin "getset_descriptor.__get__")))
    (wtx : PySem.W.takesIn K (.builtin "object.__class__") = some true)
    (xr_BadThings : PySem.W.mroIn K C_BadThings (.type "object") = some true)
    (xc_BadJobs : PySem.W.findIn K (.ref C_BadJobs) "__class__" = some (some (.builtin "object.__class__")))
    (xr_BadJobs : PySem.W.mroIn K C_BadJobs (.type "object") = some true)
    (sb_BadJobs_BadThings : PySem.W.subIn K (.ref C_BadJobs) (.ref C_BadThings) = some false)
    (z_all : PySem.W.nsIn K mainGlobals "all" = some none)
    (z_bool : PySem.W.nsIn K mainGlobals "bool" = some none)
    (z_dict : PySem.W.nsIn K mainGlobals "dict" = some none)
    (z_enumerate : PySem.W.nsIn K mainGlobals "enumerate" = some none)
    (z_int : PySem.W.nsIn K mainGlobals "int" = some none)
    (z_isinstance : PySem.W.nsIn K mainGlobals "isinstance" = some none)
    (z_len : PySem.W.nsIn K mainGlobals "len" = some none)
    (z_list : PySem.W.nsIn K mainGlobals "list" = some none)
    (z_range : PySem.W.nsIn K mainGlobals "range" = some none)
    (z_repr : PySem.W.nsIn K mainGlobals "repr" = some none)
    (z_reversed : PySem.W.nsIn K mainGlobals "reversed" = some none)
    (z_set : PySem.W.nsIn K mainGlobals "set" = some none)
    (z_sorted : PySem.W.nsIn K mainGlobals "sorted" = some none)
    (z_str : PySem.W.nsIn K mainGlobals "str" = some none)
    (z_tuple : PySem.W.nsIn K mainGlobals "tuple" = some none)
    (g_LONGEST_NAME : PySem.W.nsIn K mainGlobals "LONGEST_NAME" = some (some (.int 8 tk_LONGEST_NAME)))
    (g_MOST_PEOPLE : PySem.W.nsIn K mainGlobals "MOST_PEOPLE" = some (some (.int 24 tk_MOST_PEOPLE)))
    (g_MOST_JOBS : PySem.W.nsIn K mainGlobals "MOST_JOBS" = some (some (.int 24 tk_MOST_JOBS)))
    : ∃ A : Ad, Txt K mg A ∧ (∀ (s : Shared) (u : Value), BindsTo s A.fd_law ⟨[u], []⟩ [("script", u)]) :=
  ⟨{ C_LotError := C_LotError, C_BadThings := C_BadThings, C_NoThing := C_NoThing, C_BadJobs := C_BadJobs, C_Hires := C_Hires, f_BadThings__init := f_BadThings__init, fd_BadThings__init := (PySem.W.fnOf "__init__" "BadThings.__init__" (fnArgs s_BadThings__init) (fnBody s_BadThings__init) (fnScope s_BadThings__init) .none kV_BadThings__init dc_BadThings__init pm_BadThings__init an_BadThings__init cd_BadThings__init ct_BadThings__init), f_NoThing__init := f_NoThing__init, fd_NoThing__init := (PySem.W.fnOf "__init__" "NoThing.__init__" (fnArgs s_NoThing__init) (fnBody s_NoThing__init) (fnScope s_NoThing__init) .none kV_NoThing__init dc_NoThing__init pm_NoThing__init an_NoThing__init cd_NoThing__init ct_NoThing__init), f_BadJobs__init := f_BadJobs__init, fd_BadJobs__init := (PySem.W.fnOf "__init__" "BadJobs.__init__" (fnArgs s_BadJobs__init) (fnBody s_BadJobs__init) (fnScope s_BadJobs__init) .none kV_BadJobs__init dc_BadJobs__init pm_BadJobs__init an_BadJobs__init cd_BadJobs__init ct_BadJobs__init), f_is_name := f_is_name, fd_is_name := (PySem.W.fnOf "is_name" "is_name" (fnArgs s_is_name) (fnBody s_is_name) (fnScope s_is_name) .none kV_is_name dc_is_name pm_is_name an_is_name cd_is_name ct_is_name), f_first_wrong := f_first_wrong, fd_first_wrong := (PySem.W.fnOf "first_wrong" "first_wrong" (fnArgs s_first_wrong) (fnBody s_first_wrong) (fnScope s_first_wrong) .none kV_first_wrong dc_first_wrong pm_first_wrong an_first_wrong cd_first_wrong ct_first_wrong), f_sorted_things := f_sorted_things, fd_sorted_things := (PySem.W.fnOf "sorted_things" "sorted_things" (fnArgs s_sorted_things) (fnBody s_sorted_things) (fnScope s_sorted_things) .none kV_sorted_things dc_sorted_things pm_sorted_things an_sorted_things cd_sorted_things ct_sorted_things), f_Hires__init := f_Hires__init, fd_Hires__init := (PySem.W.fnOf "__init__" "Hires.__init__" (fnArgs s_Hires__init) (fnBody s_Hires__init) (fnScope s_Hires__init) .none kV_Hires__init dc_Hires__init pm_Hires__init an_Hires__init cd_Hires__init ct_Hires__init), f_Hires_people := f_Hires_people, fd_Hires_people := (PySem.W.fnOf "people" "Hires.people" (fnArgs s_Hires_people) (fnBody s_Hires_people) (fnScope s_Hires_people) .none kV_Hires_people dc_Hires_people pm_Hires_people an_Hires_people cd_Hires_people ct_Hires_people), f_Hires_jobs_of := f_Hires_jobs_of, fd_Hires_jobs_of := (PySem.W.fnOf "jobs_of" "Hires.jobs_of" (fnArgs s_Hires_jobs_of) (fnBody s_Hires_jobs_of) (fnScope s_Hires_jobs_of) .none kV_Hires_jobs_of dc_Hires_jobs_of pm_Hires_jobs_of an_Hires_jobs_of cd_Hires_jobs_of ct_Hires_jobs_of), f_Hires__eq := f_Hires__eq, fd_Hires__eq := (PySem.W.fnOf "__eq__" "Hires.__eq__" (fnArgs s_Hires__eq) (fnBody s_Hires__eq) (fnScope s_Hires__eq) .none kV_Hires__eq dc_Hires__eq pm_Hires__eq an_Hires__eq cd_Hires__eq ct_Hires__eq), f_checked_jobs := f_checked_jobs, fd_checked_jobs := (PySem.W.fnOf "_checked_jobs" "_checked_jobs" (fnArgs s_checked_jobs) (fnBody s_checked_jobs) (fnScope s_checked_jobs) .none kV_checked_jobs dc_checked_jobs pm_checked_jobs an_checked_jobs cd_checked_jobs ct_checked_jobs), f_law_take := f_law_take, fd_law_take := (PySem.W.fnOf "_law_take" "_law_take" (fnArgs s_law_take) (fnBody s_law_take) (fnScope s_law_take) .none kV_law_take dc_law_take pm_law_take an_law_take cd_law_take ct_law_take), f_law_like := f_law_like, fd_law_like := (PySem.W.fnOf "_law_like" "_law_like" (fnArgs s_law_like) (fnBody s_law_like) (fnScope s_law_like) .none kV_law_like dc_law_like pm_law_like an_law_like cd_law_like ct_law_like), f_law_shuffled := f_law_shuffled, fd_law_shuffled := (PySem.W.fnOf "_law_shuffled" "_law_shuffled" (fnArgs s_law_shuffled) (fnBody s_law_shuffled) (fnScope s_law_shuffled) .none kV_law_shuffled dc_law_shuffled pm_law_shuffled an_law_shuffled cd_law_shuffled ct_law_shuffled), f_law_names := f_law_names, fd_law_names := (PySem.W.fnOf "_law_names" "_law_names" (fnArgs s_law_names) (fnBody s_law_names) (fnScope s_law_names) .none kV_law_names dc_law_names pm_law_names an_law_names cd_law_names ct_law_names), f_law_some := f_law_some, fd_law_some := (PySem.W.fnOf "_law_some" "_law_some" (fnArgs s_law_some) (fnBody s_law_some) (fnScope s_law_some) .none kV_law_some dc_law_some pm_law_some an_law_some cd_law_some ct_law_some), f_law_people := f_law_people, fd_law_people := (PySem.W.fnOf "_law_people" "_law_people" (fnArgs s_law_people) (fnBody s_law_people) (fnScope s_law_people) .none kV_law_people dc_law_people pm_law_people an_law_people cd_law_people ct_law_people), f_law_made_so := f_law_made_so, fd_law_made_so := (PySem.W.fnOf "_law_made_so" "_law_made_so" (fnArgs s_law_made_so) (fnBody s_law_made_so) (fnScope s_law_made_so) .none kV_law_made_so dc_law_made_so pm_law_made_so an_law_made_so cd_law_made_so ct_law_made_so), f_law_nobody := f_law_nobody, fd_law_nobody := (PySem.W.fnOf "_law_nobody" "_law_nobody" (fnArgs s_law_nobody) (fnBody s_law_nobody) (fnScope s_law_nobody) .none kV_law_nobody dc_law_nobody pm_law_nobody an_law_nobody cd_law_nobody ct_law_nobody), f_law_is_name := f_law_is_name, fd_law_is_name := (PySem.W.fnOf "_law_is_name" "_law_is_name" (fnArgs s_law_is_name) (fnBody s_law_is_name) (fnScope s_law_is_name) .none kV_law_is_name dc_law_is_name pm_law_is_name an_law_is_name cd_law_is_name ct_law_is_name), f_law_first_wrong := f_law_first_wrong, fd_law_first_wrong := (PySem.W.fnOf "_law_first_wrong" "_law_first_wrong" (fnArgs s_law_first_wrong) (fnBody s_law_first_wrong) (fnScope s_law_first_wrong) .none kV_law_first_wrong dc_law_first_wrong pm_law_first_wrong an_law_first_wrong cd_law_first_wrong ct_law_first_wrong), f_law_due := f_law_due, fd_law_due := (PySem.W.fnOf "_law_due" "_law_due" (fnArgs s_law_due) (fnBody s_law_due) (fnScope s_law_due) .none kV_law_due dc_law_due pm_law_due an_law_due cd_law_due ct_law_due), f_law_spoiled := f_law_spoiled, fd_law_spoiled := (PySem.W.fnOf "_law_spoiled" "_law_spoiled" (fnArgs s_law_spoiled) (fnBody s_law_spoiled) (fnScope s_law_spoiled) .none kV_law_spoiled dc_law_spoiled pm_law_spoiled an_law_spoiled cd_law_spoiled ct_law_spoiled), f_law := f_law, fd_law := (PySem.W.fnOf "law" "law" (fnArgs s_law) (fnBody s_law) (fnScope s_law) .none kV_law dc_law pm_law an_law cd_law ct_law) },
  { gC_LotError := PySem.W.mg_of X G hgC_LotError,
    gC_BadThings := PySem.W.mg_of X G hgC_BadThings,
    gC_NoThing := PySem.W.mg_of X G hgC_NoThing,
    gC_BadJobs := PySem.W.mg_of X G hgC_BadJobs,
    gC_Hires := PySem.W.mg_of X G hgC_Hires,
    u_BadThings__init := ⟨⟨oc_BadThings__init, od_BadThings__init, .none, kV_BadThings__init, dc_BadThings__init, pm_BadThings__init, an_BadThings__init, cd_BadThings__init, ct_BadThings__init, sl_BadThings__init, rfl, hl_BadThings__init, hc_BadThings__init⟩⟩,
    fi_BadThings__init := ha_BadThings__init,
    fn_BadThings__init := hi_BadThings__init,
    kp_BadThings__init := hk_BadThings__init,
    b_BadThings__init := C8.Fun.binds (st := s_BadThings__init) ⟨⟨oc_BadThings__init, od_BadThings__init, .none, kV_BadThings__init, dc_BadThings__init, pm_BadThings__init, an_BadThings__init, cd_BadThings__init, ct_BadThings__init, sl_BadThings__init, rfl, hl_BadThings__init, hc_BadThings__init⟩⟩ rfl (ps := ["self", "index"]) fun _ _ _ _ _ _ us hl => match us, hl with | [_, _], _ => rfl,
    u_NoThing__init := ⟨⟨oc_NoThing__init, od_NoThing__init, .none, kV_NoThing__init, dc_NoThing__init, pm_NoThing__init, an_NoThing__init, cd_NoThing__init, ct_NoThing__init, sl_NoThing__init, rfl, hl_NoThing__init, hc_NoThing__init⟩⟩,
    fi_NoThing__init := ha_NoThing__init,
    fn_NoThing__init := hi_NoThing__init,
    kp_NoThing__init := hk_NoThing__init,
    b_NoThing__init := C8.Fun.binds (st := s_NoThing__init) ⟨⟨oc_NoThing__init, od_NoThing__init, .none, kV_NoThing__init, dc_NoThing__init, pm_NoThing__init, an_NoThing__init, cd_NoThing__init, ct_NoThing__init, sl_NoThing__init, rfl, hl_NoThing__init, hc_NoThing__init⟩⟩ rfl (ps := ["self", "thing"]) fun _ _ _ _ _ _ us hl => match us, hl with | [_, _], _ => rfl,
    u_BadJobs__init := ⟨⟨oc_BadJobs__init, od_BadJobs__init, .none, kV_BadJobs__init, dc_BadJobs__init, pm_BadJobs__init, an_BadJobs__init, cd_BadJobs__init, ct_BadJobs__init, sl_BadJobs__init, rfl, hl_BadJobs__init, hc_BadJobs__init⟩⟩,
    fi_BadJobs__init := ha_BadJobs__init,
    fn_BadJobs__init := hi_BadJobs__init,
    kp_BadJobs__init := hk_BadJobs__init,
    b_BadJobs__init := C8.Fun.binds (st := s_BadJobs__init) ⟨⟨oc_BadJobs__init, od_BadJobs__init, .none, kV_BadJobs__init, dc_BadJobs__init, pm_BadJobs__init, an_BadJobs__init, cd_BadJobs__init, ct_BadJobs__init, sl_BadJobs__init, rfl, hl_BadJobs__init, hc_BadJobs__init⟩⟩ rfl (ps := ["self", "person"]) fun _ _ _ _ _ _ us hl => match us, hl with | [_, _], _ => rfl,
    d_is_name := ⟨⟨⟨oc_is_name, od_is_name, .none, kV_is_name, dc_is_name, pm_is_name, an_is_name, cd_is_name, ct_is_name, sl_is_name, rfl, hl_is_name, hc_is_name⟩⟩, PySem.W.mg_of X G ha_is_name, hk_is_name⟩,
    b_is_name := C8.Fun.binds (st := s_is_name) ⟨⟨oc_is_name, od_is_name, .none, kV_is_name, dc_is_name, pm_is_name, an_is_name, cd_is_name, ct_is_name, sl_is_name, rfl, hl_is_name, hc_is_name⟩⟩ rfl (ps := ["value"]) fun _ _ _ _ _ _ us hl => match us, hl with | [_], _ => rfl,
    d_first_wrong := ⟨⟨⟨oc_first_wrong, od_first_wrong, .none, kV_first_wrong, dc_first_wrong, pm_first_wrong, an_first_wrong, cd_first_wrong, ct_first_wrong, sl_first_wrong, rfl, hl_first_wrong, hc_first_wrong⟩⟩, PySem.W.mg_of X G ha_first_wrong, hk_first_wrong⟩,
    b_first_wrong := C8.Fun.binds (st := s_first_wrong) ⟨⟨oc_first_wrong, od_first_wrong, .none, kV_first_wrong, dc_first_wrong, pm_first_wrong, an_first_wrong, cd_first_wrong, ct_first_wrong, sl_first_wrong, rfl, hl_first_wrong, hc_first_wrong⟩⟩ rfl (ps := ["entries", "fits"]) fun _ _ _ _ _ _ us hl => match us, hl with | [_, _], _ => rfl,
    d_sorted_things := ⟨⟨⟨oc_sorted_things, od_sorted_things, .none, kV_sorted_things, dc_sorted_things, pm_sorted_things, an_sorted_things, cd_sorted_things, ct_sorted_things, sl_sorted_things, rfl, hl_sorted_things, hc_sorted_things⟩⟩, PySem.W.mg_of X G ha_sorted_things, hk_sorted_things⟩,
    b_sorted_things := C8.Fun.binds (st := s_sorted_things) ⟨⟨oc_sorted_things, od_sorted_things, .none, kV_sorted_things, dc_sorted_things, pm_sorted_things, an_sorted_things, cd_sorted_things, ct_sorted_things, sl_sorted_things, rfl, hl_sorted_things, hc_sorted_things⟩⟩ rfl (ps := ["things", "most"]) fun _ _ _ _ _ _ us hl => match us, hl with | [_, _], _ => rfl,
    u_Hires__init := ⟨⟨oc_Hires__init, od_Hires__init, .none, kV_Hires__init, dc_Hires__init, pm_Hires__init, an_Hires__init, cd_Hires__init, ct_Hires__init, sl_Hires__init, rfl, hl_Hires__init, hc_Hires__init⟩⟩,
    fi_Hires__init := ha_Hires__init,
    fn_Hires__init := hi_Hires__init,
    kp_Hires__init := hk_Hires__init,
    b_Hires__init := C8.Fun.binds (st := s_Hires__init) ⟨⟨oc_Hires__init, od_Hires__init, .none, kV_Hires__init, dc_Hires__init, pm_Hires__init, an_Hires__init, cd_Hires__init, ct_Hires__init, sl_Hires__init, rfl, hl_Hires__init, hc_Hires__init⟩⟩ rfl (ps := ["self", "people", "jobs"]) fun _ _ _ _ _ _ us hl => match us, hl with | [_, _, _], _ => rfl,
    u_Hires_people := ⟨⟨oc_Hires_people, od_Hires_people, .none, kV_Hires_people, dc_Hires_people, pm_Hires_people, an_Hires_people, cd_Hires_people, ct_Hires_people, sl_Hires_people, rfl, hl_Hires_people, hc_Hires_people⟩⟩,
    fi_Hires_people := ha_Hires_people,
    fn_Hires_people := hi_Hires_people,
    kp_Hires_people := hk_Hires_people,
    b_Hires_people := C8.Fun.binds (st := s_Hires_people) ⟨⟨oc_Hires_people, od_Hires_people, .none, kV_Hires_people, dc_Hires_people, pm_Hires_people, an_Hires_people, cd_Hires_people, ct_Hires_people, sl_Hires_people, rfl, hl_Hires_people, hc_Hires_people⟩⟩ rfl (ps := ["self"]) fun _ _ _ _ _ _ us hl => match us, hl with | [_], _ => rfl,
    u_Hires_jobs_of := ⟨⟨oc_Hires_jobs_of, od_Hires_jobs_of, .none, kV_Hires_jobs_of, dc_Hires_jobs_of, pm_Hires_jobs_of, an_Hires_jobs_of, cd_Hires_jobs_of, ct_Hires_jobs_of, sl_Hires_jobs_of, rfl, hl_Hires_jobs_of, hc_Hires_jobs_of⟩⟩,
    fi_Hires_jobs_of := ha_Hires_jobs_of,
    fn_Hires_jobs_of := hi_Hires_jobs_of,
    kp_Hires_jobs_of := hk_Hires_jobs_of,
    b_Hires_jobs_of := C8.Fun.binds (st := s_Hires_jobs_of) ⟨⟨oc_Hires_jobs_of, od_Hires_jobs_of, .none, kV_Hires_jobs_of, dc_Hires_jobs_of, pm_Hires_jobs_of, an_Hires_jobs_of, cd_Hires_jobs_of, ct_Hires_jobs_of, sl_Hires_jobs_of, rfl, hl_Hires_jobs_of, hc_Hires_jobs_of⟩⟩ rfl (ps := ["self", "person"]) fun _ _ _ _ _ _ us hl => match us, hl with | [_, _], _ => rfl,
    u_Hires__eq := ⟨⟨oc_Hires__eq, od_Hires__eq, .none, kV_Hires__eq, dc_Hires__eq, pm_Hires__eq, an_Hires__eq, cd_Hires__eq, ct_Hires__eq, sl_Hires__eq, rfl, hl_Hires__eq, hc_Hires__eq⟩⟩,
    fi_Hires__eq := ha_Hires__eq,
    fn_Hires__eq := hi_Hires__eq,
    kp_Hires__eq := hk_Hires__eq,
    b_Hires__eq := C8.Fun.binds (st := s_Hires__eq) ⟨⟨oc_Hires__eq, od_Hires__eq, .none, kV_Hires__eq, dc_Hires__eq, pm_Hires__eq, an_Hires__eq, cd_Hires__eq, ct_Hires__eq, sl_Hires__eq, rfl, hl_Hires__eq, hc_Hires__eq⟩⟩ rfl (ps := ["self", "other"]) fun _ _ _ _ _ _ us hl => match us, hl with | [_, _], _ => rfl,
    d_checked_jobs := ⟨⟨⟨oc_checked_jobs, od_checked_jobs, .none, kV_checked_jobs, dc_checked_jobs, pm_checked_jobs, an_checked_jobs, cd_checked_jobs, ct_checked_jobs, sl_checked_jobs, rfl, hl_checked_jobs, hc_checked_jobs⟩⟩, PySem.W.mg_of X G ha_checked_jobs, hk_checked_jobs⟩,
    b_checked_jobs := C8.Fun.binds (st := s_checked_jobs) ⟨⟨oc_checked_jobs, od_checked_jobs, .none, kV_checked_jobs, dc_checked_jobs, pm_checked_jobs, an_checked_jobs, cd_checked_jobs, ct_checked_jobs, sl_checked_jobs, rfl, hl_checked_jobs, hc_checked_jobs⟩⟩ rfl (ps := ["jobs", "people"]) fun _ _ _ _ _ _ us hl => match us, hl with | [_, _], _ => rfl,
    d_law_take := ⟨⟨⟨oc_law_take, od_law_take, .none, kV_law_take, dc_law_take, pm_law_take, an_law_take, cd_law_take, ct_law_take, sl_law_take, rfl, hl_law_take, hc_law_take⟩⟩, PySem.W.mg_of X G ha_law_take, hk_law_take⟩,
    b_law_take := C8.Fun.binds (st := s_law_take) ⟨⟨oc_law_take, od_law_take, .none, kV_law_take, dc_law_take, pm_law_take, an_law_take, cd_law_take, ct_law_take, sl_law_take, rfl, hl_law_take, hc_law_take⟩⟩ rfl (ps := ["script", "pool", "many"]) fun _ _ _ _ _ _ us hl => match us, hl with | [_, _, _], _ => rfl,
    d_law_like := ⟨⟨⟨oc_law_like, od_law_like, .none, kV_law_like, dc_law_like, pm_law_like, an_law_like, cd_law_like, ct_law_like, sl_law_like, rfl, hl_law_like, hc_law_like⟩⟩, PySem.W.mg_of X G ha_law_like, hk_law_like⟩,
    b_law_like := C8.Fun.binds (st := s_law_like) ⟨⟨oc_law_like, od_law_like, .none, kV_law_like, dc_law_like, pm_law_like, an_law_like, cd_law_like, ct_law_like, sl_law_like, rfl, hl_law_like, hc_law_like⟩⟩ rfl (ps := ["told", "due"]) fun _ _ _ _ _ _ us hl => match us, hl with | [_, _], _ => rfl,
    d_law_shuffled := ⟨⟨⟨oc_law_shuffled, od_law_shuffled, .none, kV_law_shuffled, dc_law_shuffled, pm_law_shuffled, an_law_shuffled, cd_law_shuffled, ct_law_shuffled, sl_law_shuffled, rfl, hl_law_shuffled, hc_law_shuffled⟩⟩, PySem.W.mg_of X G ha_law_shuffled, hk_law_shuffled⟩,
    b_law_shuffled := C8.Fun.binds (st := s_law_shuffled) ⟨⟨oc_law_shuffled, od_law_shuffled, .none, kV_law_shuffled, dc_law_shuffled, pm_law_shuffled, an_law_shuffled, cd_law_shuffled, ct_law_shuffled, sl_law_shuffled, rfl, hl_law_shuffled, hc_law_shuffled⟩⟩ rfl (ps := ["script", "pool", "things"]) fun _ _ _ _ _ _ us hl => match us, hl with | [_, _, _], _ => rfl,
    d_law_names := ⟨⟨⟨oc_law_names, od_law_names, .none, kV_law_names, dc_law_names, pm_law_names, an_law_names, cd_law_names, ct_law_names, sl_law_names, rfl, hl_law_names, hc_law_names⟩⟩, PySem.W.mg_of X G ha_law_names, hk_law_names⟩,
    b_law_names := C8.Fun.binds (st := s_law_names) ⟨⟨oc_law_names, od_law_names, .none, kV_law_names, dc_law_names, pm_law_names, an_law_names, cd_law_names, ct_law_names, sl_law_names, rfl, hl_law_names, hc_law_names⟩⟩ rfl (ps := ["script", "pool", "many"]) fun _ _ _ _ _ _ us hl => match us, hl with | [_, _, _], _ => rfl,
    d_law_some := ⟨⟨⟨oc_law_some, od_law_some, .none, kV_law_some, dc_law_some, pm_law_some, an_law_some, cd_law_some, ct_law_some, sl_law_some, rfl, hl_law_some, hc_law_some⟩⟩, PySem.W.mg_of X G ha_law_some, hk_law_some⟩,
    b_law_some := C8.Fun.binds (st := s_law_some) ⟨⟨oc_law_some, od_law_some, .none, kV_law_some, dc_law_some, pm_law_some, an_law_some, cd_law_some, ct_law_some, sl_law_some, rfl, hl_law_some, hc_law_some⟩⟩ rfl (ps := ["script", "pool", "things"]) fun _ _ _ _ _ _ us hl => match us, hl with | [_, _, _], _ => rfl,
    d_law_people := ⟨⟨⟨oc_law_people, od_law_people, .none, kV_law_people, dc_law_people, pm_law_people, an_law_people, cd_law_people, ct_law_people, sl_law_people, rfl, hl_law_people, hc_law_people⟩⟩, PySem.W.mg_of X G ha_law_people, hk_law_people⟩,
    b_law_people := C8.Fun.binds (st := s_law_people) ⟨⟨oc_law_people, od_law_people, .none, kV_law_people, dc_law_people, pm_law_people, an_law_people, cd_law_people, ct_law_people, sl_law_people, rfl, hl_law_people, hc_law_people⟩⟩ rfl (ps := ["script", "pool", "most", "jobs"]) fun _ _ _ _ _ _ us hl => match us, hl with | [_, _, _, _], _ => rfl,
    d_law_made_so := ⟨⟨⟨oc_law_made_so, od_law_made_so, .none, kV_law_made_so, dc_law_made_so, pm_law_made_so, an_law_made_so, cd_law_made_so, ct_law_made_so, sl_law_made_so, rfl, hl_law_made_so, hc_law_made_so⟩⟩, PySem.W.mg_of X G ha_law_made_so, hk_law_made_so⟩,
    b_law_made_so := C8.Fun.binds (st := s_law_made_so) ⟨⟨oc_law_made_so, od_law_made_so, .none, kV_law_made_so, dc_law_made_so, pm_law_made_so, an_law_made_so, cd_law_made_so, ct_law_made_so, sl_law_made_so, rfl, hl_law_made_so, hc_law_made_so⟩⟩ rfl (ps := ["people", "jobs"]) fun _ _ _ _ _ _ us hl => match us, hl with | [_, _], _ => rfl,
    d_law_nobody := ⟨⟨⟨oc_law_nobody, od_law_nobody, .none, kV_law_nobody, dc_law_nobody, pm_law_nobody, an_law_nobody, cd_law_nobody, ct_law_nobody, sl_law_nobody, rfl, hl_law_nobody, hc_law_nobody⟩⟩, PySem.W.mg_of X G ha_law_nobody, hk_law_nobody⟩,
    b_law_nobody := C8.Fun.binds (st := s_law_nobody) ⟨⟨oc_law_nobody, od_law_nobody, .none, kV_law_nobody, dc_law_nobody, pm_law_nobody, an_law_nobody, cd_law_nobody, ct_law_nobody, sl_law_nobody, rfl, hl_law_nobody, hc_law_nobody⟩⟩ rfl (ps := ["hires", "person"]) fun _ _ _ _ _ _ us hl => match us, hl with | [_, _], _ => rfl,
    d_law_is_name := ⟨⟨⟨oc_law_is_name, od_law_is_name, .none, kV_law_is_name, dc_law_is_name, pm_law_is_name, an_law_is_name, cd_law_is_name, ct_law_is_name, sl_law_is_name, rfl, hl_law_is_name, hc_law_is_name⟩⟩, PySem.W.mg_of X G ha_law_is_name, hk_law_is_name⟩,
    b_law_is_name := C8.Fun.binds (st := s_law_is_name) ⟨⟨oc_law_is_name, od_law_is_name, .none, kV_law_is_name, dc_law_is_name, pm_law_is_name, an_law_is_name, cd_law_is_name, ct_law_is_name, sl_law_is_name, rfl, hl_law_is_name, hc_law_is_name⟩⟩ rfl (ps := ["word"]) fun _ _ _ _ _ _ us hl => match us, hl with | [_], _ => rfl,
    d_law_first_wrong := ⟨⟨⟨oc_law_first_wrong, od_law_first_wrong, .none, kV_law_first_wrong, dc_law_first_wrong, pm_law_first_wrong, an_law_first_wrong, cd_law_first_wrong, ct_law_first_wrong, sl_law_first_wrong, rfl, hl_law_first_wrong, hc_law_first_wrong⟩⟩, PySem.W.mg_of X G ha_law_first_wrong, hk_law_first_wrong⟩,
    b_law_first_wrong := C8.Fun.binds (st := s_law_first_wrong) ⟨⟨oc_law_first_wrong, od_law_first_wrong, .none, kV_law_first_wrong, dc_law_first_wrong, pm_law_first_wrong, an_law_first_wrong, cd_law_first_wrong, ct_law_first_wrong, sl_law_first_wrong, rfl, hl_law_first_wrong, hc_law_first_wrong⟩⟩ rfl (ps := ["words"]) fun _ _ _ _ _ _ us hl => match us, hl with | [_], _ => rfl,
    d_law_due := ⟨⟨⟨oc_law_due, od_law_due, .none, kV_law_due, dc_law_due, pm_law_due, an_law_due, cd_law_due, ct_law_due, sl_law_due, rfl, hl_law_due, hc_law_due⟩⟩, PySem.W.mg_of X G ha_law_due, hk_law_due⟩,
    b_law_due := C8.Fun.binds (st := s_law_due) ⟨⟨oc_law_due, od_law_due, .none, kV_law_due, dc_law_due, pm_law_due, an_law_due, cd_law_due, ct_law_due, sl_law_due, rfl, hl_law_due, hc_law_due⟩⟩ rfl (ps := ["people", "jobs"]) fun _ _ _ _ _ _ us hl => match us, hl with | [_, _], _ => rfl,
    d_law_spoiled := ⟨⟨⟨oc_law_spoiled, od_law_spoiled, .none, kV_law_spoiled, dc_law_spoiled, pm_law_spoiled, an_law_spoiled, cd_law_spoiled, ct_law_spoiled, sl_law_spoiled, rfl, hl_law_spoiled, hc_law_spoiled⟩⟩, PySem.W.mg_of X G ha_law_spoiled, hk_law_spoiled⟩,
    b_law_spoiled := C8.Fun.binds (st := s_law_spoiled) ⟨⟨oc_law_spoiled, od_law_spoiled, .none, kV_law_spoiled, dc_law_spoiled, pm_law_spoiled, an_law_spoiled, cd_law_spoiled, ct_law_spoiled, sl_law_spoiled, rfl, hl_law_spoiled, hc_law_spoiled⟩⟩ rfl (ps := ["script", "pool", "people", "lists"]) fun _ _ _ _ _ _ us hl => match us, hl with | [_, _, _, _], _ => rfl,
    d_law := ⟨⟨⟨oc_law, od_law, .none, kV_law, dc_law, pm_law, an_law, cd_law, ct_law, sl_law, rfl, hl_law, hc_law⟩⟩, PySem.W.mg_of X G ha_law, hk_law⟩,
    b_law := C8.Fun.binds (st := s_law) ⟨⟨oc_law, od_law, .none, kV_law, dc_law, pm_law, an_law, cd_law, ct_law, sl_law, rfl, hl_law, hc_law⟩⟩ rfl (ps := ["script"]) fun _ _ _ _ _ _ us hl => match us, hl with | [_], _ => rfl,
    cl_Hires := ⟨pg_Hires, hd_Hires, po_Hires, sa_Hires⟩,
    mk_Hires := mk_Hires,
    kc_Hires := kc_Hires,
    na_Hires__people := na_Hires__people,
    na_Hires__jobs := na_Hires__jobs,
    wc_Hires := wc_Hires,
    wg_Hires := wg_Hires,
    wt_Hires := wt_Hires,
    wm_Hires := wm_Hires,
    wk_Hires := if_pos (by simp),
    nc_Hires := ⟨⟨_, _, _, _, _, _, _, _, _, _, _, _, _, _, _, _, xo_Hires⟩, xe_Hires, ha_Hires__eq, hi_Hires__eq⟩,
    ox_BadThings := ⟨⟨_, _, _, _, _, _, _, _, _, _, _, _, _, _, _, xL_BadThings, rfl⟩, xs_BadThings, xb_BadThings, xt_BadThings, xk_BadThings⟩,
    xf_BadThings := ⟨xg_BadThings, xn_BadThings, xb_BadThings, xd_BadThings⟩,
    nx_BadThings_index := nx_BadThings_index,
    ox_NoThing := ⟨⟨_, _, _, _, _, _, _, _, _, _, _, _, _, _, _, xL_NoThing, rfl⟩, xs_NoThing, xb_NoThing, xt_NoThing, xk_NoThing⟩,
    xf_NoThing := ⟨xg_NoThing, xn_NoThing, xb_NoThing, xd_NoThing⟩,
    nx_NoThing_thing := nx_NoThing_thing,
    ox_BadJobs := ⟨⟨_, _, _, _, _, _, _, _, _, _, _, _, _, _, _, xL_BadJobs, rfl⟩, xs_BadJobs, xb_BadJobs, xt_BadJobs, xk_BadJobs⟩,
    xf_BadJobs := ⟨xg_BadJobs, xn_BadJobs, xb_BadJobs, xd_BadJobs⟩,
    nx_BadJobs_person := nx_BadJobs_person,
    xm_BadThings_BadThings := exm_ofB xb_BadThings ic_BadThings yt_BadThings sb_BadThings_BadThings xb_BadThings,
    xm_NoThing_NoThing := exm_ofB xb_NoThing ic_NoThing yt_NoThing sb_NoThing_NoThing xb_NoThing,
    xm_BadJobs_BadJobs := exm_ofB xb_BadJobs ic_BadJobs yt_BadJobs sb_BadJobs_BadJobs xb_BadJobs,
    xm_BadThings_LotError := exm_ofB xb_BadThings ic_LotError yt_LotError sb_BadThings_LotError xb_LotError,
    xm_BadJobs_LotError := exm_ofB xb_BadJobs ic_LotError yt_LotError sb_BadJobs_LotError xb_LotError,
    is_BadThings := ⟨ic_BadThings, ⟨xg_BadThings, xn_BadThings, xb_BadThings, xd_BadThings⟩, xc_BadThings, wgx, wtx, xr_BadThings⟩,
    is_BadJobs := ⟨ic_BadJobs, ⟨xg_BadJobs, xn_BadJobs, xb_BadJobs, xd_BadJobs⟩, xc_BadJobs, wgx, wtx, xr_BadJobs⟩,
    ky_BadThings_BadThings := kit_sub ic_BadThings yt_BadThings sb_BadThings_BadThings (by first | exact .inl rfl | exact .inr (kit_ne sb_BadThings_BadThings sb_BadThings_BadThings) | exact .inr (by simp)) ,
    ky_BadJobs_BadThings := kit_sub ic_BadThings yt_BadThings sb_BadJobs_BadThings (by first | exact .inl rfl | exact .inr (kit_ne sb_BadThings_BadThings sb_BadJobs_BadThings) | exact .inr (by simp)) ,
    ky_BadJobs_BadJobs := kit_sub ic_BadJobs yt_BadJobs sb_BadJobs_BadJobs (by first | exact .inl rfl | exact .inr (kit_ne sb_BadJobs_BadJobs sb_BadJobs_BadJobs) | exact .inr (by simp)) ,
    z_all := PySem.W.mg_none_of X G z_all,
    z_bool := PySem.W.mg_none_of X G z_bool,
    z_dict := PySem.W.mg_none_of X G z_dict,
    z_enumerate := PySem.W.mg_none_of X G z_enumerate,
    z_int := PySem.W.mg_none_of X G z_int,
    z_isinstance := PySem.W.mg_none_of X G z_isinstance,
    z_len := PySem.W.mg_none_of X G z_len,
    z_list := PySem.W.mg_none_of X G z_list,
    z_range := PySem.W.mg_none_of X G z_range,
    z_repr := PySem.W.mg_none_of X G z_repr,
    z_reversed := PySem.W.mg_none_of X G z_reversed,
    z_set := PySem.W.mg_none_of X G z_set,
    z_sorted := PySem.W.mg_none_of X G z_sorted,
    z_str := PySem.W.mg_none_of X G z_str,
    z_tuple := PySem.W.mg_none_of X G z_tuple,
    g_LONGEST_NAME := ⟨_, PySem.W.mg_of X G g_LONGEST_NAME⟩,
    g_MOST_PEOPLE := ⟨_, PySem.W.mg_of X G g_MOST_PEOPLE⟩,
    g_MOST_JOBS := ⟨_, PySem.W.mg_of X G g_MOST_JOBS⟩ }, fun s u => .of_eq rfl⟩
theorem walk {l : PySem.W.OpenLaw} {q : Program} {loose : List Str} {XP : (Str → Option Value) → Heap → Prop} {YP : World → Heap → Prop} {d : DefRec} {K : Params → PySem.W.Frag} (hn : l.most = some 63) (hdf : d.params.defaults = []) (hnm : d.name = "law")
    (hY : ∀ (w : World) (h : Heap), YP w h → (K w.params).In h)
    (F : ∀ (w : World) (mg : Str → Option Value) (h : Heap), (K w.params).In h → h.Ns mainGlobals mg → ∃ A : Ad, Txt (K w.params) mg A ∧ ∀ (s : Shared) (u : Value), BindsTo s A.fd_law ⟨[u], []⟩ [("script", u)]) :
    PySem.W.WalkO q loose XP YP l.row.toRowW d [] (fun f vs => PySem.call f vs) := by
  refine BF.walk_top (n := 63) hn (by rw [sizeLine_eq]; omega) hdf hY fun w mg fa h KX G hmg base _ _ => ?_
  obtain ⟨A, T, hb⟩ := F w mg h KX G
  rw [hnm] at hmg
  have e := hmg.symm.trans T.d_law.mgf
  cases e
  exact ok_law T hb
end BF25
open PySem PySem.W PyProof.Rows in
set_option maxRecDepth 100000 in
set_option maxHeartbeats 0 in
theorem PySem.Challenge.cw_bothfree_k25_hires_made_and_refused_holds : PySem.Challenge.rw_bothfree_k25_hires_made_and_refused.Holds := by
  w_on; o_law; k_head; (case hw => w_witness2)
  k_fill
  refine BF25.walk (l := PySem.Challenge.rw_bothfree_k25_hires_made_and_refused) rfl rfl rfl (fun w h Y => PySem.W.kIn_of Y) ?F
  case F =>
    intro w mg h KX G
    refine' BF25.all_mk KX G ?hgC_LotError ?hgC_BadThings ?hgC_NoThing ?hgC_BadJobs ?hgC_Hires ?ha_BadThings__init ?hi_BadThings__init ?hl_BadThings__init ?hc_BadThings__init ?hk_BadThings__init ?ha_NoThing__init ?hi_NoThing__init ?hl_NoThing__init ?hc_NoThing__init ?hk_NoThing__init ?ha_BadJobs__init ?hi_BadJobs__init ?hl_BadJobs__init ?hc_BadJobs__init ?hk_BadJobs__init ?ha_is_name ?hl_is_name ?hc_is_name ?hk_is_name ?ha_first_wrong ?hl_first_wrong ?hc_first_wrong ?hk_first_wrong ?ha_sorted_things ?hl_sorted_things ?hc_sorted_things ?hk_sorted_things ?ha_Hires__init ?hi_Hires__init ?hl_Hires__init ?hc_Hires__init ?hk_Hires__init ?ha_Hires_people ?hi_Hires_people ?hl_Hires_people ?hc_Hires_people ?hk_Hires_people ?ha_Hires_jobs_of ?hi_Hires_jobs_of ?hl_Hires_jobs_of ?hc_Hires_jobs_of ?hk_Hires_jobs_of ?ha_Hires__eq ?hi_Hires__eq ?hl_Hires__eq ?hc_Hires__eq ?hk_Hires__eq ?ha_checked_jobs ?hl_checked_jobs ?hc_checked_jobs ?hk_checked_jobs ?ha_law_take ?hl_law_take ?hc_law_take ?hk_law_take ?ha_law_like ?hl_law_like ?hc_law_like ?hk_law_like ?ha_law_shuffled ?hl_law_shuffled ?hc_law_shuffled ?hk_law_shuffled ?ha_law_names ?hl_law_names ?hc_law_names ?hk_law_names ?ha_law_some ?hl_law_some ?hc_law_some ?hk_law_some ?ha_law_people ?hl_law_people ?hc_law_people ?hk_law_people ?ha_law_made_so ?hl_law_made_so ?hc_law_made_so ?hk_law_made_so ?ha_law_nobody ?hl_law_nobody ?hc_law_nobody ?hk_law_nobody ?ha_law_is_name ?hl_law_is_name ?hc_law_is_name ?hk_law_is_name ?ha_law_first_wrong ?hl_law_first_wrong ?hc_law_first_wrong ?hk_law_first_wrong ?ha_law_due ?hl_law_due ?hc_law_due ?hk_law_due ?ha_law_spoiled ?hl_law_spoiled ?hc_law_spoiled ?hk_law_spoiled ?ha_law ?hl_law ?hc_law ?hk_law ?pg_Hires ?hd_Hires ?po_Hires ?sa_Hires ?mk_Hires ?kc_Hires ?na_Hires__people ?na_Hires__jobs ?wc_Hires ?wg_Hires ?wt_Hires ?wm_Hires ?xo_Hires ?xe_Hires ?xL_BadThings ?xs_BadThings ?xb_BadThings ?xt_BadThings ?xk_BadThings ?xg_BadThings ?xn_BadThings ?xd_BadThings ?nx_BadThings_index ?xL_NoThing ?xs_NoThing ?xb_NoThing ?xt_NoThing ?xk_NoThing ?xg_NoThing ?xn_NoThing ?xd_NoThing ?nx_NoThing_thing ?xL_BadJobs ?xs_BadJobs ?xb_BadJobs ?xt_BadJobs ?xk_BadJobs ?xg_BadJobs ?xn_BadJobs ?xd_BadJobs ?nx_BadJobs_person ?ic_BadThings ?yt_BadThings ?sb_BadThings_BadThings ?ic_NoThing ?yt_NoThing ?sb_NoThing_NoThing ?ic_BadJobs ?yt_BadJobs ?sb_BadJobs_BadJobs ?ic_LotError ?yt_LotError ?xb_LotError ?sb_BadThings_LotError ?sb_BadJobs_LotError ?xc_BadThings ?wgx ?wtx ?xr_BadThings ?xc_BadJobs ?xr_BadJobs ?sb_BadJobs_BadThings ?z_all ?z_bool ?z_dict ?z_enumerate ?z_int ?z_isinstance ?z_len ?z_list ?z_range ?z_repr ?z_reversed ?z_set ?z_sorted ?z_str ?z_tuple ?g_LONGEST_NAME ?g_MOST_PEOPLE ?g_MOST_JOBS
    (case hgC_LotError => k_is)
    (case hgC_BadThings => k_is)
    (case hgC_NoThing => k_is)
    (case hgC_BadJobs => k_is)
    (case hgC_Hires => k_is)
    (case ha_BadThings__init => k_is)
    (case hi_BadThings__init => k_is)
    (case hl_BadThings__init => k_is)
    (case hc_BadThings__init => k_is)
    (case hk_BadThings__init => k_is)
    (case ha_NoThing__init => k_is)
    (case hi_NoThing__init => k_is)
    (case hl_NoThing__init => k_is)
    (case hc_NoThing__init => k_is)
    (case hk_NoThing__init => k_is)
    (case ha_BadJobs__init => k_is)
    (case hi_BadJobs__init => k_is)
    (case hl_BadJobs__init => k_is)
    (case hc_BadJobs__init => k_is)
    (case hk_BadJobs__init => k_is)
    (case ha_is_name => k_is)
    (case hl_is_name => k_is)
    (case hc_is_name => k_is)
    (case hk_is_name => k_is)
    (case ha_first_wrong => k_is)
    (case hl_first_wrong => k_is)
    (case hc_first_wrong => k_is)
    (case hk_first_wrong => k_is)
    (case ha_sorted_things => k_is)
    (case hl_sorted_things => k_is)
    (case hc_sorted_things => k_is)
    (case hk_sorted_things => k_is)
    (case ha_Hires__init => k_is)
    (case hi_Hires__init => k_is)
    (case hl_Hires__init => k_is)
    (case hc_Hires__init => k_is)
    (case hk_Hires__init => k_is)
    (case ha_Hires_people => k_is)
    (case hi_Hires_people => k_is)
    (case hl_Hires_people => k_is)
    (case hc_Hires_people => k_is)
    (case hk_Hires_people => k_is)
    (case ha_Hires_jobs_of => k_is)
    (case hi_Hires_jobs_of => k_is)
    (case hl_Hires_jobs_of => k_is)
    (case hc_Hires_jobs_of => k_is)
    (case hk_Hires_jobs_of => k_is)
    (case ha_Hires__eq => k_is)
    (case hi_Hires__eq => k_is)
    (case hl_Hires__eq => k_is)
    (case hc_Hires__eq => k_is)
    (case hk_Hires__eq => k_is)
    (case ha_checked_jobs => k_is)
    (case hl_checked_jobs => k_is)
    (case hc_checked_jobs => k_is)
    (case hk_checked_jobs => k_is)
    (case ha_law_take => k_is)
    (case hl_law_take => k_is)
    (case hc_law_take => k_is)
    (case hk_law_take => k_is)
    (case ha_law_like => k_is)
    (case hl_law_like => k_is)
    (case hc_law_like => k_is)
    (case hk_law_like => k_is)
    (case ha_law_shuffled => k_is)
    (case hl_law_shuffled => k_is)
    (case hc_law_shuffled => k_is)
    (case hk_law_shuffled => k_is)
    (case ha_law_names => k_is)
    (case hl_law_names => k_is)
    (case hc_law_names => k_is)
    (case hk_law_names => k_is)
    (case ha_law_some => k_is)
    (case hl_law_some => k_is)
    (case hc_law_some => k_is)
    (case hk_law_some => k_is)
    (case ha_law_people => k_is)
    (case hl_law_people => k_is)
    (case hc_law_people => k_is)
    (case hk_law_people => k_is)
    (case ha_law_made_so => k_is)
    (case hl_law_made_so => k_is)
    (case hc_law_made_so => k_is)
    (case hk_law_made_so => k_is)
    (case ha_law_nobody => k_is)
    (case hl_law_nobody => k_is)
    (case hc_law_nobody => k_is)
    (case hk_law_nobody => k_is)
    (case ha_law_is_name => k_is)
    (case hl_law_is_name => k_is)
    (case hc_law_is_name => k_is)
    (case hk_law_is_name => k_is)
    (case ha_law_first_wrong => k_is)
    (case hl_law_first_wrong => k_is)
    (case hc_law_first_wrong => k_is)
    (case hk_law_first_wrong => k_is)
    (case ha_law_due => k_is)
    (case hl_law_due => k_is)
    (case hc_law_due => k_is)
    (case hk_law_due => k_is)
    (case ha_law_spoiled => k_is)
    (case hl_law_spoiled => k_is)
    (case hc_law_spoiled => k_is)
    (case hk_law_spoiled => k_is)
    (case ha_law => k_is)
    (case hl_law => k_is)
    (case hc_law => k_is)
    (case hk_law => k_is)
    (case pg_Hires => k_is)
    (case hd_Hires => k_is)
    (case po_Hires => k_is)
    (case sa_Hires => k_is)
    (case mk_Hires => k_is)
    (case kc_Hires => k_is)
    (case na_Hires__people => k_is)
    (case na_Hires__jobs => k_is)
    (case wc_Hires => k_is)
    (case wg_Hires => k_is)
    (case wt_Hires => k_is)
    (case wm_Hires => k_is)
    (case xo_Hires => k_is)
    (case xe_Hires => k_is)
    (case xL_BadThings => k_is)
    (case xs_BadThings => k_is)
    (case xb_BadThings => k_is)
    (case xt_BadThings => k_is)
    (case xk_BadThings => k_is)
    (case xg_BadThings => k_is)
    (case xn_BadThings => k_is)
    (case xd_BadThings => k_is)
    (case nx_BadThings_index => k_is)
    (case xL_NoThing => k_is)
    (case xs_NoThing => k_is)
    (case xb_NoThing => k_is)
    (case xt_NoThing => k_is)
    (case xk_NoThing => k_is)
    (case xg_NoThing => k_is)
    (case xn_NoThing => k_is)
    (case xd_NoThing => k_is)
    (case nx_NoThing_thing => k_is)
    (case xL_BadJobs => k_is)
    (case xs_BadJobs => k_is)
    (case xb_BadJobs => k_is)
    (case xt_BadJobs => k_is)
    (case xk_BadJobs => k_is)
    (case xg_BadJobs => k_is)
    (case xn_BadJobs => k_is)
    (case xd_BadJobs => k_is)
    (case nx_BadJobs_person => k_is)
    (case ic_BadThings => k_is)
    (case yt_BadThings => k_is)
    (case sb_BadThings_BadThings => k_is)
    (case ic_NoThing => k_is)
    (case yt_NoThing => k_is)
    (case sb_NoThing_NoThing => k_is)
    (case ic_BadJobs => k_is)
    (case yt_BadJobs => k_is)
    (case sb_BadJobs_BadJobs => k_is)
    (case ic_LotError => k_is)
    (case yt_LotError => k_is)
    (case xb_LotError => k_is)
    (case sb_BadThings_LotError => k_is)
    (case sb_BadJobs_LotError => k_is)
    (case xc_BadThings => k_is)
    (case wgx => k_is)
    (case wtx => k_is)
    (case xr_BadThings => k_is)
    (case xc_BadJobs => k_is)
    (case xr_BadJobs => k_is)
    (case sb_BadJobs_BadThings => k_is)
    (case z_all => k_is)
    (case z_bool => k_is)
    (case z_dict => k_is)
    (case z_enumerate => k_is)
    (case z_int => k_is)
    (case z_isinstance => k_is)
    (case z_len => k_is)
    (case z_list => k_is)
    (case z_range => k_is)
    (case z_repr => k_is)
    (case z_reversed => k_is)
    (case z_set => k_is)
    (case z_sorted => k_is)
    (case z_str => k_is)
    (case z_tuple => k_is)
    (case g_LONGEST_NAME => k_is)
    (case g_MOST_PEOPLE => k_is)
    (case g_MOST_JOBS => k_is)
