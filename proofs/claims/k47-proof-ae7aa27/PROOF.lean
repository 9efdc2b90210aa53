import PyProof.Rows.All
import Wide.All
import OpenK.AllK
import Wide.FinOn
import HandS.ForMost
import HandS.ForExc
import HandS.ExcInit
import HandS.ExcField
import HandS.TryMany
import HandS.SetKeys
import HandS.CallLocal
import HandS.Codes
import HandS.More
import HandS.Style
import HandS.TupAny
import HandS.DictComp
import HandS.IsInst
import HandS.NoneIn
import HandS.Finally
import HandS.OwnEq
import HandS.Walk
import KE.Datum
import HandS.SortKw
import HandS.MakeKwOnly
import KE.DataMinMax
import PyProof.Rows.StrMul
import KE.KExcIs
import HandS.ExcIs
import HandS.Lambda
import HandS.Nested
import HandS.CallRecv
import HandS.EndBits
import HandS.EndTab
import KE.KNestM
import PySem.Challenge.RW_bothfree_k47_rooms_made_and_refused
set_option Elab.async false
set_option linter.all false
set_option maxRecDepth 100000
set_option maxHeartbeats 4000000
/-! What the laws of this program share: bundles of defs that may raise, several except clauses with names, calls. -/
namespace BF
open PySem PySem.Spec PyProof.Rows L2

section
variable {X : Cx}
theorem pe_gint {x : Str} {i : Int} {pos : Pos} (hg : Gl X x) (hm : ∃ t, X.mg x = some (.int i t)) (hd : (x == ("__debug__" : Str)) = false := by decide) : PE X (.Name x pos) (tC (.int i)) := by
  obtain ⟨t, hm⟩ := hm
  exact pe_glob hg hm ⟨t, rfl⟩ hd
end
theorem exm_ofB {K : PySem.W.Frag} {a S : Addr} {r : Bool} (h1 : PySem.W.subIn K (.ref a) (.type "BaseException") = some true) (h2 : PySem.W.isClsIn K S = true) (h3 : PySem.W.typeIn K (.ref S) = some (.type "type")) (h4 : PySem.W.subIn K (.ref a) (.ref S) = some r) (h5 : PySem.W.subIn K (.ref S) (.type "BaseException") = some true) :
    PySem.W.exmOne K (.ref a) (.ref S) = some r := by
  have e1 : (PySem.W.subIn K (.ref S) (.type "BaseException") == some true) = true := by rw [h5] <;> rfl
  have e2 : ((PySem.W.clsIn K S).isSome && PySem.W.typeIn K (.ref S) == some (.type "type")) = true :=
    Bool.and_eq_true_iff.mpr ⟨h2, beq_iff_eq.mpr h3⟩
  show (if (PySem.W.subIn K (.ref S) (.type "BaseException") == some true) = true then (if ((PySem.W.clsIn K S).isSome && PySem.W.typeIn K (.ref S) == some (.type "type")) = true then PySem.W.subIn K (.ref a) (.ref S) else none) else none) = some r
  rw [if_pos e1, if_pos e2]
  exact h4

/-! ### defs that may raise -/
section
variable {P : Program} {w : World} {K : PySem.W.Frag} {mg : Str → Option Value} {base : Heap}
structure CalX (P : Program) (w : World) (K : PySem.W.Frag) (mg : Str → Option Value) (base : Heap) (k : Nat) (x : Str) (sp : Sp) : Prop where
  ex : ∃ (f : Addr) (fd : FuncData) (ps : List Str), FnOk P w K mg base (L2.CX P w) k f fd ps sp ∧ mg x = some (.ref f) ∧ PySem.W.keepIn K (.ref f) = true ∧ Binds K fd ps []
structure MakX (P : Program) (w : World) (K : PySem.W.Frag) (mg : Str → Option Value) (base : Heap) (k : Nat) (x : Str) (C : Addr) (sp : Sp) : Prop where
  ex : ∃ (f : Addr) (fd : FuncData) (ps : List Str), Mk K C f ∧ FnOk P w K mg base (L2.CX P w) k f fd ps sp ∧ mg x = some (.ref C) ∧ Binds K fd ps []
structure MetX (P : Program) (w : World) (K : PySem.W.Frag) (mg : Str → Option Value) (base : Heap) (k : Nat) (C : Addr) (m : Str) (sp : Sp) : Prop where
  ex : ∃ (f : Addr) (fd : FuncData) (ps : List Str), Cls K C ∧ Meth K C m f ∧ FnOk P w K mg base (L2.CX P w) k f fd ps sp ∧ Binds K fd ps []
/-- the body's proof of a def that may raise -/
theorem fnX {x qual : Str} {st : Stmt} {f : Addr} {fd : FuncData} {N ps : List Str} {k : Nat} {sp : Sp} (F : C8.Fun K x qual st f fd) (S : FnScope N ps (C8.fnScope st)) (len : ∀ vs H Q E, sp vs H Q E → vs.length = ps.length)
    (hbody : ∀ (cdv : Value) (A : Around) (outer : List Env) (s : Shared) (H : Hp) (vs : List V) (Q : VK) (E : XK), Room k (A.deeper (envOfC qual (C8.fnScope st) s.heap.objs.size f cdv)) → sp vs H Q E →
      ∃ t, PSs (cxOf (L2.CX P w) P w K mg base N qual (C8.fnScope st) f cdv A outer s H E) (C8.fnBody st) t ∧ t { nx := fun _ H' => Q .non H', rt := Q } (start N vs) H) : FnOk P w K mg base (L2.CX P w) (k + 1) f fd ps sp := by
  obtain ⟨_, _, _, _, _, _, _, _, _, _, rfl, stands, code⟩ := F.ex
  exact fn_of stands code S len fun B above t G us R Z room pr => hbody _ B above t G us R Z room pr
end
section
variable {X : Cx} {k j : Nat} {C f : Addr} {x m : Str} {sp : Sp} {p pos apos : Pos} {e o : Expr} {es : List Expr} {ta : TE} {t : TA} {W : WX}
/-- a call of a def that may raise, in a def that lets it out -/
theorem pe_cX {E : XK} (c : CalX X.prog X.w X.K X.mg X.base k x sp) (hr : Room j X.A) (hk : k ≤ j) (hg : Gl X x) (ha : PA X (e :: es) t) (tk : Takes X (fun cls d _ H => E cls d H))
    (hdb : (x == ("__debug__" : Str)) = false := by decide) (he : starEach (e :: es) X.env = (false, eval e X.env) :: starEach es X.env := by rfl) (hpl : (backTo pos (starEach es X.env)).any (·.1) = false := by rfl) :
    PE X (.Call (.Name x p) (e :: es) [] pos) (tCall sp [] E t) := by
  obtain ⟨f, fd, ps, F, hm, kp, b⟩ := c.ex
  exact pe_call F (hr.mono hk) hg hm kp b .nil (passes_call tk fun _ _ _ _ h => h) ha hdb he hpl
/-- .. in a try's body -/
theorem pe_cS (c : CalX X.prog X.w X.K X.mg X.base k x sp) (hr : Room j X.A) (hk : k ≤ j) (hg : Gl X x) {E : L2.St → XK} (hx : ∀ σ, PassesAt (L2.CX X.prog X.w) X σ (E σ)) (ha : PA X (e :: es) t)
    (hdb : (x == ("__debug__" : Str)) = false := by decide) (he : starEach (e :: es) X.env = (false, eval e X.env) :: starEach es X.env := by rfl) (hpl : (backTo pos (starEach es X.env)).any (·.1) = false := by rfl) :
    PE X (.Call (.Name x p) (e :: es) [] pos) (tCallS sp E t) := by
  obtain ⟨f, fd, ps, F, hm, kp, b⟩ := c.ex
  exact pe_callS F (hr.mono hk) hg hm kp b hx ha hdb he hpl
theorem passN {X : Cx} {CX : CXT} {P : Program} {w : World} (h : CX = L2.CX P w) : Passes CX X (fun _ _ _ => False) := by
  subst h
  intro _ _ _ _ _ _ _ h
  obtain ⟨_, _, _, _, _, _, _, _, _, _, _, _, z⟩ := h
  exact z.elim
/-- a call of a def that may raise where it is known that it raises nothing -/
theorem pe_cN (c : CalX X.prog X.w X.K X.mg X.base k x sp) (hr : Room j X.A) (hk : k ≤ j) (hg : Gl X x) (ha : PA X (e :: es) t)
    (hdb : (x == ("__debug__" : Str)) = false := by decide) (he : starEach (e :: es) X.env = (false, eval e X.env) :: starEach es X.env := by rfl) (hpl : (backTo pos (starEach es X.env)).any (·.1) = false := by rfl) :
    PE X (.Call (.Name x p) (e :: es) [] pos) (tCall sp [] (fun _ _ _ => False) t) := by
  obtain ⟨f, fd, ps, F, hm, kp, b⟩ := c.ex
  exact pe_call F (hr.mono hk) hg hm kp b .nil (passN rfl) ha hdb he hpl
theorem pe_mkN (c : MakX X.prog X.w X.K X.mg X.base k x C sp) (hr : Room j X.A) (hk : k + 1 ≤ j) (hg : Gl X x) (ha : PA X (e :: es) t)
    (hdb : (x == ("__debug__" : Str)) = false := by decide) (he : starEach (e :: es) X.env = (false, eval e X.env) :: starEach es X.env := by rfl) (hpl : (backTo pos (starEach es X.env)).any (·.1) = false := by rfl) :
    PE X (.Call (.Name x p) (e :: es) [] pos) (tMake C sp [] (fun _ _ _ => False) t) := by
  obtain ⟨f, fd, ps, M, F, hm, b⟩ := c.ex
  exact pe_make M F (hr.mono hk) hg hm b .nil (passN rfl) ha hdb he hpl
/-- C(..) in a try's body: the new instance and its dict are dropped where __init__ raises -/
def tMakeS (C : Addr) (sp : Sp) (E : L2.St → XK) (t : TA) : TE := fun σ H Q => t σ H fun vs H1 => ∀ x dx, H1 x = none → H1 dx = none → dx ≠ x →
  sp (.ref x :: vs) (upd (upd H1 dx (.own x)) x (.ins C dx [])) (fun v H2 => v = .non ∧ Q (.ref x) H2) (E σ)
theorem pe_mkS (c : MakX X.prog X.w X.K X.mg X.base k x C sp) (hr : Room j X.A) (hk : k + 1 ≤ j) (hg : Gl X x) {E : L2.St → XK} (hx : ∀ σ, PassesAt (L2.CX X.prog X.w) X σ (E σ)) (ha : PA X (e :: es) t)
    (hdb : (x == ("__debug__" : Str)) = false := by decide) (he : starEach (e :: es) X.env = (false, eval e X.env) :: starEach es X.env := by rfl) (hpl : (backTo pos (starEach es X.env)).any (·.1) = false := by rfl) :
    PE X (.Call (.Name x p) (e :: es) [] pos) (tMakeS C sp E t) := by
  obtain ⟨fI, data, names, M, F, glob, binds⟩ := c.ex
  have room := hr.mono hk
  constructor
  intro pins s σ H Q I w
  refine wpAny_Call_Name_kw (ld_glob I hg glob (PySem.W.callWith_K (h₀ := X.base) I.ok.mod.kin M.kp (thn (ha.run pos pins s σ H _ I w) ?_) he hpl) hdb)
  rintro us t ⟨vs, G, J, rel, w⟩
  refine ⟨J.kIn, ?_⟩
  let n := t.heap.objs.size
  have sat := w (n + 1) n (J.hok.fresh (Nat.le_succ _)) (J.hok.fresh (Nat.le_refl _)) (Nat.ne_of_lt (Nat.lt_succ_self _))
  have made := Inv.made (C := C) J
  have args : Vals (V.ref (n + 1) :: vs) (Value.ref (n + 1) :: us) := .cons rfl rel
  have many : (Value.ref (n + 1) :: us).length = names.length := args.length.symm.trans (F.len _ _ _ _ sat)
  have bound := binds _ (Value.ref (n + 1) :: us) made.kIn ((congrArg List.length (List.append_nil _)).trans many)
  rw [List.append_nil] at bound
  have runs := F.run _ X.stack _ _ ⟨Value.ref (n + 1) :: us, []⟩ (Value.ref (n + 1) :: us) _ _ (E σ) (room.make C us []) (made.env0.make C us []) bound args sat
  refine wpAny_call (make_map (f := fI) J.kIn M.makes M.init (beq_iff_eq.mp M.fn) (codeAny_mono runs fun out t2 q => ?_))
  match out, q with
  | .error e, q => exact hx σ pins _ _ e t2 made q
  | .ok (.ret u), q =>
    obtain ⟨v, G2, J2, rv, ev, q2⟩ := made.after q
    cases ev
    exact ⟨rv, V.ref (n + 1), G2, J2, rfl, q2⟩
/-- o.m(..) of a method that may raise, in a try's body -/
def tMethS (C : Addr) (m : Str) (sp : Sp) (E : L2.St → XK) (ta : TE) (t : TA) : TE := fun σ H Q => ta σ H fun x H1 => ∃ a dx fs, x = .ref a ∧ H1 a = some (.ins C dx fs) ∧ fs.lookup m = none ∧
  t σ H1 fun vs H2 => sp (x :: vs) H2 Q (E σ)
/-- a local name that holds a def -/
theorem pe_cl {i : Nat} {f : Addr} (c : C8.CalAt X.prog X.w X.K X.mg X.base k f sp) (hr : Room j X.A) (hk : k ≤ j) (hN : X.N[i]? = some x) (hv : Vis X.env.scope x) (ha : PA X (e :: es) t)
    (hdb : (x == ("__debug__" : Str)) = false := by decide) (hcd : (x == ("__classdict__" : Str)) = false := by decide)
    (he : starEach (e :: es) X.env = (false, eval e X.env) :: starEach es X.env := by rfl) (hpl : (backTo pos (starEach es X.env)).any (·.1) = false := by rfl) : PE X (.Call (.Name x p) (e :: es) [] pos) (tCallL i f sp [] C8.E0 t) := by
  obtain ⟨fd, ps, F, kp, b⟩ := c.ex
  exact pe_callL F (hr.mono hk) hN hv kp b .nil C8.pass0 ha hdb hcd he hpl
end
end BF
namespace BF
open PySem PySem.Spec PyProof.Rows L2
/-! ### errors with one field -/
section
variable {P : Program} {w : World} {K : PySem.W.Frag} {mg : Str → Option Value} {base : Heap}
def spErrInit (C : Addr) (field : Str) : Sp := fun vs H Q _ => ∃ (a : Addr) (v : V), vs = [.ref a, v] ∧ H a = some (exo a C none) ∧ ∀ dx, H dx = none → dx ≠ a → Q .non (upd (upd H dx (exd dx [(field, v)])) a (exo a C (some dx)))
theorem ok_errinit {C f : Addr} {fd : FuncData} {st : Stmt} {qual field pn : Str} {q1 q2 q3 q4 : Pos} (F : C8.Fun K "__init__" qual st f fd) (S : FnScope ["self", pn] ["self", pn] (C8.fnScope st))
    (hb : C8.fnBody st = [.Assign [.Attribute (.Name "self" q1) field q2] (.Name pn q3) q4]) (ox : OexC K C) (nx : PySem.W.findIn K (.ref C) field = some none) (vs1 : (C8.fnScope st).names.lookup pn = some .local) (vs0 : (C8.fnScope st).names.lookup ("self" : Str) = some .local)
    (d1 : (pn == ("__debug__" : Str)) = false) (c1 : (pn == ("__classdict__" : Str)) = false) (sw : ∀ env, swapsWith (.Name pn q3) (some (.Attribute (.Name "self" q1) field q2)) q4.line env = pure false) : FnOk P w K mg base C8.CX0 1 f fd ["self", pn] (spErrInit C field) := by
  refine C8.fn0 F S (fun vs H Q E h => ?_) (fun cdv A outer s H vs Q E hr h => ?_)
  · obtain ⟨a, v, rfl, _⟩ := h
    rfl
  · obtain ⟨a, v, rfl, ha, k⟩ := h
    rw [hb]
    refine ⟨_, pss_one (ps_ost (pe_var (i := 0) rfl (.inl vs0)) (pe_var (i := 1) rfl (.inl vs1) d1 c1) (sw _)), ?_⟩
    exact ⟨v, rfl, _, rfl, a, C, rfl, ox, nx, .inl ⟨ha, fun dx hdx ne => k dx hdx ne⟩⟩
end
section
variable {X : Cx}
/-- X(e), X's __init__ keeping its argument in a field: the exception's own dict d is new -/
def tErr (C : Addr) (field : Str) (ta : TA) : L2.St → Hp → XK → Prop := fun σ H Q => ta σ H fun vs H1 => ∃ v, vs = [v] ∧ ∀ d H', H1 d = none → Same H1 H' → H' d = some (.xd [(field, v)]) → Q (.ref C) (some d) H'
theorem pmk_err {x field pn : Str} {C fI : Addr} {fd : FuncData} {e : Expr} {ta : TA} {p pos : Pos} (T : OexC X.K C) (iC : PySem.W.findIn X.K (.ref C) "__init__" = some (some (.ref fI))) (tI : PySem.W.isFn X.K (.ref fI) = true)
    (F1 : FnOk X.prog X.w X.K X.mg X.base C8.CX0 1 fI fd ["self", pn] (spErrInit C field)) (hr : Room 2 X.A) (hb : Binds X.K fd ["self", pn] []) (hg : Gl X x) (hm : X.mg x = some (.ref C)) (ha : PA X [e] ta)
    (hdb : (x == ("__debug__" : Str)) = false := by decide) (he : starEach (e :: []) X.env = (false, eval e X.env) :: starEach [] X.env := by rfl) (hpl : (backTo pos (starEach [] X.env)).any (·.1) = false := by rfl) :
    PMk X (.Call (.Name x p) [e] [] pos) (tErr C field ta) := by
  intro pins s σ H Q I h
  refine pmk_oex T iC (beq_iff_eq.mp tI) F1 hr hb .nil C8.pass0 hg hm (ta := fun σ H R => ta σ H (fun vs H1 => ∃ v, vs = [v] ∧ ∀ d H', H1 d = none → Same H1 H' → H' d = some (.xd [(field, v)]) → Q (.ref C) (some d) H') ∧
      ∀ vs H1, (∃ v, vs = [v] ∧ ∀ d H', H1 d = none → Same H1 H' → H' d = some (.xd [(field, v)]) → Q (.ref C) (some d) H') → R vs H1) ?_ hdb he hpl pins s σ H Q I ⟨h, ?_⟩
  · exact ⟨fun pos pins s σ H R I h => thn (ha.run pos pins s σ H _ I h.1) fun us s1 ⟨vs, H1, I1, r1, q⟩ => ⟨vs, H1, I1, r1, h.2 _ _ q⟩⟩
  · rintro vs H1 ⟨v, rfl, k⟩
    refine ⟨by show 1 ≤ 1000; decide, fun a na => ⟨a, v, rfl, upd_same, fun dx hdx ne => ⟨rfl, dx, [(field, v)], upd_same, Eq.trans (upd_ne ne) upd_same, ?_, ?_⟩⟩⟩
    · rw [upd_ne ne] at hdx
      exact hdx
    · have hd1 : H1 dx = none := by
        rw [upd_ne ne] at hdx
        exact hdx
      refine k dx _ hd1 (fun b o e => ?_) upd_same
      rw [upd_ne (ne_of_none e hd1), del_ne (ne_of_none e na), upd_ne (ne_of_none e na), upd_ne (ne_of_none e hd1), upd_ne (ne_of_none e na)]
      exact e
end
end BF
set_option Elab.async false
set_option linter.all false
set_option maxRecDepth 100000
set_option maxHeartbeats 4000000
/-! A try whose clauses all bear names: the library has one clause with a name, or several without; here both at once. -/
namespace BF
open PySem PySem.Spec PyProof.Rows L2
abbrev Cls3 := Value × Nat × (Addr → Value → Option Addr → TS)
/-- a suite's ends, the clause's name taken away behind it -/
def Ends.bare (i : Nat) (D : Ends) : Ends := { nx := fun σ H => D.nx (σ.set i none) H, rt := D.rt, bk := fun σ H => D.bk (σ.set i none) H, ct := fun σ H => D.ct (σ.set i none) H }
/-- what named clauses (class, slot, suite) ask of an exception of class cls: the first that fits runs, Wout where none fits -/
def wManyA (K : PySem.W.Frag) (Wout : WX) (D : Ends) : List Cls3 → WX
  | [] => Wout
  | q :: r => fun cls d σ H => ∃ b, PySem.W.exmOne K cls q.1 = some b ∧ (b = true → ∀ a, H a = none → q.2.2 a cls d (Ends.bare q.2.1 D) (σ.set q.2.1 (some (.ref a))) H) ∧ (b = false → wManyA K Wout D r cls d σ H)
/-- clauses and their readings -/
inductive HdsA (X : Cx) : List ExceptHandler → List Cls3 → Prop
  | nil : HdsA X [] []
  | cons {cn nm : Str} {c : Value} {i : Nat} {ts : Addr → Value → Option Addr → TS} {st : Stmt} {sts : List Stmt} {p1 p2 : Pos} {rest : List ExceptHandler} {l : List Cls3} (slot : X.N[i]? = some nm) (loc : X.env.kindOf nm = some .local) (cls : Names X cn c)
      (run : ∀ (a : Addr) (ob : Obj) (k : Value) (d : Option Addr) (pn : List (Addr × Obj)), Zc k d ob → (∃ vs, ob.data = .fields vs) → PSs (X.suite a ((a, ob) :: pn)) (st :: sts) (ts a k d)) (more : HdsA X rest l) :
      HdsA X (.ExceptHandler (some (.Name cn p1)) (some nm) (st :: sts) p2 :: rest) ((c, i, ts) :: l)
/-- an exception at a, of class cls and with the dict d, lies in the heap of s, caught -/
structure Lies (X : Cx) (pins : List (Addr × Obj)) (σ : L2.St) (H : Hp) (B : Heap) (a : Addr) (cls : Value) (d : Option Addr) (s : Shared) : Prop where
  fly : HandSPX.FlyingZ B (X.env :: X.outer) a (Zc cls d) s.heap
  inv : Inv X pins σ H s
  new : H a = none
  back : ∀ g, HandSPX.FlyingZ B (X.env :: X.outer) a (Zc cls d) g → s.heap.UpToSlots g → Inv X pins σ H { s with heap := g }
  out : ∀ W : WX, W cls d σ H → ∀ g, HandSPX.HeldZ B (X.env :: X.outer) a (Zc cls d) X.env.locals g → s.heap.UpToSlots g → XE X W (.ref a) { s with heap := g }
section
variable {X : Cx} {pins : List (Addr × Obj)} {σ : L2.St} {H : Hp} {B : Heap} {a : Addr} {cls : Value} {d : Option Addr} {s : Shared}
/-- the room of a suite that handles it -/
theorem Lies.room (L : Lies X pins σ H B a cls d s) (fr : X.env.frame = some X.env.locals) :
    ∃ ob, s.heap.get? a = some ob ∧ Zc cls d ob ∧ (∃ vs, ob.data = .fields vs) ∧ Inv (X.suite a ((a, ob) :: (X.pn ++ pins))) [] σ H s := by
  obtain ⟨ob, vs, g1, g2, g3⟩ := L.fly.there
  have far : a ∉ frs (X.env :: X.outer) := fun q => by
    obtain ⟨_, o2, g4, bad⟩ := L.fly.2.2.1.mem q
    have : ob = o2 := Option.some.inj (g1.symm.trans g4)
    exact bad _ (this ▸ g3)
  have f1 : a ≠ X.env.locals := fun q => far (List.mem_filterMap.mpr ⟨X.env, .head _, fr.trans (congrArg some q.symm)⟩)
  have f2 : a ∉ X.fs := fun q => far (by
    obtain ⟨e, m, z⟩ := List.mem_filterMap.mp q
    exact List.mem_filterMap.mpr ⟨e, .tail _ m, z⟩)
  exact ⟨ob, g1, g2, ⟨vs, g3⟩, L.inv.suite g1 g3 L.new f1 f2⟩
theorem Lies.on (L : Lies X pins σ H B a cls d s) {g : Heap} (f : HandSPX.FlyingZ B (X.env :: X.outer) a (Zc cls d) g) (u : s.heap.UpToSlots g) : Lies X pins σ H B a cls d { s with heap := g } where
  fly := f
  inv := L.back g f u
  new := L.new
  back := fun g2 f2 u2 => L.back g2 f2 (u.trans u2)
  out := fun W w g2 f2 u2 => L.out W w g2 f2 (u.trans u2)
/-- no clause is left: it goes on, out of the def -/
theorem Lies.pass (L : Lies X pins σ H B a cls d s) (fr : X.env.frame = some X.env.locals) {W : WX} (tk : Takes X W) (w : W cls d σ H) {R : Flow → Shared → Prop} : wpAny (model X.prog X.w) X.A (handleBy (.ref a) X.env []) R X.xe s := by
  have last : wpAny (model X.prog X.w) X.A (setFlight (.ref a) X.env.frame) (fun _ t => wpAny (model X.prog X.w) X.A (throw (.ref a) : Sem Flow) R X.xe t) X.xe s := by
    rw [fr]
    exact HandSPX.setFlight_upZ L.fly fun g held up => wpAny_throw (tk _ _ (L.out W w g held up))
  obtain ⟨_, _, _, ob, fields, tr, trOb, _, atA, _, dat, one, _⟩ := id L.fly
  refine wpAny_handleBy_nil ?_
  unfold PySem.passOn
  refine wpAny_bind (wpAny_field atA dat one ?_)
  have ne : ¬ (Value.ref tr == Value.none) = true := fun q => by simp at q
  simp only [ne, if_false]
  first | exact wpAny_bind last | exact wpAny_bind (wpAny_pure (wpAny_bind last))
/-- the class that a clause names is read in its room -/
theorem Lies.reads (ob : Obj) (room : Inv (X.suite a ((a, ob) :: (X.pn ++ pins))) [] σ H s) {cn : Str} {c : Value} {p : Pos} (names : Names X cn c) {R E : Value → Shared → Prop} (r : R c s) :
    wpAny (model X.prog X.w) (X.A.mark (some (.ref a))) (eval (.Name cn p) X.env) R E s := by
  obtain ⟨glob, plain, known | ⟨unknown, builtin, there⟩⟩ := names
  · exact ld_glob (X := X.suite a ((a, ob) :: (X.pn ++ pins))) room glob known r plain
  · exact ld_blt (X := X.suite a ((a, ob) :: (X.pn ++ pins))) room glob unknown builtin r there plain
/-- behind a suite its name goes -/
theorem unname {D : Ends} {i : Nat} {nm : Str} {p : Pos} {q : Addr × Obj} {f : Flow} {t : Shared} (ok : X.Ok) (nod : X.N.Nodup) (slot : X.N[i]? = some nm) (loc : X.env.kindOf nm = some .local)
    (e : SP (X.suite a (q :: (X.pn ++ pins))) [] (Ends.bare i D) f t) : wpAny (model X.prog X.w) X.A (do bindName X.env nm .none; unbindBehindTheSuite X.env nm p) (fun _ u => SP X pins D f u) X.xe t := by
  have step : ∀ {σ2 : L2.St} {H2 : Hp} {R : Shared → Prop}, Inv (X.suite a (q :: (X.pn ++ pins))) [] σ2 H2 t → (∀ u, Inv X pins (σ2.set i none) H2 u → R u) →
      wpAny (model X.prog X.w) X.A (do bindName X.env nm .none; unbindBehindTheSuite X.env nm p) (fun _ u => R u) X.xe t := fun J r => gone_ok (J.unsuite ok) nod slot loc r
  match f, e with
  | .next, ⟨_, _, J, r⟩ => exact step J fun u K => ⟨_, _, K, r⟩
  | .brk, ⟨_, _, J, r⟩ => exact step J fun u K => ⟨_, _, K, r⟩
  | .cont, ⟨_, _, J, r⟩ => exact step J fun u K => ⟨_, _, K, r⟩
  | .ret v, ⟨_, _, _, J, rv, r⟩ => exact step J fun u K => ⟨_, _, _, K, rv, r⟩
theorem Lies.handled {D : Ends} {Wout : WX} (ok : X.Ok) (nod : X.N.Nodup) (fr : X.env.frame = some X.env.locals) (tk : Takes X Wout) (L : Lies X pins σ H B a cls d s) {hds : List ExceptHandler} {l : List Cls3} (hk : HdsA X hds l) :
    wManyA X.K Wout D l cls d σ H → wpAny (model X.prog X.w) X.A (handleBy (.ref a) X.env hds) (SP X pins D) X.xe s := by
  induction hk with
  | nil => exact fun w => L.pass fr tk w
  | cons slot loc names run _ later =>
    rintro ⟨fits, known, yes, no⟩
    obtain ⟨ob, at1, kind, _, here⟩ := L.room fr
    have isCls : PySem.W.Looks (model X.prog X.w) s.heap (typeOf (.ref a)) cls := fun _ _ _ _ keep r => wpAny_typeOf_ref (keep _ _ at1) (kind.1.symm ▸ r)
    refine wpAny_handleBy_cons (codeAny_handlers_test (Lies.reads ob here names ((PySem.W.exm_one L.inv.kIn isCls known).here ?_))) (fun q => nomatch q)
    cases fits with
    | false => exact later (no rfl)
    | true =>
      refine codeAny_handlers_suite_as (HandSPX.lands_againZ L.fly fun g fly up => ?_)
      have L2 := L.on fly up
      obtain ⟨ob2, _, kind2, rec2, here2⟩ := L2.room fr
      refine store_ok (v := .ref a) (X := X.suite a ((a, ob2) :: (X.pn ++ pins))) here2 nod slot (.inl loc) rfl (fun t here3 => ?_) (.inr loc)
      exact wpAny_mono ((run a ob2 cls d (X.pn ++ pins) kind2 rec2).run [] t _ H _ here3 (yes rfl a L.new)) (fun _ _ e => unname ok nod slot loc e) fun _ _ z => z.elim
end
section
variable {X : Cx} {body : List Stmt} {h₀ : ExceptHandler} {hds : List ExceptHandler} {l : List Cls3} {pos : Pos} {tb : WX → TS} {Wout : WX}
theorem ps_try_manyA (nod : X.N.Nodup) (st : X.stack = X.env :: X.outer) (fr : X.env.frame = some X.env.locals) (tk : Takes X Wout)
    (hb : ∀ (W : WX) (pn : List (Addr × Obj)) (xe : Value → Shared → Prop), Takes (X.tr pn xe) W → PassesOwn (model X.prog X.w) X.A X.env xe → PSs (X.tr pn xe) body (tb W)) (hh : HdsA X (h₀ :: hds) l) :
    PS X (.Try body (h₀ :: hds) [] [] pos) (fun D σ H => tb (wManyA X.K Wout D l) D σ H) := by
  constructor
  intro pins s σ H D I w
  have ok := I.ok
  have frames : X.A.frames = some (X.env :: X.outer) := ok.frames.trans (congrArg some st)
  let E : Value → Shared → Prop := fun e t => wpAny (model X.prog X.w) X.A (noteFrame e X.env) (fun _ t2 => wpAny (model X.prog X.w) X.A (setFlight e none)
    (fun _ t3 => wpAny (model X.prog X.w) X.A (handleBy e X.env (h₀ :: hds)) (SP X pins D) X.xe t3) X.xe t2) X.xe t
  have caught : Takes (X.tr (X.pn ++ pins) E) (wManyA X.K Wout D l) := by
    rintro u t ⟨a, B, t0, pins2, σ2, H2, cls, d, rfl, J, nb, up, sky, new, os, bare, w2⟩
    have J : Inv X pins σ2 H2 t0 := J.ofTry ok
    have sky : Sky B (X.env :: X.outer) a (Zc cls d) X.env.locals t.heap := st ▸ sky
    refine Sky.land Zc.steady frames fr sky fun g fly up2 => ?_
    have inv : ∀ g2, HandSPX.FlyingZ B (X.env :: X.outer) a (Zc cls d) g2 → t.heap.UpToSlots g2 → Inv X pins σ2 H2 { t with heap := g2 } := fun g2 f2 u2 => J.landed nb f2.1 (up.trans u2) os bare
    refine Lies.handled ok nod fr tk (d := d) ⟨fly, inv g fly up2, new, fun g2 f2 u2 => inv g2 f2 (up2.trans u2), fun W w3 g2 held u2 => ?_⟩ hh w2
    exact ⟨a, B, t0, pins, σ2, H2, cls, d, rfl, J, nb, up.trans (up2.trans u2), .inr (.inr (st.symm ▸ held)), new, os, bare, w3⟩
  refine wpAny_Try_except (wpAny_mono ((hb _ (X.pn ++ pins) E caught PassesOwn.looking).run [] s σ H D (I.toTry _) w) (fun f t e => ?_) fun _ _ z => z)
  match f, e with
  | .next, ⟨_, _, J, r⟩ => exact wpAny_execs_nil ⟨_, _, J.ofTry ok, r⟩
  | .brk, ⟨_, _, J, r⟩ => exact ⟨_, _, J.ofTry ok, r⟩
  | .cont, ⟨_, _, J, r⟩ => exact ⟨_, _, J.ofTry ok, r⟩
  | .ret _, ⟨_, _, _, J, rv, r⟩ => exact ⟨_, _, _, J.ofTry ok, rv, r⟩
end
end BF
set_option Elab.async false
set_option linter.all false
set_option maxRecDepth 100000
set_option maxHeartbeats 4000000
namespace BF
open PySem PySem.Spec PyProof.Rows L2
/-! ### methods that may raise -/
section
variable {X : Cx} {k j : Nat} {C f : Addr} {x m : Str} {sp : Sp} {p pos apos : Pos} {e o : Expr} {es : List Expr} {ta : TE} {t : TA} {W : WX}
theorem pe_mtN {pl : Sem Bool} (c : MetX X.prog X.w X.K X.mg X.base k C m sp) (hr : Room j X.A) (hk : k ≤ j) (he : PE X o ta) (ha : PA X (e :: es) t)
    (hst : starEach (e :: es) X.env = (false, eval e X.env) :: starEach es X.env := by rfl) (hpl : (backTo pos (starEach es X.env)).any (·.1) = false := by rfl)
    (ht : eval (.Call (.Attribute o m apos) (e :: es) [] pos) X.env = (do let ov ← eval o X.env; standAt apos.atName; let (f, first) ← holding [ov] (getMethod ov m pl); callWith pos f first (backTo pos (starEach (e :: es) X.env)) (backToKw pos (keywordEach [] X.env))) := by rfl) :
    PE X (.Call (.Attribute o m apos) (e :: es) [] pos) (tMeth C m sp [] (fun _ _ _ => False) ta t) := by
  obtain ⟨f, fd, ps, hc, hm, F, b⟩ := c.ex
  exact pe_meth (pl := pl) he hc hm F (hr.mono hk) b .nil (passN rfl) ha hst hpl ht
theorem pe_mtS {pl : Sem Bool} (c : MetX X.prog X.w X.K X.mg X.base k C m sp) (hr : Room j X.A) (hk : k ≤ j) {E : L2.St → XK} (hx : ∀ σ, PassesAt (L2.CX X.prog X.w) X σ (E σ)) (he : PE X o ta) (ha : PA X (e :: es) t)
    (hst : starEach (e :: es) X.env = (false, eval e X.env) :: starEach es X.env := by rfl) (hpl : (backTo pos (starEach es X.env)).any (·.1) = false := by rfl)
    (ht : eval (.Call (.Attribute o m apos) (e :: es) [] pos) X.env = (do let ov ← eval o X.env; standAt apos.atName; let (f, first) ← holding [ov] (getMethod ov m pl); callWith pos f first (backTo pos (starEach (e :: es) X.env)) (backToKw pos (keywordEach [] X.env))) := by rfl) :
    PE X (.Call (.Attribute o m apos) (e :: es) [] pos) (tMethS C m sp E ta t) := by
  obtain ⟨f, fd, ps, hc, hm, F, b⟩ := c.ex
  refine ⟨fun pins s σ H Q I h => PySem.W.methodCall_KW (pl := pl) (thn (he.run pins s σ H _ I h) fun u s1 ⟨x, H1, I1, rx, a, dx, fs, ex, ea, l, q⟩ => ?_) ht⟩
  subst ex
  cases (show u = Value.ref a from rx)
  refine getmeth_ok I1 ea hc hm l (PySem.W.callWith_K (first := [.ref a]) (h₀ := X.base) I.ok.mod.kin hm.kp (thn (ha.run pos pins s1 σ H1 _ I1 q) fun us s2 ⟨vs, H2, I2, r, q2⟩ => ⟨I2.kIn, ?_⟩) hst hpl)
  exact run_fnS (us := .ref a :: us) (vs := .ref a :: vs) F (hr.mono hk) b (hx σ) I2 (.cons rfl r) q2
end

/-! ### == and != of instances by the class's own __eq__ -/
section
variable {prog : Program} {w : World} {A : Around} {E : Value → Shared → Prop} {s : Shared} {K : PySem.W.Frag} {x C f : Addr} {ox : Obj} {od : Option Obj}
/-- a builtin of the type object, found by the class -/
theorem ifBound_B {M : Model} {name : Str} {id : String} {args : List Value} {Q : Option Value → Shared → Prop} (X : K.In s.heap) (I : PySem.W.InstAt s.heap x ox C od)
    (hs : PySem.W.findIn K (.ref C) name = some (some (.builtin id))) (hb : bindSpecial (.builtin id) (.ref x) = pure (.builtin id, [.ref x]))
    (h : wpAny M A (call (.builtin id) (.ref x :: args)) (fun v => Q (some v)) E s) : wpAny M A (callSpecialIfBound? (.ref x) name args) Q E s := by
  simp only [callSpecialIfBound?, bindSpecialIfBound?]
  refine wpAny_holding (wpAny_bind (wpAny_bind (wpAny_bind (I.type.here ((PySem.W.looks_findIn X hs).here ?_)))))
  refine wpAny_bind (wpAny_askSetting (wpAny_ite ?_))
  have fin : wpAny M A (call (.builtin id) ([.ref x] ++ args) >>= fun v => pure (some v)) Q E s := wpAny_bind (wpAny_mono h (fun v s' h' => wpAny_pure h') fun _ _ h' => h')
  split
  · rw [hb]
    exact wpAny_bind (wpAny_pure (wpAny_pure (by exact fin)))
  · rw [hb]
    exact wpAny_tryCatch (wpAny_bind (wpAny_pure (wpAny_pure (by exact fin))))
end
section
variable {prog : Program} {w : World} {A : Around} {E : Value → Shared → Prop} {s : Shared} {K : PySem.W.Frag} {x C f L : Addr} {ox : Obj} {od : Option Obj} {h₀ : Heap} {m : Str → Option Value} {b : Value}
/-- what the written part says of a class without bases of its own, whose __ne__ is object's -/
structure NeC (K : PySem.W.Frag) (C f : Addr) : Prop where
  ob : ∃ nm q N bs hdct sn sub ab col dd k0 k1 k2 k3 k5 nid, K.lookup C = some (excClassObj nm q C N bs [.type "object"] hdct sn sub ab col dd k0 k1 k2 k3 k5 nid)
  ne : PySem.W.findIn K (.ref C) "__ne__" = some (some (.builtin "object.__ne__"))
  eq : PySem.W.findIn K (.ref C) "__eq__" = some (some (.ref f))
  fn : PySem.W.isFn K (.ref f) = true
def BackNe (Q : Value → Shared → Prop) (v : Value) (s' : Shared) : Prop := ∃ r, v = .bool r ∧ Q (.bool (!r)) s'
theorem ne_body (T : NeC K C f) (X : K.In s.heap) (I : PySem.W.InstAt s.heap x ox C od) (hu : A.units < cLine) {Q : Fin → Shared → Prop}
    (hc : wpAny (model prog w) A (call (.ref f) [.ref x, b]) (BackNe fun v s' => Q (.done (.ret v)) s') E s) :
    wpAny (model prog w) A (Builtin.«object.__ne__» ⟨[.ref x, b], []⟩) Q E s := by
  unfold Builtin.«object.__ne__»
  have step : wpAny (model prog w) A (callSpecialIfBound? (.ref x) (Str.ofString "__eq__") [b]) (fun o s' => ∃ r, o = some (.bool r) ∧ Q (.done (.ret (.bool (!r)))) s') E s :=
    PySem.W.ifBound_K X I T.eq T.fn (wpAny_mono hc (fun v s' hv => by obtain ⟨r, rfl, q⟩ := hv; exact ⟨r, rfl, q⟩) fun _ _ e => e)
  repeat (first
    | with_reducible refine wpAny_cRoomFor hu ?_
    | (refine wpAny_bind (m := callSpecialIfBound? (.ref x) (Str.ofString "__eq__") [b]) (wpAny_mono step (fun o s' ho => by
        obtain ⟨r, rfl, hq⟩ := ho
        repeat (first | exact hq | exact wpAny_pure hq | exact wpAny_truthy_bool hq | (refine wpAny_bind (m := truthy (.bool _)) (wpAny_truthy_bool ?_)) | wp_step)) fun _ _ e => e))
    | wp_step)
theorem ne_try (T : NeC K C f) (X : K.In s.heap) (I : PySem.W.InstAt s.heap x ox C od) (hu : A.units + 1 < cLine) {Q : Option Value → Shared → Prop}
    (hc : wpAny (model prog w) A.in1 (call (.ref f) [.ref x, b]) (BackNe fun v s' => Q (some v) s') E s) : wpAny (model prog w) A (tryCompare (.ref x) "__ne__" b) Q E s := by
  obtain ⟨nm, q, N, bs, hdct, sn, sub, ab, col, dd, k0, k1, k2, k3, k5, nid, hC⟩ := T.ob
  obtain ⟨hp, g, dr, tk, os⟩ := s
  simp only [tryCompare]
  refine wpAny_bind (ifBound_B X I T.ne (by first | rfl | kernel_rfl) (wpAny_call (codeAny_call_builtin PySem.F.cmp_object.ne.plain PySem.F.cmpEntry_ne
    (wpAny_check_slot_inst PySem.F.cmpKind_ne PySem.F.cmpSplit_ne (PySem.F.cmpArgs_ne _ _) PySem.F.cmp_object.hasObject I.at_ I.cls (X _ _ hC)
      (ne_body (A := A.in1) T X I hu (wpAny_mono hc (fun v s' hv => ?_) fun _ _ e => e))))))
  obtain ⟨r, rfl, hq⟩ := hv
  first | exact ⟨r, rfl, wpAny_pure hq⟩ | exact ⟨r, rfl, wpAny_pure (wpAny_pure hq)⟩ | exact ⟨r, rfl, hq⟩
end
end BF
set_option Elab.async false
set_option linter.all false
set_option maxRecDepth 100000
set_option maxHeartbeats 4000000
namespace BF
open PySem PySem.Spec PyProof.Rows L2
section
variable {prog : Program} {w : World} {A : Around} {E : Value → Shared → Prop} {s : Shared} {K : PySem.W.Frag} {x C f L y : Addr} {ox oy : Obj} {od oe : Option Obj}
theorem ne_rich (T : NeC K C f) (X : K.In s.heap) (I : PySem.W.InstAt s.heap x ox C od) (J : PySem.W.InstAt s.heap y oy C oe) (hu : A.units + 1 < cLine) {Q : Value → Shared → Prop}
    (hc : wpAny (model prog w) A.in1 (call (.ref f) [.ref x, .ref y]) (BackNe Q) E s) : wpAny (model prog w) A (richCompare .NotEq (.ref x) (.ref y)) Q E s := by
  unfold richCompare
  simp only [oneThing_ref]
  refine wpAny_holding (wpAny_bind (wpAny_cRoomFor (Nat.lt_of_succ_lt hu) ?_))
  rw [cmpInfo_NotEq]
  dsimp only
  refine wpAny_bind (I.type.here (wpAny_bind (J.type.here ?_)))
  rw [show (Value.ref C != Value.ref C) = false from by simp]
  simp only [Bool.false_eq_true, if_false]
  refine wpAny_bind (wpAny_pure ?_)
  simp only [Bool.false_eq_true, if_false]
  have z : wpAny (model prog w) A (tryCompare (.ref x) "__ne__" (.ref y)) (fun r s' => ∃ v, r = some v ∧ Q v s') E s :=
    ne_try T X I hu (wpAny_mono hc (fun v s' hv => by obtain ⟨r, rfl, hq⟩ := hv; exact ⟨r, rfl, _, rfl, hq⟩) fun _ _ e => e)
  refine wpAny_bind (wpAny_mono z (fun r s' hr => ?_) fun _ _ e => e)
  obtain ⟨v, rfl, hq⟩ := hr
  first | exact wpAny_pure hq | exact wpAny_pure (wpAny_pure hq)
end
section
variable {X : Cx} {n : Nat} {C f : Addr} {fd : FuncData} {ps : List Str} {CX : CXT} {sp : Sp}
/-- x == y, x != y: instances of the class at C; sp: what its __eq__ promises -/
def rEqO (C : Addr) (sp : Sp) (g : Bool → Bool) : R2 := fun x y H Q => ∃ a b dx dy fs gs, x = .ref a ∧ y = .ref b ∧ H a = some (.ins C dx fs) ∧ H b = some (.ins C dy gs) ∧ sp [.ref a, .ref b] H (fun v H' => ∃ r, v = .bl r ∧ Q (.bl (g r)) H') (fun _ _ _ => False)
theorem run_eqO {A : Around} {pins : List (Addr × Obj)} {s : Shared} {σ : L2.St} {H : Hp} {a b : Addr} {Q : VK} {R : Value → Shared → Prop} (F : FnOk X.prog X.w X.K X.mg X.base CX n f fd ps sp) (hb : Binds X.K fd ps []) (hx : Passes CX X (fun _ _ _ => False))
    (hr : Room n A) (hf : A.frames = X.A.frames) (I : Inv X pins σ H s) (h : sp [.ref a, .ref b] H Q (fun _ _ _ => False)) (hR : ∀ v u s' H', Inv X pins σ H' s' → RelV v u → Q v H' → R u s') :
    wpAny (model X.prog X.w) A (call (.ref f) [.ref a, .ref b]) R X.xe s := by
  have e0 : Env0 X.prog X.w X.K X.mg X.base A X.stack s H := by
    have e := I.env0
    exact ⟨by rw [hf]; exact e.frames, e.mod, e.bs, e.bsz, e.funs, e.frf, e.hok, e.bare⟩
  have hl := F.len _ _ _ _ h
  have r2 : Vals [V.ref a, V.ref b] [Value.ref a, Value.ref b] := .cons rfl (.cons rfl .nil)
  have bb := hb s [.ref a, .ref b] I.kIn (by rw [List.append_nil]; exact hl)
  rw [List.append_nil] at bb
  refine wpAny_call (codeAny_mono (F.run A X.stack s H ⟨[.ref a, .ref b], []⟩ [.ref a, .ref b] [.ref a, .ref b] _ _ hr e0 bb r2 h) fun r s' hq => ?_)
  cases r with
  | error e => exact hx pins σ H s e s' I hq
  | ok fl =>
    cases fl with
    | ret u =>
      obtain ⟨v, H', I', rv, q⟩ := I.after hq
      exact hR v u s' H' I' rv q
    | next => exact False.elim hq
    | brk => exact False.elim hq
    | cont => exact False.elim hq
theorem op_eqO (F : FnOk X.prog X.w X.K X.mg X.base CX n f fd ps sp) (hb : Binds X.K fd ps []) (hx : Passes CX X (fun _ _ _ => False)) (T : NeC X.K C f) (hr : Room n X.A) : OpR X (compareOp .Eq) (rEqO C sp id) := by
  intro pins s σ H x y u v Q I rx ry h
  obtain ⟨a, b, dx, dy, fs, gs, rfl, rfl, ha, hb', hs⟩ := h
  cases rx
  cases ry
  obtain ⟨mA, J, _⟩ := ins_get I.hok ha
  obtain ⟨mB, J', _⟩ := ins_get I.hok hb'
  obtain ⟨od, J, _⟩ := J.look
  obtain ⟨od', J', _⟩ := J'.look
  obtain ⟨m, hF⟩ := I.fr
  refine PySem.W.cmp_K (op := .Eq) (tb := .ref C) hr.units0 hF I.ok.mod.kin J J'.type (by simp [PySem.W.notFirst]) T.eq T.fn ?_
  refine run_eqO F hb hx hr rfl I hs fun v u s' H' I' rv q => ?_
  obtain ⟨r, rfl, q⟩ := q
  cases rv
  exact ⟨.bl r, H', I', rfl, q⟩
theorem op_neO (F : FnOk X.prog X.w X.K X.mg X.base CX n f fd ps sp) (hb : Binds X.K fd ps []) (hx : Passes CX X (fun _ _ _ => False)) (T : NeC X.K C f) (hr : Room (n + 1) X.A) : OpR X (compareOp .NotEq) (rEqO C sp not) := by
  intro pins s σ H x y u v Q I rx ry h
  obtain ⟨a, b, dx, dy, fs, gs, rfl, rfl, ha, hb', hs⟩ := h
  cases rx
  cases ry
  obtain ⟨mA, J, _⟩ := ins_get I.hok ha
  obtain ⟨mB, J', _⟩ := ins_get I.hok hb'
  obtain ⟨od, J, _⟩ := J.look
  obtain ⟨od', J', _⟩ := J'.look
  refine ne_rich (s := s) T I.kIn J J' (by have := hr.un; omega) ?_
  refine run_eqO F hb hx hr.in1 rfl I hs fun v u s' H' I' rv q => ?_
  obtain ⟨r, rfl, q⟩ := q
  cases rv
  exact ⟨r, rfl, .bl (!r), H', I', rfl, q⟩
end

/-! ### == and != of dicts whose values are data -/
section
variable {X : Cx}
/-- the dict at a: keys and data -/
def DkD (K : PySem.W.Frag) (H : Hp) (x : V) (ds : List (Key × PyData)) : Prop := ∃ a kvs, x = .ref a ∧ H a = some (.dK kvs) ∧ Paired (fun (p : Key × V) (q : Key × PyData) => p.1 = q.1 ∧ Dp K H p.2 q.2 ∧ SeqAt.shaped q.2 = true) kvs ds
def eqKD (ds es : List (Key × PyData)) : Bool := ds.length == es.length && ds.all fun p => match es.find? fun q => decide (q.1 = p.1) with | some q => PyData.eqv p.2 q.2 | none => false
theorem paired_find {K : PySem.W.Frag} {H : Hp} : ∀ {kvs : List (Key × V)} {ds : List (Key × PyData)} (k : Key), Paired (fun (p : Key × V) (q : Key × PyData) => p.1 = q.1 ∧ Dp K H p.2 q.2 ∧ SeqAt.shaped q.2 = true) kvs ds →
    (valV kvs k = none ∧ ds.find? (fun q => decide (q.1 = k)) = none) ∨ ∃ v q, valV kvs k = some v ∧ ds.find? (fun q => decide (q.1 = k)) = some q ∧ Dp K H v q.2 ∧ SeqAt.shaped q.2 = true
  | _, _, _, .nil => .inl ⟨rfl, rfl⟩
  | (k1, v) :: kvs, (k2, d) :: ds, k, .cons h t => by
    obtain ⟨e, hd, sd⟩ := h
    cases (show k1 = k2 from e)
    by_cases hk : k1 = k
    · exact .inr ⟨v, (k1, d), by simp [valV, hk], by simp [hk], hd, sd⟩
    · have ih := paired_find k t
      rw [show valV ((k1, v) :: kvs) k = valV kvs k from by simp [valV, hk], show ((k1, d) :: ds).find? (fun q => decide (q.1 = k)) = ds.find? (fun q => decide (q.1 = k)) from by simp [hk]]
      exact ih
theorem hits_data {A : Around} {pins : List (Addr × Obj)} {σ : L2.St} {H : Hp} {s : Shared} (I : Inv X pins σ H s) (hu : A.in1.units + 64 < cLine) {ls : List (Key × V)} {es : List (Key × PyData)} {vb : List (Key × Value)} (rb : KV ls vb)
    (pb : Paired (fun (p : Key × V) (q : Key × PyData) => p.1 = q.1 ∧ Dp X.K H p.2 q.2 ∧ SeqAt.shaped q.2 = true) ls es) :
    ∀ {ks : List (Key × V)} {ds : List (Key × PyData)} {va : List (Key × Value)}, KV ks va → Paired (fun (p : Key × V) (q : Key × PyData) => p.1 = q.1 ∧ Dp X.K H p.2 q.2 ∧ SeqAt.shaped q.2 = true) ks ds →
      PySem.W.KeqHits A.in1 s vb va (ds.all fun p => match es.find? fun q => decide (q.1 = p.1) with | some q => PyData.eqv p.2 q.2 | none => false)
  | _, _, _, .nil, .nil => .nil
  | (k1, v) :: ks, (k2, d) :: ds, (k3, u) :: va, .cons r t, .cons p t' => by
    obtain ⟨e, hd, sd⟩ := p
    obtain ⟨e2, ru⟩ := r
    cases (show k1 = k2 from e)
    cases (show k1 = k3 from e2)
    have ih := hits_data (A := A) I hu rb pb t t'
    have rv := rb.val k1
    rcases paired_find k1 pb with ⟨n1, n2⟩ | ⟨v', q, n1, n2, hq, sq⟩
    · rw [n1] at rv
      have hn : valueAt vb k1 = none := by
        cases c : valueAt vb k1 with
        | none => rfl
        | some y => rw [c] at rv; exact False.elim rv
      simp only [List.all_cons, n2, Bool.false_and]
      exact .miss hn
    · rw [n1] at rv
      obtain ⟨y, hy, ry⟩ := rv.some_of
      obtain ⟨as, r1⟩ := Dp.reads I d v u hd ru
      obtain ⟨bs, r2⟩ := Dp.reads I q.2 v' y hq ry
      simp only [List.all_cons, n2]
      exact .hit hy (PySem.W.keq_at r1 r2 sd sq hu) ih
def rEqDD (K : PySem.W.Frag) (g : Bool → Bool) : R2 := fun x y H Q => ∃ ds es, DkD K H x ds ∧ DkD K H y es ∧ Q (.bl (g (eqKD ds es))) H
theorem op_eqDD (hu : X.A.units + 65 < cLine) : OpR X (compareOp .Eq) (rEqDD X.K id) := by
  intro pins s σ H x y v u Q I rx ry h
  obtain ⟨ds, es, ⟨a, ks, rfl, ea, pa⟩, ⟨b, ls, rfl, eb, pb⟩, q⟩ := h
  cases rx
  cases ry
  obtain ⟨_, ya, va, ra, da⟩ := (show ObjOk X.prog X.w H s.heap a (.dK ks) from I.hok a _ ea)
  obtain ⟨_, yb, vb, rb, db⟩ := (show ObjOk X.prog X.w H s.heap b (.dK ls) from I.hok b _ eb)
  have hl : (va.length == vb.length) = (ds.length == es.length) := by rw [← ra.length, ← rb.length, pa.length, pb.length]
  have hu1 : X.A.in1.units + 64 < cLine := by show X.A.units + 1 + 64 < cLine; omega
  exact PySem.W.keq_eq (knd := mixKind X.prog X.w) ya yb da db (by omega) (fun _ => hits_data I hu1 rb pb ra pa) (fin_bl I q (by simp only [id]; unfold eqKD; rw [hl]))
theorem op_neDD (hu : X.A.units + 65 < cLine) : OpR X (compareOp .NotEq) (rEqDD X.K not) := by
  intro pins s σ H x y v u Q I rx ry h
  obtain ⟨ds, es, ⟨a, ks, rfl, ea, pa⟩, ⟨b, ls, rfl, eb, pb⟩, q⟩ := h
  cases rx
  cases ry
  obtain ⟨_, ya, va, ra, da⟩ := (show ObjOk X.prog X.w H s.heap a (.dK ks) from I.hok a _ ea)
  obtain ⟨_, yb, vb, rb, db⟩ := (show ObjOk X.prog X.w H s.heap b (.dK ls) from I.hok b _ eb)
  have hl : (va.length == vb.length) = (ds.length == es.length) := by rw [← ra.length, ← rb.length, pa.length, pb.length]
  have hu1 : X.A.in1.units + 64 < cLine := by show X.A.units + 1 + 64 < cLine; omega
  exact PySem.W.keq_ne (knd := mixKind X.prog X.w) ya yb da db (by omega) (fun _ => hits_data I hu1 rb pb ra pa) (fin_bl I q (by unfold eqKD; rw [hl]))
end
end BF
set_option Elab.async false
set_option linter.all false
set_option maxRecDepth 100000
set_option maxHeartbeats 4000000
namespace BF
open PySem PySem.Spec PyProof.Rows L2
section
variable {X : Cx}
/-- sorted(a tuple of texts) -/
def rSortT (K : PySem.W.Frag) : List V → Hp → VK → Prop := fun vs H Q => ∃ (a : Addr) (ks : List Str), vs = [.ref a] ∧ SqT K H a (ks.map V.str) ∧ ks.length < 64 ∧
  ∀ (ys : List Str) (p : Addr), ys.Perm ks → sortedS ys = true → H p = none → Q (.ref p) (upd H p (.lst (ys.map V.str)))
theorem cr_sortedTS : CallR X (.builtin "sorted") (rSortT X.K) := by
  intro pins s σ H xs us Q I r h
  obtain ⟨a, ks, rfl, hT, h64, q⟩ := h
  rw [Vals.ref1 r]
  obtain ⟨its, rv, pl, hz⟩ := I.tuple hT
  obtain ⟨o, ho, hc, n, hd⟩ := pl
  have hlen : its.length = ks.length := by rw [← rv.length, List.length_map]
  have hS : StrsAre its ks := rv.strs
  have h16 : its.length ≤ sizeLine := by rw [hlen, sizeLine_eq]; omega
  refine Calls.call_function_entry PyProof.Rows.kind_sorted PyProof.Rows.plain_sorted PyProof.Rows.entry_sorted (PyProof.Rows.args_sorted1 _) ?_
  unfold Builtin.«sorted»
  refine wpAny_bind (m := checkCount "sorted" 1 1 _) (wpAny_pure ?_)
  refine wpAny_bind (wpAny_collect_seq a (.inr rfl) ho hc hd (fun h' kp => ?_) (by rw [List.size_toArray]; exact h16))
  have I1 : Inv X pins σ H { s with heap := h' } := I.kept (t' := s.toks) kp
  have hS' : StrsAre its.toArray.toList ks := by simpa using hS
  have hl' : its.toArray.toList.length = ks.length := by simpa using hlen
  refine wpAny_bind (wpAny_newList ?_ (by rw [hl', sizeLine_eq]; omega))
  have hoL : (h'.push (seqObj "list" its.toArray.toList.toArray 0)).get? h'.objs.size = some (seqObj "list" its.toArray.toList.toArray 0) := Heap.get?_push_size _ rfl
  show wpAny _ _ _ _ _ { s with heap := h'.push (seqObj "list" its.toArray.toList.toArray 0) }
  refine wpAny_bind (wpAny_holding (wpAny_call_entry PyProof.Rows.slot_list_sort ⟨_, hoL, rfl⟩ PyProof.Rows.entry_list_sort (list_sort_treeK strKind_oneLt hoL hS'.keysOf (fun v₁ v₂ rest e => keyKind_strs (by rw [← e]; exact hS')) (by rw [hl']; exact h64) fun st' hp hs => ⟨_, rfl, ?_⟩) (PyProof.Rows.args_list_sort _)))
  obtain ⟨ys, g1, g2, g3⟩ := sorted_out_str hS' hp hs
  obtain ⟨ep, hep⟩ := PyProof.Rows.sortedHeap_at (vs := its.toArray.toList) (out := (arrOf st').map (·.2)) hoL
  have hfit : (ys.map V.str).length ≤ sizeLine := by
    rw [List.length_map, g2.length_eq, sizeLine_eq]
    omega
  have old : ∀ b u, h'.get? b = some u → (sortedHeap (h'.push (seqObj "list" its.toArray.toList.toArray 0)) h'.objs.size its.toArray.toList ((arrOf st').map (·.2))).get? b = some u := fun b u e => by
    have hb : b < h'.objs.size := Heap.lt_size e
    rw [PyProof.Rows.sortedHeap_old (Nat.ne_of_lt hb) (by rw [size_push']; exact Nat.lt_succ_of_lt hb)]
    exact Heap.get?_push_of_some _ e
  exact wpAny_pure ⟨_, rfl, .ref h'.objs.size, _, I1.laid (t' := s.toks) old (Nat.le_refl _) (show ObjOk X.prog X.w _ _ _ (.lst (ys.map V.str)) from ⟨hfit, ((arrOf st').map (·.2)).toList, ep, vals_of_strs g1, by rw [Array.toArray_toList]; exact hep⟩), rfl, q ys _ g2 g3 (I1.hok.fresh (Nat.le_refl _))⟩
end
end BF
set_option Elab.async false
set_option linter.all false
set_option maxRecDepth 100000
set_option maxHeartbeats 4000000
namespace BF
open PySem PySem.Spec PyProof.Rows L2
section
variable {prog : Program} {w : World} {A : Around} {E : Value → Shared → Prop} {s : Shared}
/-- t[::-1] of a pair -/
theorem rev_pair {t sl : Addr} {u v : Value} {tk : Tok} {Q : Value → Shared → Prop} (ht : IsTup s.heap t #[u, v]) (hs : s.heap.IsSliceOf sl .none .none (.int (-1) tk))
    (h : Q (.ref s.heap.objs.size) { s with heap := s.heap.push { cls := .type "tuple", data := .seq #[v, u] } }) : wpAny (model prog w) A (getItem (.ref t) (.ref sl)) Q E s := by
  obtain ⟨os, hos, hcs, hds⟩ := id hs
  have hTs : s.TypeIs (.ref sl) "slice" := ⟨os, hos, hcs⟩
  have run : ∀ {Q : Int × Int × Nat → Shared → Prop} {E : Value → Shared → Prop}, Q (1, -1, 2) s → wpAny (model prog w) A.in1 (Builtin.Slice.sliceApplied (.ref sl) (pure (2 : Int))) Q E s := fun {Q E} q => by
    unfold Builtin.Slice.sliceApplied Builtin.Slice.sliceFields
    refine wpAny_bind (wpAny_bind (wpAny_field hos hds (x := .none) rfl (wpAny_bind (wpAny_field hos hds (x := .none) rfl (wpAny_bind (wpAny_field hos hds (x := .int (-1) tk) rfl (wpAny_pure ?_)))))))
    refine wpAny_bind (slicePart_int ?_)
    show wpAny _ _ (if ((-1 : Int) == 0) = true then _ else _) _ _ s
    rw [if_neg (by decide)]
    exact wpAny_bind (slicePart_none (wpAny_bind (slicePart_none (wpAny_bind (wpAny_pure (wpAny_pure q))))))
  have big : sizeOk (.seq #[v, u]) := by
    show 2 ≤ sizeLine
    rw [sizeLine_eq]
    omega
  unfold getItem
  try with_reducible refine wpAny_holding ?_
  first | refine wpAny_bind (wpAny_pure ?_) | skip
  refine wpAny_bind (wpAny_sequenceKey ht.typeIs (by decide) ?_)
  refine wpAny_bind (wpAny_callSpecial?_slot (name := Str.ofString "__getitem__") ht.typeIs PyProof.Rows.slot_tuple_getitem
    (wpAny_call_entry PyProof.Rows.slot_tuple_getitem ht.typeIs entry_tuple_getitem ?_ (args_tuple_getitem _ _)))
  refine wpAny_bind (m := Builtin.Tuple.tupleItemsOf (.ref t)) (tupleItemsOf_ ht ?_)
  refine wpAny_bind (wpAny_typeOf hTs ?_)
  rw [if_pos (by decide)]
  refine wpAny_bind (run ?_)
  show wpAny _ _ (if ((1 : Int) == 0 && (-1 : Int) == 1 && 2 == 2) = true then _ else _) _ _ s
  rw [if_neg (by decide)]
  have e : ((List.range 2).filterMap fun (k : Nat) => (#[u, v] : Array Value)[((1 : Int) + (k : Int) * (-1)).toNat]?).toArray = #[v, u] := by rfl
  rw [e]
  first
    | exact wpAny_bind (m := Builtin.Tuple.tupleExact _) (wpAny_newObj_type (wpAny_pure ⟨_, rfl, wpAny_pure h⟩) big)
    | exact wpAny_bind (m := Builtin.Tuple.tupleExact _) (wpAny_newObj_type (wpAny_bind (wpAny_pure (wpAny_pure ⟨_, rfl, wpAny_pure h⟩))) big)
    | exact wpAny_bind (wpAny_bind (m := Builtin.Tuple.tupleExact _) (wpAny_newObj_type (wpAny_pure (wpAny_pure ⟨_, rfl, wpAny_pure h⟩)) big))
end
section
variable {X : Cx}
def tRevT (K : PySem.W.Frag) (te : TE) : TE := fun σ H Q => te σ H fun x H1 => ∃ a y z, x = .ref a ∧ SqT K H1 a [y, z] ∧ ∀ p, H1 p = none → Q (.ref p) (upd H1 p (.tup [z, y]))
theorem pe_revT {e : Expr} {te : TE} {k : Nat} {p1 p2 p3 pos : Pos} (he : PE X e te) : PE X (.Subscript e (.Slice none none (some (.UnaryOp .USub (.Constant (.int 1) k p1) p2)) p3) pos) (tRevT X.K te) := by
  refine ⟨fun pins s σ H Q I h => Subscript_ (thn (he.run pins s σ H _ I h) fun v s1 ⟨x, H1, I1, r1, a, y, z, ex, hx, q⟩ => ?_)⟩
  subst ex
  cases r1
  have step : PO X (some (.UnaryOp .USub (.Constant (.int 1) k p1) p2)) (tPart (tUn (rU fun i => .int (-i)) (tC (.int 1)))) := po_some (pe_un un_neg pe_int)
  refine wpAny_Slice (thn (po_none.run pins s1 σ H1 (fun o H2 => o = none ∧ H2 = H1) I1 ⟨rfl, rfl⟩) fun vl s2 ⟨l, H2, I2, pl, el, e2⟩ => ?_)
  subst el e2
  refine thn (po_none.run pins s2 σ H2 (fun o H3 => o = none ∧ H3 = H2) I2 ⟨rfl, rfl⟩) fun vu s3 ⟨u, H3, I3, pu, eu, e3⟩ => ?_
  subst eu e3
  refine thn (step.run pins s3 σ H3 (fun o H4 => o = some (-1) ∧ H4 = H3) I3 ⟨1, rfl, -1, rfl, rfl, rfl⟩) fun vs s4 ⟨o, H4, I4, ps, eo, e4⟩ => ?_
  subst eo e4
  cases pl
  cases pu
  cases ps with
  | int i tk =>
    have I5 : Inv X pins σ H4 { s4 with heap := s4.heap.push { cls := .type "slice", data := .fields #[.none, .none, .int (-1) tk] } } := I4.kept (t' := s4.toks) fun b ob q => Heap.get?_push_of_some _ q
    obtain ⟨its, r, ht, hz⟩ := I5.tuple hx
    cases r with
    | cons ry r =>
      cases r with
      | cons rz r =>
        cases r
        refine tail_any (ops := [.ref a, .ref s4.heap.objs.size]) ht.typeIs (PyProof.Rows.slot_tuple_getitem.lookup) ?_ (by with_unfolding_all rfl)
        refine rev_pair ht (Heap.IsSliceOf.new _ _ _ _) ⟨.ref _, _, I5.laid (t' := s4.toks) (o := .tup [z, y]) (fun b ob q => Heap.get?_push_of_some _ q) (Nat.le_refl _) ?_, rfl, q _ (I5.hok.fresh (Nat.le_refl _))⟩
        exact ⟨by show 2 ≤ sizeLine; rw [sizeLine_eq]; omega, _, .cons rz (.cons ry .nil), IsTup.new _ _⟩
end
end BF
set_option Elab.async false
set_option linter.all false
set_option maxRecDepth 100000
set_option maxHeartbeats 4000000
namespace BF
open PySem PySem.Spec PyProof.Rows L2
/-! ### rules that name the written part: K is said, so that they serve within comprehensions -/
section
variable {X : Cx}
theorem in_seqK (K : PySem.W.Frag) (h : X.K = K := by rfl) : OpR X (compareOp .In) (rIn K false) := by
  subst h
  exact op_in_seq
theorem notIn_seqK (K : PySem.W.Frag) (h : X.K = K := by rfl) : OpR X (compareOp .NotIn) (rIn K true) := by
  subst h
  exact op_notIn_seq
theorem isiK (K : PySem.W.Frag) (h : X.K = K := by rfl) : CallR X (.builtin "isinstance") (rIsi K) := by
  subst h
  exact call_isi
theorem lenK (K : PySem.W.Frag) (h : X.K = K := by rfl) : CallR X (.builtin "len") (fun xs H Q => ∃ x n, xs = [x] ∧ LenV K x H n ∧ Q (.int (n : Nat)) H) := by
  subst h
  exact call_len
theorem allK (K : PySem.W.Frag) (hc : X.calm = true) (h : X.K = K := by rfl) : CallR X (.builtin "all") (rAll K) := by
  subst h
  exact cr_all hc
theorem anyK (K : PySem.W.Frag) (hc : X.calm = true) (h : X.K = K := by rfl) : CallR X (.builtin "any") (rAny K) := by
  subst h
  exact cr_any hc
theorem sortedSK (K : PySem.W.Frag) (h : X.K = K := by rfl) : CallR X (.builtin "sorted") (rSortedS K) := by
  subst h
  exact cr_sortedS
theorem sortedTK (K : PySem.W.Frag) (h : X.K = K := by rfl) : CallR X (.builtin "sorted") (rSortT K) := by
  subst h
  exact cr_sortedTS
theorem listK (K : PySem.W.Frag) (h : X.K = K := by rfl) : CallR X (.type "list") (fun xs H Q => ∃ p ys, xs = [.ref p] ∧ (SqL K H p ys ∨ SqT K H p ys) ∧ ∀ l, H l = none → Q (.ref l) (upd H l (.lst ys))) := by
  subst h
  exact call_list_of
theorem tupleK (K : PySem.W.Frag) (h : X.K = K := by rfl) : CallR X (.type "tuple") (fun xs H Q => ∃ p ys, xs = [.ref p] ∧ ((SqL K H p ys ∧ ∀ l, H l = none → Q (.ref l) (upd H l (.tup ys))) ∨ (SqT K H p ys ∧ Q (.ref p) H))) := by
  subst h
  exact call_tuple_of
theorem dictPK (K : PySem.W.Frag) (hc : X.calm = true) (h : X.K = K := by rfl) : CallR X (.type "dict") (fun xs H Q => ∃ (a : Addr) (ps : List Addr) (kvs : List (Key × V)), xs = [.ref a] ∧ SqL K H a (ps.map V.ref) ∧
    Paired (fun p kv => SqT K H p [kV kv.1, kv.2]) ps kvs ∧ ∀ p, H p = none → Q (.ref p) (upd H p (.dK (mergeK [] kvs)))) := by
  subst h
  exact call_dictP hc
theorem ixLK (K : PySem.W.Frag) (h : X.K = K := by rfl) : IxR X (rIxL K) := by
  subst h
  exact ix_list
theorem ixTK (K : PySem.W.Frag) (h : X.K = K := by rfl) : IxR X (rIxT K) := by
  subst h
  exact ix_tup
theorem ixQK (K : PySem.W.Frag) (h : X.K = K := by rfl) : IxR X (rIx K) := by
  subst h
  exact ix_seq
theorem slLK (K : PySem.W.Frag) (h : X.K = K := by rfl) : SlR X (rSlL K) := by
  subst h
  exact sl_list
theorem slTK (K : PySem.W.Frag) (h : X.K = K := by rfl) : SlR X (rSlA K) := by
  subst h
  exact sl_tupA
theorem catTK (K : PySem.W.Frag) (h : X.K = K := by rfl) : OpR X (binaryOp .Add) (rCatA K) := by
  subst h
  exact op_catA
theorem eqDK {k : Nat} (K : PySem.W.Frag) (hr : Room k X.A) (h : X.K = K := by rfl) : OpR X (compareOp .Eq) (rEqD K) := by
  subst h
  exact op_eqD hr.units
theorem neDK {k : Nat} (K : PySem.W.Frag) (hr : Room k X.A) (h : X.K = K := by rfl) : OpR X (compareOp .NotEq) (rNeD K) := by
  subst h
  exact op_neD hr.units
theorem eqDDK {k : Nat} (K : PySem.W.Frag) (hr : Room k X.A) (h : X.K = K := by rfl) : OpR X (compareOp .Eq) (rEqDD K id) := by
  subst h
  exact op_eqDD (by have := hr.un; omega)
theorem neDDK {k : Nat} (K : PySem.W.Frag) (hr : Room k X.A) (h : X.K = K := by rfl) : OpR X (compareOp .NotEq) (rEqDD K not) := by
  subst h
  exact op_neDD (by have := hr.un; omega)
theorem pe_fldK (K : PySem.W.Frag) {e : Expr} {ta : TE} {f : Str} {pos : Pos} (he : PE X e ta) (hb : attributeBase e f X.env (eval e X.env) = eval e X.env) (h : X.K = K := by rfl) : PE X (.Attribute e f pos) (tFld K ta f) := by
  subst h
  exact pe_fld he hb
theorem pe_revTK (K : PySem.W.Frag) {e : Expr} {te : TE} {k : Nat} {p1 p2 p3 pos : Pos} (he : PE X e te) (h : X.K = K := by rfl) : PE X (.Subscript e (.Slice none none (some (.UnaryOp .USub (.Constant (.int 1) k p1) p2)) p3) pos) (tRevT K te) := by
  subst h
  exact pe_revT he
theorem pi_listK (K : PySem.W.Frag) {tg l : Expr} {tl : TE} (hl : PE X l tl) (h : X.K = K := by rfl) : PI X tg l (iList K tl) := by
  subst h
  exact pi_list hl
end
end BF
set_option Elab.async false
set_option linter.all false
set_option maxRecDepth 100000
set_option maxHeartbeats 4000000
namespace BF
open PySem PySem.Spec PyProof.Rows L2
/-! ### the same rules, the name's binding asked last: in a try's body the context is known late -/
section
variable {X : Cx} {k j : Nat} {C f : Addr} {x m : Str} {sp : Sp} {p pos apos : Pos} {e o : Expr} {es : List Expr} {ta : TE} {t : TA} {W : WX}
theorem pe_cS2 (c : CalX X.prog X.w X.K X.mg X.base k x sp) (hr : Room j X.A) (hk : k ≤ j) {E : L2.St → XK} (hx : ∀ σ, PassesAt (L2.CX X.prog X.w) X σ (E σ)) (ha : PA X (e :: es) t) (hg : Gl X x := by rfl)
    (hdb : (x == ("__debug__" : Str)) = false := by decide) (he : starEach (e :: es) X.env = (false, eval e X.env) :: starEach es X.env := by rfl) (hpl : (backTo pos (starEach es X.env)).any (·.1) = false := by rfl) :
    PE X (.Call (.Name x p) (e :: es) [] pos) (tCallS sp E t) := pe_cS c hr hk hg hx ha hdb he hpl
theorem pe_mkS2 (c : MakX X.prog X.w X.K X.mg X.base k x C sp) (hr : Room j X.A) (hk : k + 1 ≤ j) {E : L2.St → XK} (hx : ∀ σ, PassesAt (L2.CX X.prog X.w) X σ (E σ)) (ha : PA X (e :: es) t) (hg : Gl X x := by rfl)
    (hdb : (x == ("__debug__" : Str)) = false := by decide) (he : starEach (e :: es) X.env = (false, eval e X.env) :: starEach es X.env := by rfl) (hpl : (backTo pos (starEach es X.env)).any (·.1) = false := by rfl) :
    PE X (.Call (.Name x p) (e :: es) [] pos) (tMakeS C sp E t) := pe_mkS c hr hk hg hx ha hdb he hpl
end
end BF
set_option Elab.async false
set_option linter.all false
set_option maxRecDepth 100000
set_option maxHeartbeats 4000000
namespace BF
open PySem PySem.Spec PyProof.Rows L2
/-! ### the well: a list of three ints that draws change -/
def isW : HO → Bool
  | .lst [.int _, .int _, .int _] => true
  | _ => false
def WellAt (H : Hp) (w : Addr) : Prop := ∃ a b c : Int, H w = some (.lst [.int a, .int b, .int c])
/-- all but the well stands, the well is a well still -/
structure Kp (w : Addr) (H H' : Hp) : Prop where
  keep : ∀ b o, b ≠ w → H b = some o → H' b = some o
  well : WellAt H w → WellAt H' w
theorem WellAt.ne {H : Hp} {w p : Addr} (h : WellAt H w) (hp : H p = none) : p ≠ w := fun e => by
  obtain ⟨a, b, c, q⟩ := h
  rw [e, q] at hp
  cases hp
theorem WellAt.neo {H : Hp} {w p : Addr} {o : HO} (h : WellAt H w) (hp : H p = some o) (ho : isW o = false) : p ≠ w := fun e => by
  obtain ⟨a, b, c, q⟩ := h
  rw [e, q] at hp
  cases hp
  exact absurd ho (by simp [isW])
theorem Kp.refl (w : Addr) (H : Hp) : Kp w H H := ⟨fun _ _ _ h => h, id⟩
theorem Kp.trans {w : Addr} {H H1 H2 : Hp} (a : Kp w H H1) (b : Kp w H1 H2) : Kp w H H2 := ⟨fun c o n h => b.keep c o n (a.keep c o n h), fun h => b.well (a.well h)⟩
theorem Kp.same {w : Addr} {H H' : Hp} (s : Same H H') : Kp w H H' := ⟨fun c o _ h => s c o h, fun ⟨a, b, c, h⟩ => ⟨a, b, c, s _ _ h⟩⟩
theorem Kp.get {w : Addr} {H H' : Hp} (k : Kp w H H') (hw : WellAt H w) {p : Addr} {o : HO} (h : H p = some o) (ho : isW o = false := by rfl) : H' p = some o := k.keep p o (hw.neo h ho) h
theorem Kp.free {w : Addr} {H H' : Hp} (k : Kp w H H') (hw : WellAt H w) {p : Addr} (h : H' p = none) : H p = none := by
  have ne : p ≠ w := (k.well hw).ne h
  cases e : H p with
  | none => rfl
  | some o => rw [k.keep p o ne e] at h; cases h
/-- something new is laid -/
theorem Same.new {H : Hp} {p : Addr} {o : HO} (h : H p = none) : Same H (upd H p o) := fun b u e => by rw [upd_ne (ne_of_none e h)]; exact e
/-- what was laid since H is changed -/
theorem Same.put {H H1 : Hp} {p : Addr} {o : HO} (s : Same H H1) (h : H p = none) : Same H (upd H1 p o) := fun b u e => by rw [upd_ne (ne_of_none e h)]; exact s b u e
theorem Kp.put {w : Addr} {H H1 : Hp} {p : Addr} {o : HO} (k : Kp w H H1) (hw : WellAt H w) (h : H p = none) : Kp w H (upd H1 p o) :=
  have ne : p ≠ w := hw.ne h
  ⟨fun b u n e => by rw [upd_ne (ne_of_none e h)]; exact k.keep b u n e, fun q => by
    obtain ⟨a, b, c, z⟩ := k.well q
    exact ⟨a, b, c, by rw [upd_ne ne.symm]; exact z⟩⟩
theorem Kp.set {w : Addr} {H : Hp} {a b c : Int} : Kp w H (upd H w (.lst [.int a, .int b, .int c])) := ⟨fun p o n e => by rw [upd_ne n]; exact e, fun _ => ⟨a, b, c, upd_same⟩⟩
theorem WellAt.put {H : Hp} {w p : Addr} {o : HO} (h : WellAt H w) (ne : p ≠ w) : WellAt (upd H p o) w := by
  obtain ⟨a, b, c, z⟩ := h
  exact ⟨a, b, c, by rw [upd_ne ne.symm]; exact z⟩
theorem WellAt.same {H H' : Hp} {w : Addr} (h : WellAt H w) (s : Same H H') : WellAt H' w := by
  obtain ⟨a, b, c, z⟩ := h
  exact ⟨a, b, c, s _ _ z⟩
theorem isW_strs (xs : List Str) : isW (.lst (xs.map V.str)) = false := by
  match xs with
  | [] => rfl
  | [a] => rfl
  | [a, b] => rfl
  | [a, b, c] => rfl
  | a :: b :: c :: d :: r => rfl
/-! ### promises of the law's drawing -/
def spSource : Sp := fun vs H Q _ => ∃ c : Int, vs = [.int c] ∧ ∀ p H', H p = none → Same H H' → WellAt H' p → Q (.ref p) H'
def spDraw : Sp := fun vs H Q _ => ∃ (w : Addr) (m : Int), vs = [.ref w, .int m] ∧ WellAt H w ∧ 1 ≤ m ∧ m < 1073741824 ∧ ∀ n H', 0 ≤ n → n < m → Kp w H H' → Q (.int n) H'
/-- from a list that stands still, or a text -/
def spPick : Sp := fun vs H Q _ => ∃ (w : Addr) (x : V), vs = [.ref w, x] ∧ WellAt H w ∧
  ((∃ a xs, x = .ref a ∧ H a = some (.lst xs) ∧ isW (.lst xs) = false ∧ xs ≠ [] ∧ xs.length < 1000 ∧ ∀ v H', v ∈ xs → Kp w H H' → Q v H') ∨
   (∃ z : Str, x = .str z ∧ 1 ≤ z.length ∧ z.length < 1000 ∧ ∀ c H', c ∈ z.cps.toList → Kp w H H' → Q (.str ⟨#[c]⟩) H'))
theorem atI_of {xs : List V} {n : Int} (h0 : 0 ≤ n) (h : n.toNat < xs.length) : atI xs n = some xs[n.toNat] := by
  have q : atI xs ((n.toNat : Nat) : Int) = some xs[n.toNat] := atI_nat (by simp)
  rw [Int.toNat_of_nonneg h0] at q
  exact q
theorem atN_of {xs : List Nat} {n : Int} (h0 : 0 ≤ n) (h : n.toNat < xs.length) : atI xs n = some xs[n.toNat] := by
  have q : atI xs ((n.toNat : Nat) : Int) = some xs[n.toNat] := atI_nat (by simp)
  rw [Int.toNat_of_nonneg h0] at q
  exact q
/-! ### names -/
def isLow (c : Nat) : Bool := decide (97 ≤ c) && decide (c ≤ 122)
def isNm (x : Str) : Bool := decide (1 ≤ x.length) && decide (x.length ≤ 8) && x.cps.toList.all isLow
def letters : Str := "abcdefghijklmnopqrstuvwxyz"
theorem letters_list : letters.cps.toList = List.range' 97 26 := by decide +kernel
theorem letters_mem (c : Nat) : c ∈ letters.cps.toList ↔ isLow c = true := by
  rw [letters_list, List.mem_range']
  unfold isLow
  simp only [Bool.and_eq_true, decide_eq_true_eq]
  constructor
  · rintro ⟨i, h1, h2⟩
    omega
  · intro ⟨h1, h2⟩
    exact ⟨c - 97, by omega, by omega⟩
theorem letters_len : letters.length = 26 := by decide +kernel
theorem joinL_nil (cs : List Nat) : TL.joinL [] (cs.map fun c => [c]) = cs := by
  match cs with
  | [] => rfl
  | [c] => rfl
  | c :: d :: r =>
    have ih := joinL_nil (d :: r)
    show [c] ++ ([] ++ TL.joinL [] (([d] : List Nat) :: r.map fun c => [c])) = c :: d :: r
    have e : TL.joinL [] (([d] : List Nat) :: r.map fun c => [c]) = d :: r := ih
    rw [e]
    rfl
theorem bf_join (cs : List Nat) : Txt.join (Str.ofString "") ((cs.map fun c => [c]).map SX.S) = SX.S cs := by
  have e : Str.ofString "" = SX.S [] := by decide +kernel
  rw [e, SX.join_S, joinL_nil]
theorem slice_8 {cs : List Nat} (h : cs.length ≤ 8) : Txt.slice (SX.S cs) none (some 8) = SX.S cs := by
  rw [SX.slice_to (by omega)]
  congr 1
  exact List.take_of_length_le (by show cs.length ≤ 8; exact h)
theorem bf_sum (cs : List Nat) : (((cs.map fun c => [c]).map SX.S).map (·.length)).sum = cs.length := by
  rw [SX.lens]
  induction cs with
  | nil => rfl
  | cons c r ih =>
    simp only [List.map_cons, List.sum_cons, ih, List.length_cons, List.length_nil]
    omega
theorem flat_strs (xs : List Str) : (xs.map V.str).all flatV = true := by
  rw [List.all_eq_true]
  intro x hx
  obtain ⟨y, _, rfl⟩ := List.mem_map.mp hx
  rfl
/-- a short word: at most seven of the letters, one at least, not six -/
def Short (x : Str) : Prop := isNm x = true ∧ x.length ≤ 7 ∧ x.length ≠ 6
theorem short_of {cs : List Nat} (h1 : 1 ≤ cs.length) (h2 : cs.length ≤ 7) (h6 : cs.length ≠ 6) (h3 : ∀ c ∈ cs, isLow c = true) : Short (SX.S cs) := by
  have e : (SX.S cs).cps.toList = cs := rfl
  refine ⟨?_, by rw [SX.S_len]; exact ⟨h2, h6⟩⟩
  unfold isNm
  rw [SX.S_len, e]
  simp only [Bool.and_eq_true, decide_eq_true_eq, List.all_eq_true]
  exact ⟨⟨h1, by omega⟩, h3⟩
/-- the join of single letters, cut at 8 -/
theorem word_of {cs : List Nat} (h2 : cs.length ≤ 7) : Txt.slice (Txt.join (SX.S []) ((cs.map fun c => [c]).map SX.S)) none (some 8) = SX.S cs := by
  rw [SX.join_S, joinL_nil, SX.slice_to (by omega)]
  congr 1
  exact List.take_of_length_le (by show cs.length ≤ 8; omega)
def spNames : Sp := fun vs H Q _ => ∃ (w : Addr) (m : Int), vs = [.ref w, .int m] ∧ WellAt H w ∧ 0 ≤ m ∧ m ≤ 1000 ∧
  ∀ p (xs : List Str) H', H p = none → Kp w H H' → H' p = some (.lst (xs.map V.str)) → (xs.length : Int) = m → (∀ x ∈ xs, Short x) → Q (.ref p) H'
/-- of a list that stands still, or of a dict's keys -/
def spShuffled : Sp := fun vs H Q _ => ∃ (w a : Addr) (xs : List V), vs = [.ref w, .ref a] ∧ WellAt H w ∧ H a = some (.lst xs) ∧ isW (.lst xs) = false ∧ xs.length ≤ 1000 ∧
  ∀ p ys H', H p = none → Kp w H H' → H' p = some (.lst ys) → ys.Perm xs → Q (.ref p) H'
def spShuffledD : Sp := fun vs H Q _ => ∃ (w a : Addr) (kvs : List (Key × V)), vs = [.ref w, .ref a] ∧ WellAt H w ∧ H a = some (.dK kvs) ∧ kvs.length ≤ 1000 ∧
  ∀ p ys H', H p = none → Kp w H H' → H' p = some (.lst ys) → ys.Perm (kvs.map fun kv => kV kv.1) → Q (.ref p) H'
def spIsName : Sp := fun vs H Q _ => ∃ x : Str, vs = [.str x] ∧ x.length ≤ 1000 ∧ ∀ H', Same H H' → Q (.bl (isNm x)) H'
theorem in_letters (c : Nat) : decide (c ∈ (Str.ofString "abcdefghijklmnopqrstuvwxyz").cps.toList) = isLow c := by
  cases e : isLow c with
  | true => exact decide_eq_true ((letters_mem c).mpr e)
  | false => exact decide_eq_false fun h => by rw [(letters_mem c).mp h] at e; cases e
theorem one_lt (a b : Nat) : (([a] : List Nat) < [b]) ↔ a < b := by
  constructor
  · intro h
    cases h with
    | rel h => exact h
    | cons h => cases h
  · intro h
    exact List.Lex.rel h
theorem from_a (c : Nat) : (!decide ((⟨#[c]⟩ : Str).cps.toList < (Str.ofString "a").cps.toList)) = decide (97 ≤ c) := by
  have e : (Str.ofString "a").cps.toList = [97] := by decide +kernel
  rw [e]
  show (!decide (([c] : List Nat) < [97])) = _
  by_cases h : 97 ≤ c
  · rw [decide_eq_true h, decide_eq_false (fun q => by have := (one_lt c 97).mp q; omega)]
    rfl
  · rw [decide_eq_false h, decide_eq_true ((one_lt c 97).mpr (by omega))]
    rfl
theorem to_z (c : Nat) : (!decide ((Str.ofString "z").cps.toList < (⟨#[c]⟩ : Str).cps.toList)) = decide (c ≤ 122) := by
  have e : (Str.ofString "z").cps.toList = [122] := by decide +kernel
  rw [e]
  show (!decide (([122] : List Nat) < [c])) = _
  by_cases h : c ≤ 122
  · rw [decide_eq_true h, decide_eq_false (fun q => by have := (one_lt 122 c).mp q; omega)]
    rfl
  · rw [decide_eq_false h, decide_eq_true ((one_lt 122 c).mpr (by omega))]
    rfl
theorem isNm_true {x : Str} (h1 : 1 ≤ x.length) (h2 : x.length ≤ 8) : isNm x = (x.cps.toList.map isLow).all id := by
  unfold isNm
  rw [decide_eq_true h1, decide_eq_true h2, List.all_map]
  rfl
theorem isNm_no {x : Str} (h : ¬ (1 ≤ x.length ∧ x.length ≤ 8)) : isNm x = false := by
  unfold isNm
  by_cases h1 : 1 ≤ x.length
  · rw [decide_eq_false (fun h2 => h ⟨h1, h2⟩)]
    simp
  · rw [decide_eq_false h1]
    simp
theorem take_snoc {α β : Type} (f : α → β) {l : List α} {i : Nat} {c : α} (h : l[i]? = some c) : (l.take (i + 1)).map f = (l.take i).map f ++ [f c] := by
  rw [List.take_succ, h]
  simp
theorem erase_perm {α : Type} : ∀ {l : List α} {i : Nat} (h : i < l.length), (l[i] :: l.eraseIdx i).Perm l
  | a :: l, 0, _ => List.Perm.refl _
  | a :: l, i + 1, h => by
    have ih := erase_perm (l := l) (i := i) (by simpa using h)
    have hi : i < l.length := by simpa using h
    show (l[i] :: a :: l.eraseIdx i).Perm (a :: l)
    exact (List.Perm.swap _ _ _).trans (List.Perm.cons _ ih)
/-! ### the first wrong entry of a list of names -/
def okAt (xs : List Str) (k : Nat) : Bool := match xs[k]? with
  | some x => isNm x && !decide (x ∈ xs.take k)
  | none => true
def fwF (xs : List Str) : Option Nat := (List.range xs.length).find? fun k => !okAt xs k
theorem fw_none {xs : List Str} (h : ∀ k, k < xs.length → okAt xs k = true) : fwF xs = none := by
  unfold fwF
  rw [List.find?_eq_none]
  intro k hk
  rw [h k (List.mem_range.mp hk)]
  simp
theorem fw_some {xs : List Str} {k : Nat} (h1 : k < xs.length) (h2 : okAt xs k = false) (h3 : ∀ j, j < k → okAt xs j = true) : fwF xs = some k := by
  unfold fwF
  rw [List.find?_range_eq_some]
  refine ⟨by rw [h2]; rfl, List.mem_range.mpr h1, fun j hj => by rw [h3 j hj]; rfl⟩
theorem fw_ok {xs : List Str} (h : fwF xs = none) {k : Nat} (hk : k < xs.length) : okAt xs k = true := by
  unfold fwF at h
  rw [List.find?_eq_none] at h
  have := h k (List.mem_range.mpr hk)
  simpa using this
def fwV (xs : List Str) : V := match fwF xs with
  | none => .non
  | some k => .int (k : Nat)
/-- first_wrong(entries, is_name), is_name being the def at f -/
def spFirst (f : Addr) : Sp := fun vs H Q _ => ∃ (a : Addr) (xs : List Str), vs = [.ref a, .ref f] ∧ H a = some (.lst (xs.map V.str)) ∧ xs.length ≤ 1000 ∧ (∀ x ∈ xs, x.length ≤ 1000) ∧ ∀ H', Same H H' → Q (fwV xs) H'
/-! ### readings in one step -/
section
variable {K : PySem.W.Frag} {H : Hp} {Q : VK}
theorem len_s {z : Str} (h : z.length ≤ 1000) (q : Q (.int z.length) H) : ∃ x n, [V.str z] = [x] ∧ LenV K x H n ∧ Q (.int (n : Nat)) H := ⟨_, _, rfl, ⟨by rw [sizeLine_eq]; omega, rfl⟩, q⟩
theorem len_l {a : Addr} {xs : List V} (h : H a = some (.lst xs)) (q : Q (.int xs.length) H) : ∃ x n, [V.ref a] = [x] ∧ LenV K x H n ∧ Q (.int (n : Nat)) H := ⟨_, _, rfl, .inl ⟨_, SqL.of h, rfl⟩, q⟩
theorem len_t {a : Addr} {xs : List V} (h : H a = some (.tup xs)) (q : Q (.int xs.length) H) : ∃ x n, [V.ref a] = [x] ∧ LenV K x H n ∧ Q (.int (n : Nat)) H := ⟨_, _, rfl, .inr ⟨_, SqT.of h, rfl⟩, q⟩
theorem isi_ss {z : Str} (q : Q (.bl true) H) : rIsi K [.str z, .ty "str"] H Q := ⟨_, _, _, _, true, rfl, .ty _, .base (.str _), kit_ty (by decide +kernel), q⟩
end
end BF
set_option Elab.async false
set_option linter.all false
set_option maxRecDepth 100000
set_option maxHeartbeats 4000000
namespace BF
open PySem PySem.Spec PyProof.Rows L2
/-! ### texts in order -/
def leS (a b : Str) : Bool := !decide (b.cps.toList < a.cps.toList)
theorem leS_iff (a b : Str) : leS a b = true ↔ a.cps.toList ≤ b.cps.toList := by
  unfold leS
  rw [Bool.not_eq_true', decide_eq_false_iff_not, List.not_lt]
theorem leS_trans (a b c : Str) (h1 : leS a b = true) (h2 : leS b c = true) : leS a c = true := (leS_iff a c).mpr (List.le_trans ((leS_iff a b).mp h1) ((leS_iff b c).mp h2))
theorem leS_total (a b : Str) : (leS a b || leS b a) = true := by
  rw [Bool.or_eq_true, leS_iff, leS_iff]
  exact List.le_total _ _
theorem str_ext {a b : Str} (h : a.cps.toList = b.cps.toList) : a = b := by
  cases a
  cases b
  simp only at h
  congr
  exact Array.toList_inj.mp h
theorem leS_anti (a b : Str) (h1 : leS a b = true) (h2 : leS b a = true) : a = b := str_ext (List.le_antisymm ((leS_iff a b).mp h1) ((leS_iff b a).mp h2))
def sortS (xs : List Str) : List Str := xs.mergeSort leS
theorem rising_all : ∀ (r : List Str) (p : Str), risingS p r = true → (p :: r).Pairwise fun a b => leS a b = true
  | [], p, _ => List.pairwise_singleton _ _
  | x :: r, p, h => by
    unfold risingS at h
    rw [Bool.and_eq_true] at h
    have h1 : leS p x = true := by
      have := h.1
      rw [ltCps_eq] at this
      exact this
    have ih := rising_all r x h.2
    refine List.pairwise_cons.mpr ⟨fun y hy => ?_, ih⟩
    rcases List.mem_cons.mp hy with rfl | hy
    · exact h1
    · exact leS_trans _ _ _ h1 ((List.pairwise_cons.mp ih).1 y hy)
theorem sortS_eq {xs ys : List Str} (p : ys.Perm xs) (h : sortedS ys = true) : ys = sortS xs := by
  have h1 : ys.Pairwise fun a b => leS a b = true := by
    cases ys with
    | nil => exact List.Pairwise.nil
    | cons y r => exact rising_all r y h
  have h2 : (sortS xs).Pairwise fun a b => leS a b = true := List.pairwise_mergeSort (le := leS) leS_trans leS_total xs
  exact List.Perm.eq_of_pairwise (le := fun a b => leS a b = true) (fun a b _ _ x y => leS_anti a b x y) h1 h2 (p.trans (List.mergeSort_perm xs leS).symm)
theorem sortS_perm (xs : List Str) : (sortS xs).Perm xs := List.mergeSort_perm xs leS
theorem sortS_length (xs : List Str) : (sortS xs).length = xs.length := (sortS_perm xs).length_eq
theorem sortS_of_perm {xs ys : List Str} (p : xs.Perm ys) : sortS xs = sortS ys := by
  have h1 : (sortS xs).Pairwise fun a b => leS a b = true := List.pairwise_mergeSort (le := leS) leS_trans leS_total xs
  have h2 : (sortS ys).Pairwise fun a b => leS a b = true := List.pairwise_mergeSort (le := leS) leS_trans leS_total ys
  exact List.Perm.eq_of_pairwise (le := fun a b => leS a b = true) (fun a b _ _ x y => leS_anti a b x y) h1 h2 ((sortS_perm xs).trans (p.trans (sortS_perm ys).symm))

/-! ### values that may be a pair of places -/
inductive TV where
  | ends (a b : Str)
  | junk
def tvOf : Option Str → Option Str → TV
  | some a, some b => .ends a b
  | _, _ => .junk
/-- a text, or surely none -/
inductive IsS (K : PySem.W.Frag) (H : Hp) : V → Option Str → Prop
  | str (z : Str) : IsS K H (.str z) (some z)
  | no {x : V} {t : Value} (h : TyX K H x t) (k : PySem.W.kitOne K t (.type "str") = some false) : IsS K H x none
inductive TVr (K : PySem.W.Frag) (H : Hp) : V → TV → Prop
  | no {x : V} {t : Value} (h : TyX K H x t) (k : PySem.W.kitOne K t (.type "tuple") = some false) : TVr K H x .junk
  | long {p : Addr} {xs : List V} (h : H p = some (.tup xs)) (n : xs.length ≠ 2) : TVr K H (.ref p) .junk
  | pair {p : Addr} {x y : V} {a b : Option Str} (h : H p = some (.tup [x, y])) (hx : IsS K H x a) (hy : IsS K H y b) : TVr K H (.ref p) (tvOf a b)
theorem _root_.L2.TyX.kp {K : PySem.W.Frag} {H H' : Hp} {w : Addr} {x : V} {t : Value} (h : TyX K H x t) (k : Kp w H H') (hw : WellAt H w) : TyX K H' x t := by
  cases h with
  | base b =>
    cases b with
    | non => exact .base .non
    | bl x => exact .base (.bl x)
    | int i => exact .base (.int i)
    | str x => exact .base (.str x)
    | flt x => exact .base (.flt x)
    | @lst a xs e =>
      by_cases ea : a = w
      · subst ea
        obtain ⟨p, q, r, z⟩ := k.well hw
        exact .base (.lst z)
      · exact .base (.lst (k.keep _ _ ea e))
    | frz e => exact .base (.frz (k.get hw e))
    | tup e => exact .base (.tup (k.get hw e))
    | dK e => exact .base (.dK (k.get hw e))
    | dT e => exact .base (.dT (k.get hw e))
    | ins e cl ha hn htk hm => exact .base (.ins (k.get hw e) cl ha hn htk hm)
  | byt b => exact .byt b
  | set e => exact .set (k.get hw e)
  | kList e c => exact .kList e c
  | kTuple e c => exact .kTuple e c
  | kDict e c => exact .kDict e c
  | fTuple e => exact .fTuple (k.get hw e)
  | fDict e => exact .fDict (k.get hw e)
theorem _root_.L2.TyX.same {K : PySem.W.Frag} {H H' : Hp} {x : V} {t : Value} (h : TyX K H x t) (s : Same H H') : TyX K H' x t := by
  cases h with
  | base b =>
    cases b with
    | non => exact .base .non
    | bl x => exact .base (.bl x)
    | int i => exact .base (.int i)
    | str x => exact .base (.str x)
    | flt x => exact .base (.flt x)
    | lst e => exact .base (.lst (s _ _ e))
    | frz e => exact .base (.frz (s _ _ e))
    | tup e => exact .base (.tup (s _ _ e))
    | dK e => exact .base (.dK (s _ _ e))
    | dT e => exact .base (.dT (s _ _ e))
    | ins e cl ha hn htk hm => exact .base (.ins (s _ _ e) cl ha hn htk hm)
  | byt b => exact .byt b
  | set e => exact .set (s _ _ e)
  | kList e c => exact .kList e c
  | kTuple e c => exact .kTuple e c
  | kDict e c => exact .kDict e c
  | fTuple e => exact .fTuple (s _ _ e)
  | fDict e => exact .fDict (s _ _ e)
theorem IsS.kp {K : PySem.W.Frag} {H H' : Hp} {w : Addr} {x : V} {o : Option Str} (h : IsS K H x o) (k : Kp w H H') (hw : WellAt H w) : IsS K H' x o := by
  cases h with
  | str z => exact .str z
  | no h e => exact .no (h.kp k hw) e
theorem IsS.same {K : PySem.W.Frag} {H H' : Hp} {x : V} {o : Option Str} (h : IsS K H x o) (s : Same H H') : IsS K H' x o := by
  cases h with
  | str z => exact .str z
  | no h e => exact .no (h.same s) e
theorem TVr.kp {K : PySem.W.Frag} {H H' : Hp} {w : Addr} {x : V} {o : TV} (h : TVr K H x o) (k : Kp w H H') (hw : WellAt H w) : TVr K H' x o := by
  cases h with
  | no h e => exact .no (h.kp k hw) e
  | long h n => exact .long (k.get hw h) n
  | pair h hx hy => exact .pair (k.get hw h) (hx.kp k hw) (hy.kp k hw)
theorem TVr.same {K : PySem.W.Frag} {H H' : Hp} {x : V} {o : TV} (h : TVr K H x o) (s : Same H H') : TVr K H' x o := by
  cases h with
  | no h e => exact .no (h.same s) e
  | long h n => exact .long (s _ _ h) n
  | pair h hx hy => exact .pair (s _ _ h) (hx.same s) (hy.same s)
theorem TVr.ends {K : PySem.W.Frag} {H : Hp} {p : Addr} {a b : Str} (h : H p = some (.tup [.str a, .str b])) : TVr K H (.ref p) (.ends a b) := TVr.pair (a := some a) (b := some b) h (.str a) (.str b)
theorem TVr.get {K : PySem.W.Frag} {H : Hp} {x : V} {a b : Str} (h : TVr K H x (.ends a b)) : ∃ p, x = .ref p ∧ H p = some (.tup [.str a, .str b]) := by
  generalize ht : TV.ends a b = t at h
  cases h with
  | no h e => cases ht
  | long h n => cases ht
  | @pair p x y oa ob h hx hy =>
    cases hx with
    | no _ _ => cases ht
    | str u =>
      cases hy with
      | no _ _ => cases ht
      | str v =>
        cases ht
        exact ⟨p, rfl, h⟩
/-! ### dicts of such -/
abbrev Tie (K : PySem.W.Frag) (H : Hp) : Key × V → Str × TV → Prop := fun p e => p.1 = .inr e.1 ∧ TVr K H p.2 e.2
structure TiesR (K : PySem.W.Frag) (H : Hp) (d : Addr) (es : List (Str × TV)) : Prop where
  ex : ∃ kvs, H d = some (.dK kvs) ∧ Paired (Tie K H) kvs es
  nd : (es.map (·.1)).Nodup
def lkE (es : List (Str × TV)) (n : Str) : Option TV := (es.find? fun e => decide (e.1 = n)).map (·.2)
theorem Paired.imp {α β : Type} {F G : α → β → Prop} (h : ∀ a b, F a b → G a b) : ∀ {xs : List α} {ys : List β}, Paired F xs ys → Paired G xs ys
  | _, _, .nil => .nil
  | _, _, .cons p t => .cons (h _ _ p) (Paired.imp h t)
theorem tie_keys {K : PySem.W.Frag} {H : Hp} : ∀ {kvs : List (Key × V)} {es : List (Str × TV)}, Paired (Tie K H) kvs es → kvs.map (·.1) = (es.map (·.1)).map Sum.inr
  | _, _, .nil => rfl
  | _, _, .cons p t => by rw [List.map_cons, List.map_cons, List.map_cons, tie_keys t, p.1]
theorem tie_get {K : PySem.W.Frag} {H : Hp} {n : Str} : ∀ {kvs : List (Key × V)} {es : List (Str × TV)}, Paired (Tie K H) kvs es → n ∈ es.map (·.1) → ∃ v tv, valV kvs (.inr n) = some v ∧ lkE es n = some tv ∧ TVr K H v tv
  | _, _, .nil, h => by cases h
  | (k, v) :: kvs, (m, tv) :: es, .cons p t, h => by
    obtain ⟨e, r⟩ := p
    have e : k = Sum.inr m := e
    subst e
    by_cases hm : m = n
    · subst hm
      exact ⟨v, tv, valV_pos rfl, by simp [lkE], r⟩
    · obtain ⟨v', tv', h1, h2, h3⟩ := tie_get t ((List.mem_cons.mp h).resolve_left fun q => hm q.symm)
      exact ⟨v', tv', by rw [valV_neg (fun q => hm (Sum.inr.inj q))]; exact h1, by simpa [lkE, hm] using h2, h3⟩
theorem TiesR.kp {K : PySem.W.Frag} {H H' : Hp} {w d : Addr} {es : List (Str × TV)} (h : TiesR K H d es) (k : Kp w H H') (hw : WellAt H w) : TiesR K H' d es := by
  obtain ⟨⟨kvs, e, p⟩, nd⟩ := h
  exact ⟨⟨kvs, k.get hw e, Paired.imp (fun a b q => ⟨q.1, q.2.kp k hw⟩) p⟩, nd⟩
theorem TiesR.same {K : PySem.W.Frag} {H H' : Hp} {d : Addr} {es : List (Str × TV)} (h : TiesR K H d es) (s : Same H H') : TiesR K H' d es := by
  obtain ⟨⟨kvs, e, p⟩, nd⟩ := h
  exact ⟨⟨kvs, s _ _ e, Paired.imp (fun a b q => ⟨q.1, q.2.same s⟩) p⟩, nd⟩
/-! ### what is due -/
inductive Due where
  | places (k : Int)
  | ties (n : Str)
  | many
def goodT (ps : List Str) : TV → Bool
  | .ends a b => decide (a ∈ ps) && decide (b ∈ ps)
  | .junk => false
def goodE (ps : List Str) (es : List (Str × TV)) (n : Str) : Bool := isNm n && match lkE es n with
  | some tv => goodT ps tv
  | none => false
/-- the first wrong thing of places: its index, or -1 -/
def plF (ps : List Str) : Option Int := if 1 ≤ ps.length ∧ ps.length ≤ 16 then (fwF ps).map (fun k => (k : Int)) else some (-1)
def tiF (ps : List Str) (es : List (Str × TV)) : Option Str := (sortS (es.map (·.1))).find? fun n => !goodE ps es n
def dueOf (ps : List Str) (es : List (Str × TV)) : Option Due := match plF ps with
  | some k => some (.places k)
  | none => match tiF ps es with
    | some n => some (.ties n)
    | none => if 24 < es.length then some .many else none
def srt2 (a b : Str) : Str × Str := if leS a b = true then (a, b) else (b, a)
theorem sortS_two (a b : Str) : sortS [a, b] = [(srt2 a b).1, (srt2 a b).2] := by
  unfold srt2
  split
  · rename_i h
    refine (sortS_eq (List.Perm.refl _) ?_).symm
    show (!ltCps b.cps.toList a.cps.toList && true) = true
    rw [ltCps_eq, Bool.and_true]
    exact h
  · rename_i h
    refine (sortS_eq (List.Perm.swap _ _ _) ?_).symm
    show (!ltCps a.cps.toList b.cps.toList && true) = true
    rw [ltCps_eq, Bool.and_true]
    have := leS_total a b
    rw [Bool.or_eq_true] at this
    exact this.resolve_left h
def endsOf (es : List (Str × TV)) (n : Str) : Str × Str := match lkE es n with
  | some (.ends a b) => srt2 a b
  | _ => (n, n)
def webTies (es : List (Str × TV)) : List (Str × Str × Str) := (sortS (es.map (·.1))).map fun n => (n, endsOf es n)
theorem inV_strs (z : Str) (ps : List Str) : inV (.str z) (ps.map V.str) = decide (z ∈ ps) := by
  induction ps with
  | nil => rfl
  | cons p r ih =>
    unfold inV at ih ⊢
    rw [List.map_cons, List.any_cons, ih]
    show (decide (p = z) || decide (z ∈ r)) = _
    by_cases h : p = z
    · subst h
      simp
    · have h' : ¬ z = p := fun e => h e.symm
      simp [h, h']
def inO (ps : List Str) : Option Str → Bool
  | some z => decide (z ∈ ps)
  | none => false
theorem goodT_of (ps : List Str) (a b : Option Str) : goodT ps (tvOf a b) = ([inO ps a, inO ps b]).all id := by
  cases a with
  | none => rfl
  | some a =>
    cases b with
    | none => simp [tvOf, goodT, inO]
    | some b => simp [tvOf, goodT, inO]
end BF
set_option Elab.async false
set_option linter.all false
set_option maxRecDepth 100000
set_option maxHeartbeats 4000000
namespace BF
open PySem PySem.Spec PyProof.Rows L2
theorem dget_s {H : Hp} {a : Addr} {kvs : List (Key × V)} {n : Str} {v : V} (e : Rd H a (.dK kvs)) (h : valV kvs (.inr n) = some v) : DGet H a (.str n) (some v) := .inl ⟨kvs, .inr n, e, rfl, h.symm⟩
/-- pairs of texts under a key -/
abbrev Tup2 (H : Hp) : Key × V → Str × Str × Str → Prop := fun p e => p.1 = .inr e.1 ∧ ∃ t, p.2 = .ref t ∧ H t = some (.tup [.str e.2.1, .str e.2.2])
theorem tup2_mono {H H' : Hp} (hs : ∀ t xs, H t = some (.tup xs) → H' t = some (.tup xs)) {kvs : List (Key × V)} {ts : List (Str × Str × Str)} (h : Paired (Tup2 H) kvs ts) : Paired (Tup2 H') kvs ts :=
  Paired.imp (fun _ _ ⟨e, t, e2, q⟩ => ⟨e, t, e2, hs _ _ q⟩) h
theorem Paired.snoc {α β : Type} {F : α → β → Prop} {a : α} {b : β} (f : F a b) : ∀ {xs : List α} {ys : List β}, Paired F xs ys → Paired F (xs ++ [a]) (ys ++ [b])
  | _, _, .nil => .cons f .nil
  | _, _, .cons p t => .cons p (Paired.snoc f t)
theorem keys2 {H : Hp} : ∀ {kvs : List (Key × V)} {ts : List (Str × Str × Str)}, Paired (Tup2 H) kvs ts → kvs.map (·.1) = (ts.map (·.1)).map Sum.inr
  | _, _, .nil => rfl
  | _, _, .cons p t => by rw [List.map_cons, List.map_cons, List.map_cons, keys2 t, p.1]
theorem valV_none {kvs : List (Key × V)} {k : Key} (h : k ∉ kvs.map (·.1)) : valV kvs k = none := by
  unfold valV
  rw [List.find?_eq_none.mpr (fun p hp => by simp only [decide_eq_true_eq]; exact fun e => h (List.mem_map.mpr ⟨p, hp, e⟩))]
  rfl
theorem get2 {H : Hp} {n : Str} {e : Str × Str} : ∀ {kvs : List (Key × V)} {ts : List (Str × Str × Str)}, Paired (Tup2 H) kvs ts → (ts.map (·.1)).Nodup → (n, e) ∈ ts → ∃ t, valV kvs (.inr n) = some (.ref t) ∧ H t = some (.tup [.str e.1, .str e.2])
  | _, _, .nil, _, h => by cases h
  | (k, v) :: kvs, (m, f) :: ts, .cons p t, nd, h => by
    obtain ⟨e1, q, e2, hq⟩ := p
    have e1 : k = Sum.inr m := e1
    have e2 : v = .ref q := e2
    subst e1 e2
    have nd : (m :: ts.map (·.1)).Nodup := nd
    rcases List.mem_cons.mp h with h | h
    · cases h
      exact ⟨q, valV_pos rfl, hq⟩
    · have hm : ¬ m = n := fun e => (List.nodup_cons.mp nd).1 (List.mem_map.mpr ⟨_, h, e.symm⟩)
      obtain ⟨t', h1, h2⟩ := get2 t (List.nodup_cons.mp nd).2 h
      exact ⟨t', by rw [valV_neg (fun q => hm (Sum.inr.inj q))]; exact h1, h2⟩
theorem goodT_perm {ps qs : List Str} (h : ∀ x, x ∈ ps ↔ x ∈ qs) (tv : TV) : goodT ps tv = goodT qs tv := by
  cases tv with
  | junk => rfl
  | ends a b => simp [goodT, h]
theorem tiF_perm {ps qs : List Str} (h : ∀ x, x ∈ ps ↔ x ∈ qs) (es : List (Str × TV)) : tiF ps es = tiF qs es := by
  have e : goodE ps es = goodE qs es := by
    funext n
    unfold goodE
    cases lkE es n with
    | none => rfl
    | some tv => simp only [goodT_perm h tv]
  unfold tiF
  rw [e]
theorem mem_sortS (xs : List Str) (x : Str) : x ∈ sortS xs ↔ x ∈ xs := (sortS_perm xs).mem_iff
theorem tiF_some {ps : List Str} {es : List (Str × TV)} {i : Nat} {n : Str} (h : (sortS (es.map (·.1)))[i]? = some n) (hb : goodE ps es n = false) (hok : ∀ j, j < i → ∀ m, (sortS (es.map (·.1)))[j]? = some m → goodE ps es m = true) : tiF ps es = some n := by
  unfold tiF
  rw [List.find?_eq_some_iff_getElem]
  obtain ⟨hi, e⟩ := List.getElem?_eq_some_iff.mp h
  refine ⟨by rw [hb]; rfl, i, hi, e, fun j hj => ?_⟩
  rw [hok j hj _ (List.getElem?_eq_getElem (by omega))]
  rfl
theorem tiF_none {ps : List Str} {es : List (Str × TV)} (hok : ∀ j, j < es.length → ∀ m, (sortS (es.map (·.1)))[j]? = some m → goodE ps es m = true) : tiF ps es = none := by
  unfold tiF
  rw [List.find?_eq_none]
  intro n hn
  obtain ⟨j, hj, e⟩ := List.mem_iff_getElem.mp hn
  have hj' : j < es.length := by
    rw [sortS_length, List.length_map] at hj
    exact hj
  rw [hok j hj' n (by rw [← e]; exact List.getElem?_eq_getElem hj)]
  simp
theorem goodE_of {ps : List Str} {es : List (Str × TV)} {n : Str} {tv : TV} (h : lkE es n = some tv) : goodE ps es n = (isNm n && goodT ps tv) := by
  unfold goodE
  rw [h]
theorem goodE_ends {ps : List Str} {es : List (Str × TV)} {n : Str} (h : goodE ps es n = true) : isNm n = true ∧ ∃ a b, lkE es n = some (.ends a b) ∧ a ∈ ps ∧ b ∈ ps := by
  unfold goodE at h
  rw [Bool.and_eq_true] at h
  obtain ⟨h1, h2⟩ := h
  refine ⟨h1, ?_⟩
  cases e : lkE es n with
  | none => rw [e] at h2; cases h2
  | some tv =>
    rw [e] at h2
    cases tv with
    | junk => cases h2
    | ends a b =>
      simp [goodT] at h2
      exact ⟨a, b, rfl, h2.1, h2.2⟩
theorem endsOf_eq {es : List (Str × TV)} {n a b : Str} (h : lkE es n = some (.ends a b)) : endsOf es n = srt2 a b := by
  unfold endsOf
  rw [h]
theorem nodup_sortS {xs : List Str} (h : xs.Nodup) : (sortS xs).Nodup := (sortS_perm xs).nodup_iff.mpr h
end BF
set_option Elab.async false
set_option linter.all false
set_option maxRecDepth 100000
set_option maxHeartbeats 4000000
namespace BF
open PySem PySem.Spec PyProof.Rows L2
/-! ### lists of texts and ties as data -/
theorem dpAll_strs {K : PySem.W.Frag} {H : Hp} : ∀ ps : List Str, DpAll K H (ps.map V.str) (ps.map PyData.str)
  | [] => .nil
  | p :: r => .cons (.str p) (dpAll_strs r)
theorem dp_strs {K : PySem.W.Frag} {H : Hp} {a : Addr} {ps : List Str} (h : H a = some (.lst (ps.map V.str))) : Dp K H (.ref a) (.list (ps.map PyData.str)) := .lst (SqL.of h) (dpAll_strs ps)
theorem isNm_ok {x : Str} (h : isNm x = true) : PyData.strOk x = true := by
  unfold isNm at h
  simp only [Bool.and_eq_true, decide_eq_true_eq, List.all_eq_true] at h
  unfold PyData.strOk
  rw [Array.all_eq_true']
  intro c hc
  have := h.2 c (Array.mem_toList_iff.mpr hc)
  unfold isLow at this
  simp only [Bool.and_eq_true, decide_eq_true_eq] at this
  simp only [decide_eq_true_eq]
  omega
theorem lay_strs : ∀ ps : List Str, (∀ p ∈ ps, PyData.strOk p = true) → PyData.canLayAll0 (ps.map PyData.str) = true ∧ PyData.depthAll (ps.map PyData.str) = 0
  | [], _ => by simp [PyData.canLayAll0, PyData.depthAll]
  | p :: r, h => by simp [PyData.canLayAll0, PyData.canLay0, PyData.depthAll, PyData.depth, lay_strs r (fun q hq => h q (List.mem_cons_of_mem _ hq)), h p List.mem_cons_self]
theorem shaped_strs {ps : List Str} (h : ∀ p ∈ ps, PyData.strOk p = true) : SeqAt.shaped (.list (ps.map PyData.str)) = true := by
  simp [SeqAt.shaped, PyData.canLay0, PyData.depth, lay_strs ps h]
theorem shaped_two {a b : Str} (ha : PyData.strOk a = true) (hb : PyData.strOk b = true) : SeqAt.shaped (.tuple [.str a, .str b]) = true := by
  simp [SeqAt.shaped, PyData.canLay0, PyData.canLayAll0, PyData.depth, PyData.depthAll, ha, hb]
/-- a tie's ends are texts of letters alone -/
def OkT (t : Str × Str × Str) : Prop := PyData.strOk t.2.1 = true ∧ PyData.strOk t.2.2 = true
theorem eqv_strs (ps qs : List Str) : PyData.eqv (.list (ps.map PyData.str)) (.list (qs.map PyData.str)) = decide (ps = qs) := PySem.W.Datum.eqv (α := List Str) ps qs
theorem eqv_tup2 (a b : Str × Str) : PyData.eqv (.tuple [.str a.1, .str a.2]) (.tuple [.str b.1, .str b.2]) = decide (a = b) := PySem.W.Datum.eqv (α := Str × Str) a b
def tieD (t : Str × Str × Str) : Key × PyData := (.inr t.1, .tuple [.str t.2.1, .str t.2.2])
theorem dp_tup2 {K : PySem.W.Frag} {H : Hp} {a : Addr} {x y : Str} (h : H a = some (.tup [.str x, .str y])) : Dp K H (.ref a) (.tuple [.str x, .str y]) := .tup (SqT.of h) (.cons (.str x) (.cons (.str y) .nil))
theorem dkd_pairs {K : PySem.W.Frag} {H : Hp} : ∀ {kvs : List (Key × V)} {ts : List (Str × Str × Str)}, Paired (Tup2 H) kvs ts → (∀ t ∈ ts, OkT t) →
    Paired (fun (p : Key × V) (q : Key × PyData) => p.1 = q.1 ∧ Dp K H p.2 q.2 ∧ SeqAt.shaped q.2 = true) kvs (ts.map tieD)
  | _, _, .nil, _ => .nil
  | (k, v) :: kvs, (m, e) :: ts, .cons p t, h => by
    obtain ⟨e1, q, e2, hq⟩ := p
    have e2 : v = .ref q := e2
    subst e2
    have ho := h _ List.mem_cons_self
    exact .cons ⟨e1, dp_tup2 hq, shaped_two ho.1 ho.2⟩ (dkd_pairs t fun u hu => h u (List.mem_cons_of_mem _ hu))
theorem dkd_of {K : PySem.W.Frag} {H : Hp} {a : Addr} {kvs : List (Key × V)} {ts : List (Str × Str × Str)} (h : H a = some (.dK kvs)) (p : Paired (Tup2 H) kvs ts) (ho : ∀ t ∈ ts, OkT t) : DkD K H (.ref a) (ts.map tieD) := ⟨a, kvs, rfl, h, dkd_pairs p ho⟩
theorem eqKD_len {ts us : List (Str × Str × Str)} (h : ts.length ≠ us.length) : eqKD (ts.map tieD) (us.map tieD) = false := by
  unfold eqKD
  rw [List.length_map, List.length_map, show (ts.length == us.length) = false from by simp [h]]
  rfl
theorem find_tie : ∀ {us : List (Str × Str × Str)} {t : Str × Str × Str}, (us.map (·.1)).Nodup → t ∈ us → (us.map tieD).find? (fun q => decide (q.1 = (tieD t).1)) = some (tieD t)
  | u :: us, t, nd, h => by
    have nd : (u.1 :: us.map (·.1)).Nodup := nd
    rcases List.mem_cons.mp h with rfl | h
    · simp
    · have hne : ¬ (tieD u).1 = (tieD t).1 := fun e => (List.nodup_cons.mp nd).1 (List.mem_map.mpr ⟨t, h, (Sum.inr.inj e).symm⟩)
      rw [List.map_cons, List.find?_cons, decide_eq_false hne]
      exact find_tie (List.nodup_cons.mp nd).2 h
theorem eqKD_mem {ts us : List (Str × Str × Str)} (hl : ts.length = us.length) (nd : (us.map (·.1)).Nodup) (h : ∀ t, t ∈ ts → t ∈ us) : eqKD (ts.map tieD) (us.map tieD) = true := by
  unfold eqKD
  rw [List.length_map, List.length_map, hl, Bool.and_eq_true]
  refine ⟨by simp, List.all_eq_true.mpr fun q hq => ?_⟩
  obtain ⟨t, ht, rfl⟩ := List.mem_map.mp hq
  rw [find_tie nd (h t ht)]
  show PyData.eqv _ _ = true
  unfold tieD
  rw [eqv_tup2]
  simp
/-! ### values that may be instances whose fields change -/
theorem _root_.L2.TyX.fr {K : PySem.W.Frag} {H H' : Hp} {x C d : Addr} {fs fs' : List (Str × V)} {v : V} {t : Value} (h : TyX K H v t) (k : ∀ b o, b ≠ x → H b = some o → H' b = some o) (h1 : H x = some (.ins C d fs)) (h2 : H' x = some (.ins C d fs')) : TyX K H' v t := by
  have go : ∀ {b : Addr} {o : HO}, H b = some o → (∀ C d fs, o ≠ .ins C d fs) → H' b = some o := fun {b o} e n => k b o (fun q => by rw [q, h1] at e; exact n _ _ _ (Option.some.inj e).symm) e
  cases h with
  | base b =>
    cases b with
    | non => exact .base .non
    | bl x => exact .base (.bl x)
    | int i => exact .base (.int i)
    | str x => exact .base (.str x)
    | flt x => exact .base (.flt x)
    | lst e => exact .base (.lst (go e (by intros; simp)))
    | frz e => exact .base (.frz (go e (by intros; simp)))
    | tup e => exact .base (.tup (go e (by intros; simp)))
    | dK e => exact .base (.dK (go e (by intros; simp)))
    | dT e => exact .base (.dT (go e (by intros; simp)))
    | @ins a C' d' fs0 e cl ha hn htk hm =>
      by_cases q : a = x
      · subst q
        rw [h1] at e
        cases e
        exact .base (.ins h2 cl ha hn htk hm)
      · exact .base (.ins (k _ _ q e) cl ha hn htk hm)
  | byt b => exact .byt b
  | set e => exact .set (go e (by intros; simp))
  | kList e c => exact .kList e c
  | kTuple e c => exact .kTuple e c
  | kDict e c => exact .kDict e c
  | fTuple e => exact .fTuple (go e (by intros; simp))
  | fDict e => exact .fDict (go e (by intros; simp))
theorem IsS.fr {K : PySem.W.Frag} {H H' : Hp} {x C d : Addr} {fs fs' : List (Str × V)} {v : V} {o : Option Str} (h : IsS K H v o) (k : ∀ b o, b ≠ x → H b = some o → H' b = some o) (h1 : H x = some (.ins C d fs)) (h2 : H' x = some (.ins C d fs')) : IsS K H' v o := by
  cases h with
  | str z => exact .str z
  | no h e => exact .no (h.fr k h1 h2) e
theorem TVr.fr {K : PySem.W.Frag} {H H' : Hp} {x C d : Addr} {fs fs' : List (Str × V)} {v : V} {o : TV} (h : TVr K H v o) (k : ∀ b o, b ≠ x → H b = some o → H' b = some o) (h1 : H x = some (.ins C d fs)) (h2 : H' x = some (.ins C d fs')) : TVr K H' v o := by
  have go : ∀ {b : Addr} {o : HO}, H b = some o → (∀ C d fs, o ≠ .ins C d fs) → H' b = some o := fun {b o} e n => k b o (fun q => by rw [q, h1] at e; exact n _ _ _ (Option.some.inj e).symm) e
  cases h with
  | no h e => exact .no (h.fr k h1 h2) e
  | long h n => exact .long (go h (by intros; simp)) n
  | pair h hx hy => exact .pair (go h (by intros; simp)) (hx.fr k h1 h2) (hy.fr k h1 h2)
theorem TiesR.fr {K : PySem.W.Frag} {H H' : Hp} {x C d : Addr} {fs fs' : List (Str × V)} {a : Addr} {es : List (Str × TV)} (h : TiesR K H a es) (k : ∀ b o, b ≠ x → H b = some o → H' b = some o) (h1 : H x = some (.ins C d fs)) (h2 : H' x = some (.ins C d fs')) : TiesR K H' a es := by
  obtain ⟨⟨kvs, e, p⟩, nd⟩ := h
  exact ⟨⟨kvs, k _ _ (fun q => by rw [q, h1] at e; cases e) e, Paired.imp (fun a b q => ⟨q.1, q.2.fr k h1 h2⟩) p⟩, nd⟩
theorem webTies_keys (es : List (Str × TV)) : (webTies es).map (·.1) = sortS (es.map (·.1)) := by
  unfold webTies
  rw [List.map_map]
  exact (List.map_congr_left fun _ _ => rfl).trans (List.map_id _)
theorem webTies_nodup {es : List (Str × TV)} (h : (es.map (·.1)).Nodup) : ((webTies es).map (·.1)).Nodup := by
  rw [webTies_keys]
  exact nodup_sortS h
end BF
set_option Elab.async false
set_option linter.all false
set_option maxRecDepth 100000
set_option maxHeartbeats 4000000
namespace BF
open PySem PySem.Spec PyProof.Rows L2
/-! ### a tie is put -/
def putE (es : List (Str × TV)) (n : Str) (tv : TV) : List (Str × TV) := if (es.any fun e => decide (e.1 = n)) = true then es.map (fun e => if e.1 = n then (e.1, tv) else e) else es ++ [(n, tv)]
theorem tie_any {K : PySem.W.Frag} {H : Hp} {n : Str} : ∀ {kvs : List (Key × V)} {es : List (Str × TV)}, Paired (Tie K H) kvs es → (kvs.any fun kv => decide (kv.1 = Sum.inr n)) = es.any fun e => decide (e.1 = n)
  | _, _, .nil => rfl
  | (k, v) :: kvs, (m, tv) :: es, .cons p t => by
    have e : k = Sum.inr m := p.1
    subst e
    rw [List.any_cons, List.any_cons, tie_any t]
    congr 1
    exact decide_eq_decide.mpr ⟨fun h => Sum.inr.inj h, fun h => congrArg _ h⟩
theorem tie_map {K : PySem.W.Frag} {H : Hp} {n : Str} {v : V} {tv : TV} (h : TVr K H v tv) : ∀ {kvs : List (Key × V)} {es : List (Str × TV)}, Paired (Tie K H) kvs es →
    Paired (Tie K H) (kvs.map fun kv => if kv.1 = Sum.inr n then (kv.1, v) else kv) (es.map fun e => if e.1 = n then (e.1, tv) else e)
  | _, _, .nil => .nil
  | (k, u) :: kvs, (m, tu) :: es, .cons p t => by
    have e : k = Sum.inr m := p.1
    subst e
    refine .cons ?_ (tie_map h t)
    show Tie K H (if (Sum.inr m : Key) = Sum.inr n then (Sum.inr m, v) else (Sum.inr m, u)) (if m = n then (m, tv) else (m, tu))
    by_cases c : m = n
    · subst c
      rw [if_pos rfl, if_pos rfl]
      exact ⟨rfl, h⟩
    · rw [if_neg (fun q => c (Sum.inr.inj q)), if_neg c]
      exact p
theorem tie_put {K : PySem.W.Frag} {H : Hp} {n : Str} {v : V} {tv : TV} {kvs : List (Key × V)} {es : List (Str × TV)} (h : TVr K H v tv) (p : Paired (Tie K H) kvs es) : Paired (Tie K H) (putK kvs (.inr n) v) (putE es n tv) := by
  unfold putK putE
  rw [tie_any p]
  split
  · exact tie_map h p
  · exact Paired.snoc ⟨rfl, h⟩ p
theorem putE_keys (es : List (Str × TV)) (n : Str) (tv : TV) : (putE es n tv).map (·.1) = if n ∈ es.map (·.1) then es.map (·.1) else es.map (·.1) ++ [n] := by
  have e : (es.any fun e => decide (e.1 = n)) = decide (n ∈ es.map (·.1)) := by
    rw [Bool.eq_iff_iff, List.any_eq_true, decide_eq_true_eq, List.mem_map]
    constructor
    · rintro ⟨x, h, q⟩
      exact ⟨x, h, of_decide_eq_true q⟩
    · rintro ⟨x, h, q⟩
      exact ⟨x, h, decide_eq_true q⟩
  unfold putE
  rw [e]
  by_cases h : n ∈ es.map (·.1)
  · rw [decide_eq_true h, if_pos rfl, if_pos h, List.map_map]
    refine List.map_congr_left fun x _ => ?_
    show (if x.1 = n then (x.1, tv) else x).1 = x.1
    split <;> rfl
  · rw [decide_eq_false h, if_neg (by decide), if_neg h, List.map_append]
    rfl
theorem putE_nodup {es : List (Str × TV)} {n : Str} {tv : TV} (h : (es.map (·.1)).Nodup) : ((putE es n tv).map (·.1)).Nodup := by
  rw [putE_keys]
  split
  · exact h
  · rename_i q
    rw [List.nodup_append]
    refine ⟨h, by simp, fun a ha b hb e => ?_⟩
    rw [List.mem_singleton.mp hb] at e
    exact q (e ▸ ha)
theorem putE_len (es : List (Str × TV)) (n : Str) (tv : TV) : (putE es n tv).length ≤ es.length + 1 := by
  unfold putE
  split
  · rw [List.length_map]
    omega
  · rw [List.length_append]
    exact Nat.le_refl _
theorem putE_mem {es : List (Str × TV)} {n : Str} {tv : TV} {e : Str × TV} (h : e ∈ putE es n tv) : e ∈ es ∨ e = (n, tv) := by
  unfold putE at h
  split at h
  · obtain ⟨x, hx, q⟩ := List.mem_map.mp h
    split at q
    · rename_i c
      right
      rw [← q, c]
    · left
      rw [← q]
      exact hx
  · rcases List.mem_append.mp h with h | h
    · exact .inl h
    · exact .inr (List.mem_singleton.mp h)
theorem TiesR.put {K : PySem.W.Frag} {H H' : Hp} {d : Addr} {es : List (Str × TV)} {kvs : List (Key × V)} {n : Str} {v : V} {tv : TV} (p : Paired (Tie K H) kvs es) (nd : (es.map (·.1)).Nodup) (h : TVr K H v tv) (s : ∀ x t, TVr K H x t → TVr K H' x t)
    (hd : H' d = some (.dK (putK kvs (.inr n) v))) : TiesR K H' d (putE es n tv) := ⟨⟨_, hd, Paired.imp (fun _ _ q => ⟨q.1, s _ _ q.2⟩) (tie_put h p)⟩, putE_nodup nd⟩
/-! ### a dict changes: what values are stays -/
theorem _root_.L2.TyX.dk {K : PySem.W.Frag} {H : Hp} {d : Addr} {kvs kvs' : List (Key × V)} {v : V} {t : Value} (h : TyX K H v t) (h1 : H d = some (.dK kvs)) : TyX K (upd H d (.dK kvs')) v t := by
  have go : ∀ {b : Addr} {o : HO}, H b = some o → (∀ k, o ≠ .dK k) → upd H d (.dK kvs') b = some o := fun {b o} e n => by
    rw [upd_ne (fun q => by rw [q, h1] at e; exact n _ (Option.some.inj e).symm)]
    exact e
  cases h with
  | base b =>
    cases b with
    | non => exact .base .non
    | bl x => exact .base (.bl x)
    | int i => exact .base (.int i)
    | str x => exact .base (.str x)
    | flt x => exact .base (.flt x)
    | lst e => exact .base (.lst (go e (by intros; simp)))
    | frz e => exact .base (.frz (go e (by intros; simp)))
    | tup e => exact .base (.tup (go e (by intros; simp)))
    | @dK a kv e =>
      by_cases q : a = d
      · subst q
        exact .base (.dK upd_same)
      · exact .base (.dK (by rw [upd_ne q]; exact e))
    | dT e => exact .base (.dT (go e (by intros; simp)))
    | ins e cl ha hn htk hm => exact .base (.ins (go e (by intros; simp)) cl ha hn htk hm)
  | byt b => exact .byt b
  | set e => exact .set (go e (by intros; simp))
  | kList e c => exact .kList e c
  | kTuple e c => exact .kTuple e c
  | kDict e c => exact .kDict e c
  | fTuple e => exact .fTuple (go e (by intros; simp))
  | fDict e => exact .fDict (go e (by intros; simp))
theorem TVr.dk {K : PySem.W.Frag} {H : Hp} {d : Addr} {kvs kvs' : List (Key × V)} {v : V} {o : TV} (h : TVr K H v o) (h1 : H d = some (.dK kvs)) : TVr K (upd H d (.dK kvs')) v o := by
  have go : ∀ {b : Addr} {xs : List V}, H b = some (.tup xs) → upd H d (.dK kvs') b = some (.tup xs) := fun {b xs} e => by
    rw [upd_ne (fun q => by rw [q, h1] at e; cases e)]
    exact e
  have si : ∀ {v : V} {o : Option Str}, IsS K H v o → IsS K (upd H d (.dK kvs')) v o := fun {v o} q => by
    cases q with
    | str z => exact .str z
    | no h e => exact .no (h.dk h1) e
  cases h with
  | no h e => exact .no (h.dk h1) e
  | long h n => exact .long (go h) n
  | pair h hx hy => exact .pair (go h) (si hx) (si hy)
end BF
set_option Elab.async false
set_option linter.all false
set_option maxRecDepth 100000
set_option maxHeartbeats 4000000
namespace BF
open PySem PySem.Spec PyProof.Rows L2
/-! ### readings that lay new things alone -/
/-- te lays new things and yields a value with P -/
def EvN (te : TE) (σ : L2.St) (H0 : Hp) (P : V → Hp → Prop) : Prop := ∀ H, Same H0 H → ∀ Q : VK, (∀ v H', Same H H' → P v H' → Q v H') → te σ H Q
def EvNs (ta : TA) (σ : L2.St) (H0 : Hp) (n : Nat) (P : V → Hp → Prop) : Prop := ∀ H, Same H0 H → ∀ Q : List V → Hp → Prop, (∀ vs H', Same H H' → vs.length = n → (∀ v ∈ vs, P v H') → Q vs H') → ta σ H Q
theorem evs_nil {σ : L2.St} {H0 : Hp} {P : V → Hp → Prop} : EvNs tNil σ H0 0 P := fun H _ _ k => k [] H (Same.refl H) rfl (fun _ h => by cases h)
theorem evs_cons {σ : L2.St} {H0 : Hp} {P : V → Hp → Prop} {te : TE} {ta : TA} {n : Nat} (st : ∀ v H H', Same H H' → P v H → P v H') (h : EvN te σ H0 P) (hs : EvNs ta σ H0 n P) : EvNs (tCons te ta) σ H0 (n + 1) P := fun H s Q k =>
  h H s _ fun v H1 s1 p => hs H1 (s.trans s1) _ fun vs H2 s2 hl ps => k (v :: vs) H2 (s1.trans s2) (by rw [List.length_cons, hl]) fun u hu => by
    rcases List.mem_cons.mp hu with rfl | hu
    · exact st _ _ _ s2 p
    · exact ps u hu
theorem ev_lst {σ : L2.St} {H0 : Hp} {P : V → Hp → Prop} {ta : TA} {n : Nat} (st : ∀ v H H', Same H H' → P v H → P v H') (hs : EvNs ta σ H0 n P) (hn : n ≤ 1000) : EvN (tLst ta) σ H0 (fun v H => ∃ l vs, v = .ref l ∧ H l = some (.lst vs) ∧ vs.length = n ∧ ∀ u ∈ vs, P u H) := fun H s Q k =>
  hs H s _ fun vs H1 s1 hl ps => ⟨by rw [sizeLine_eq, hl]; omega, fun l nl => k _ _ (s1.trans (Same.new nl)) ⟨l, vs, rfl, upd_same, hl, fun u hu => st _ _ _ (Same.new nl) (ps u hu)⟩⟩
/-- a value of the kinds that ties are spoiled with -/
def Tv (K : PySem.W.Frag) (v : V) (H : Hp) : Prop := ∃ tv, TVr K H v tv
theorem Tv.st {K : PySem.W.Frag} : ∀ v H H', Same H H' → Tv K v H → Tv K v H' := fun _ _ _ s ⟨tv, h⟩ => ⟨tv, h.same s⟩
section
variable {K : PySem.W.Frag} {σ : L2.St} {H0 : Hp} {i : Nat} {p : Str}
theorem tv_var (h : σ[i]? = some (some (.str p))) : EvN (tVar i) σ H0 (Tv K) := fun H s Q k => ⟨_, h, k _ _ (Same.refl H) ⟨_, .no (.base (.str p)) (kit_ty (by decide +kernel))⟩⟩
theorem tv_non : EvN (tC .non) σ H0 (Tv K) := fun H s Q k => k _ _ (Same.refl H) ⟨_, .no (.base .non) (kit_ty (by decide +kernel))⟩
theorem tv_int {n : Int} : EvN (tC (.int n)) σ H0 (Tv K) := fun H s Q k => k _ _ (Same.refl H) ⟨_, .no (.base (.int n)) (kit_ty (by decide +kernel))⟩
theorem tv_bl {b : Bool} : EvN (tC (.bl b)) σ H0 (Tv K) := fun H s Q k => k _ _ (Same.refl H) ⟨_, .no (.base (.bl b)) (kit_ty (by decide +kernel))⟩
theorem tv_dict : EvN tDNewK σ H0 (Tv K) := fun H s Q k => fun d nd => k _ _ (Same.new nd) ⟨_, .no (.base (.dK upd_same)) (kit_ty (by decide +kernel))⟩
theorem tv_one (h : σ[i]? = some (some (.str p))) : EvN (tTup (tCons (tVar i) tNil)) σ H0 (Tv K) := fun H s Q k => ⟨_, h, (by show 1 ≤ sizeLine; rw [sizeLine_eq]; omega), fun t nt => k _ _ (Same.new nt) ⟨_, .long upd_same (by show 1 ≠ 2; decide)⟩⟩
theorem tv_three (h : σ[i]? = some (some (.str p))) : EvN (tTup (tCons (tVar i) (tCons (tVar i) (tCons (tVar i) tNil)))) σ H0 (Tv K) := fun H s Q k =>
  ⟨_, h, _, h, _, h, (by show 3 ≤ sizeLine; rw [sizeLine_eq]; omega), fun t nt => k _ _ (Same.new nt) ⟨_, .long upd_same (by show 3 ≠ 2; decide)⟩⟩
theorem tv_list (h : σ[i]? = some (some (.str p))) : EvN (tLst (tCons (tVar i) (tCons (tVar i) tNil))) σ H0 (Tv K) := fun H s Q k =>
  ⟨_, h, _, h, (by show 2 ≤ sizeLine; rw [sizeLine_eq]; omega), fun t nt => k _ _ (Same.new nt) ⟨_, .no (.base (.lst upd_same)) (kit_ty (by decide +kernel))⟩⟩
theorem tv_vc {z : Str} (h : σ[i]? = some (some (.str p))) : EvN (tTup (tCons (tVar i) (tCons (tC (.str z)) tNil))) σ H0 (Tv K) := fun H s Q k =>
  ⟨_, h, (by show 2 ≤ sizeLine; rw [sizeLine_eq]; omega), fun t nt => k _ _ (Same.new nt) ⟨_, .pair upd_same (.str _) (.str _)⟩⟩
theorem tv_cv {z : Str} (h : σ[i]? = some (some (.str p))) : EvN (tTup (tCons (tC (.str z)) (tCons (tVar i) tNil))) σ H0 (Tv K) := fun H s Q k =>
  ⟨_, h, (by show 2 ≤ sizeLine; rw [sizeLine_eq]; omega), fun t nt => k _ _ (Same.new nt) ⟨_, .pair upd_same (.str _) (.str _)⟩⟩
theorem tv_vn (h : σ[i]? = some (some (.str p))) : EvN (tTup (tCons (tVar i) (tCons (tC .non) tNil))) σ H0 (Tv K) := fun H s Q k =>
  ⟨_, h, (by show 2 ≤ sizeLine; rw [sizeLine_eq]; omega), fun t nt => k _ _ (Same.new nt) ⟨_, .pair upd_same (.str _) (.no (.base .non) (kit_ty (by decide +kernel)))⟩⟩
theorem tv_iv {n : Int} (h : σ[i]? = some (some (.str p))) : EvN (tTup (tCons (tC (.int n)) (tCons (tVar i) tNil))) σ H0 (Tv K) := fun H s Q k =>
  ⟨_, h, (by show 2 ≤ sizeLine; rw [sizeLine_eq]; omega), fun t nt => k _ _ (Same.new nt) ⟨_, .pair upd_same (.no (.base (.int n)) (kit_ty (by decide +kernel))) (.str _)⟩⟩
theorem tv_lv (h : σ[i]? = some (some (.str p))) : EvN (tTup (tCons (tLst (tCons (tVar i) tNil)) (tCons (tVar i) tNil))) σ H0 (Tv K) := fun H s Q k =>
  ⟨_, h, (by show 1 ≤ sizeLine; rw [sizeLine_eq]; omega), fun l nl => ⟨_, h, (by show 2 ≤ sizeLine; rw [sizeLine_eq]; omega), fun t nt => k _ _ ((Same.new nl).trans (Same.new nt))
    ⟨_, .pair upd_same (.no (.base (.lst (Same.new nt _ _ upd_same))) (kit_ty (by decide +kernel))) (.str _)⟩⟩⟩
theorem tv_vv {j : Nat} {q : Str} (h : σ[i]? = some (some (.str p))) (h2 : σ[j]? = some (some (.str q))) : EvN (tTup (tCons (tVar i) (tCons (tVar j) tNil))) σ H0 (Tv K) := fun H s Q k =>
  ⟨_, h, _, h2, (by show 2 ≤ sizeLine; rw [sizeLine_eq]; omega), fun t nt => k _ _ (Same.new nt) ⟨_, .pair upd_same (.str _) (.str _)⟩⟩
end
/-! ### one statement ahead -/
theorem seq_asg {te : TE} {g : TG} {b : TS} {D : Ends} {σ : L2.St} {H : Hp} (h : te σ H fun x H1 => g x σ H1 (b D)) : tSeq (tAsg te g) b D σ H := h
theorem seq_put {td ty tv : TE} {b : TS} {D : Ends} {σ : L2.St} {H : Hp} (h : tv σ H fun v H1 => td σ H1 fun x H2 => ty σ H2 fun y H3 => ∃ a H4, x = V.ref a ∧ DPut H3 a y v H4 ∧ b D σ H4) : tSeq (sDPut td ty tv) b D σ H := h
theorem g_name {i : Nat} {v : V} {σ : L2.St} {H : Hp} {k : L2.St → Hp → Prop} (h : k (σ.set i (some v)) H) : gName i v σ H k := h
end BF
set_option Elab.async false
set_option linter.all false
set_option maxRecDepth 100000
set_option maxHeartbeats 4000000
namespace BF
open PySem PySem.Spec PyProof.Rows L2
/-! ### ties whose values are pairs of texts -/
abbrev Tr := Str × Str × Str
def rawE (r : Tr) : Str × TV := (r.1, .ends r.2.1 r.2.2)
theorem raw_keys (rs : List Tr) : (rs.map rawE).map (·.1) = rs.map (·.1) := by
  rw [List.map_map]
  exact List.map_congr_left fun _ _ => rfl
theorem raw_of {ps : List Str} : ∀ {es : List (Str × TV)}, (∀ e ∈ es, ∃ a b, e.2 = .ends a b ∧ a ∈ ps ∧ b ∈ ps) → ∃ rs : List Tr, es = rs.map rawE ∧ ∀ r ∈ rs, r.2.1 ∈ ps ∧ r.2.2 ∈ ps
  | [], _ => ⟨[], rfl, fun _ h => by cases h⟩
  | (n, tv) :: es, h => by
    obtain ⟨a, b, e, ha, hb⟩ := h _ List.mem_cons_self
    obtain ⟨rs, e2, h2⟩ := raw_of (es := es) (fun x hx => h x (List.mem_cons_of_mem _ hx))
    have e : tv = .ends a b := e
    refine ⟨(n, a, b) :: rs, by rw [e2, e]; rfl, fun r hr => ?_⟩
    rcases List.mem_cons.mp hr with rfl | hr
    · exact ⟨ha, hb⟩
    · exact h2 r hr
theorem tie_raw {K : PySem.W.Frag} {H : Hp} : ∀ {kvs : List (Key × V)} {rs : List Tr}, Paired (Tie K H) kvs (rs.map rawE) → Paired (Tup2 H) kvs rs
  | [], [], _ => .nil
  | (k, v) :: kvs, r :: rs, .cons p t => by
    obtain ⟨q, e, h⟩ := TVr.get (a := r.2.1) (b := r.2.2) p.2
    exact .cons ⟨p.1, q, e, h⟩ (tie_raw t)
theorem raw_tie {K : PySem.W.Frag} {H : Hp} : ∀ {kvs : List (Key × V)} {rs : List Tr}, Paired (Tup2 H) kvs rs → Paired (Tie K H) kvs (rs.map rawE)
  | _, _, .nil => .nil
  | (k, v) :: kvs, r :: rs, .cons p t => by
    obtain ⟨e, q, e2, h⟩ := p
    have e2 : v = .ref q := e2
    subst e2
    exact .cons ⟨e, TVr.ends h⟩ (raw_tie t)
theorem ties_raw {K : PySem.W.Frag} {H : Hp} {d : Addr} {kvs : List (Key × V)} {rs : List Tr} (h : H d = some (.dK kvs)) (p : Paired (Tup2 H) kvs rs) (nd : (rs.map (·.1)).Nodup) : TiesR K H d (rs.map rawE) := ⟨⟨kvs, h, raw_tie p⟩, by rw [raw_keys]; exact nd⟩
theorem lk_raw : ∀ {rs : List Tr} {r : Tr}, (rs.map (·.1)).Nodup → r ∈ rs → lkE (rs.map rawE) r.1 = some (.ends r.2.1 r.2.2)
  | u :: us, r, nd, h => by
    have nd : (u.1 :: us.map (·.1)).Nodup := nd
    unfold lkE
    rcases List.mem_cons.mp h with rfl | h
    · simp [rawE]
    · have hne : ¬ u.1 = r.1 := fun e => (List.nodup_cons.mp nd).1 (List.mem_map.mpr ⟨r, h, e.symm⟩)
      have ih := lk_raw (List.nodup_cons.mp nd).2 h
      unfold lkE at ih
      rw [List.map_cons, List.find?_cons, show decide ((rawE u).1 = r.1) = false from decide_eq_false hne]
      exact ih
theorem ends_raw {rs : List Tr} {r : Tr} (nd : (rs.map (·.1)).Nodup) (h : r ∈ rs) : endsOf (rs.map rawE) r.1 = srt2 r.2.1 r.2.2 := endsOf_eq (lk_raw nd h)
theorem srt2_swap (a b : Str) : srt2 a b = srt2 b a := by
  unfold srt2
  by_cases h : leS a b = true
  · rw [if_pos h]
    by_cases h2 : leS b a = true
    · rw [if_pos h2, leS_anti a b h h2]
    · rw [if_neg h2]
  · rw [if_neg h]
    have := leS_total a b
    rw [Bool.or_eq_true] at this
    rw [if_pos (this.resolve_left h)]
theorem due_ok {ps : List Str} {rs : List Tr} (h1 : 1 ≤ ps.length) (h16 : ps.length ≤ 16) (hn : ∀ p ∈ ps, isNm p = true) (nd : ps.Nodup) (hk : ∀ r ∈ rs, isNm r.1 = true ∧ r.2.1 ∈ ps ∧ r.2.2 ∈ ps) (ndk : (rs.map (·.1)).Nodup) (hl : rs.length ≤ 24) : dueOf ps (rs.map rawE) = none := by
  have e1 : plF ps = none := by
    unfold plF
    rw [if_pos ⟨h1, h16⟩, fw_none (fun k hk => ?_)]
    · rfl
    · unfold okAt
      rw [List.getElem?_eq_getElem hk]
      simp only [hn _ (List.getElem_mem hk), Bool.true_and, Bool.not_eq_true', decide_eq_false_iff_not]
      intro hm
      obtain ⟨j, hj, e⟩ := List.mem_iff_getElem.mp hm
      rw [List.length_take] at hj
      rw [List.getElem_take] at e
      have := (List.getElem_inj nd).mp e
      omega
  have e2 : tiF ps (rs.map rawE) = none := by
    unfold tiF
    rw [List.find?_eq_none]
    intro n hm
    rw [mem_sortS, raw_keys] at hm
    obtain ⟨r, hr, rfl⟩ := List.mem_map.mp hm
    rw [goodE_of (lk_raw ndk hr)]
    obtain ⟨q1, q2, q3⟩ := hk r hr
    simp [goodT, q1, q2, q3]
  unfold dueOf
  rw [e1, e2]
  simp only [List.length_map, if_neg (show ¬ 24 < rs.length by omega)]
def endR (rs : List Tr) (n : Str) : Str × Str := match rs.find? fun r => decide (r.1 = n) with
  | some r => r.2
  | none => (n, n)
theorem endR_mem : ∀ {rs : List Tr} {n : Str}, n ∈ rs.map (·.1) → (n, endR rs n) ∈ rs
  | u :: us, n, h => by
    unfold endR
    rw [List.find?_cons]
    by_cases e : u.1 = n
    · subst e
      simp
    · rw [decide_eq_false e]
      have h : n = u.1 ∨ n ∈ us.map (·.1) := List.mem_cons.mp h
      have ih := endR_mem (rs := us) (h.resolve_left fun q => e q.symm)
      unfold endR at ih
      exact List.mem_cons_of_mem _ ih
theorem webTies_rev {rs : List Tr} {ns : List Str} (nd : (rs.map (·.1)).Nodup) (pm : ns.Perm (rs.map (·.1))) : webTies ((ns.map fun n => (n, (endR rs n).2, (endR rs n).1)).map rawE) = webTies (rs.map rawE) := by
  have hk : (ns.map fun n => ((n, (endR rs n).2, (endR rs n).1) : Tr)).map (·.1) = ns := by
    rw [List.map_map]
    exact (List.map_congr_left fun _ _ => rfl).trans (List.map_id _)
  have hnd : ((ns.map fun n => ((n, (endR rs n).2, (endR rs n).1) : Tr)).map (·.1)).Nodup := by
    rw [hk]
    exact pm.nodup_iff.mpr nd
  unfold webTies
  rw [raw_keys, raw_keys, hk, sortS_of_perm pm]
  refine List.map_congr_left fun n hn => ?_
  have hn : n ∈ rs.map (·.1) := (mem_sortS _ _).mp hn
  have h1 := ends_raw nd (endR_mem hn)
  have h2 := ends_raw hnd (List.mem_map.mpr ⟨n, pm.mem_iff.mpr hn, rfl⟩)
  have h1 : endsOf (rs.map rawE) n = srt2 (endR rs n).1 (endR rs n).2 := h1
  have h2 : endsOf ((ns.map fun n => ((n, (endR rs n).2, (endR rs n).1) : Tr)).map rawE) n = srt2 (endR rs n).2 (endR rs n).1 := h2
  rw [h1, h2, srt2_swap]
theorem webTies_mem {rs : List Tr} (nd : (rs.map (·.1)).Nodup) {t : Tr} (h : t ∈ webTies (rs.map rawE)) : ∃ r ∈ rs, t = (r.1, srt2 r.2.1 r.2.2) := by
  unfold webTies at h
  obtain ⟨n, hn, rfl⟩ := List.mem_map.mp h
  rw [mem_sortS, raw_keys] at hn
  obtain ⟨r, hr, rfl⟩ := List.mem_map.mp hn
  exact ⟨r, hr, by rw [ends_raw nd hr]⟩
theorem webTies_len (rs : List Tr) : (webTies (rs.map rawE)).length = rs.length := by
  unfold webTies
  rw [List.length_map, sortS_length, List.length_map, List.length_map]
theorem mem_webTies {rs : List Tr} (nd : (rs.map (·.1)).Nodup) {r : Tr} (h : r ∈ rs) : (r.1, srt2 r.2.1 r.2.2) ∈ webTies (rs.map rawE) := by
  unfold webTies
  refine List.mem_map.mpr ⟨r.1, (mem_sortS _ _).mpr (by rw [raw_keys]; exact List.mem_map.mpr ⟨r, h, rfl⟩), ?_⟩
  rw [ends_raw nd h]
/-! ### dict(list of pairs) -/
abbrev PT (H : Hp) : Addr → Tr → Prop := fun q e => ∃ t, H q = some (.tup [.str e.1, .ref t]) ∧ H t = some (.tup [.str e.2.1, .str e.2.2])
theorem pt_same {H H' : Hp} (s : Same H H') {qs : List Addr} {ts : List Tr} (h : Paired (PT H) qs ts) : Paired (PT H') qs ts := Paired.imp (fun _ _ ⟨t, a, b⟩ => ⟨t, s _ _ a, s _ _ b⟩) h
theorem pt_kvs {K : PySem.W.Frag} {H : Hp} : ∀ {qs : List Addr} {ts : List Tr}, Paired (PT H) qs ts → ∃ kvs : List (Key × V), Paired (fun p kv => SqT K H p [kV kv.1, kv.2]) qs kvs ∧ Paired (Tup2 H) kvs ts
  | _, _, .nil => ⟨[], .nil, .nil⟩
  | q :: qs, e :: ts, .cons p h => by
    obtain ⟨kvs, h1, h2⟩ := pt_kvs (K := K) h
    obtain ⟨t, a, b⟩ := p
    exact ⟨(.inr e.1, .ref t) :: kvs, .cons (SqT.of a) h1, .cons ⟨rfl, t, rfl, b⟩ h2⟩
theorem mergeK_app : ∀ (kvs acc : List (Key × V)), ((acc ++ kvs).map (·.1)).Nodup → mergeK acc kvs = acc ++ kvs
  | [], acc, _ => by rw [List.append_nil]; rfl
  | kv :: kvs, acc, nd => by
    have hv : valV acc kv.1 = none := valV_none (fun h => by
      rw [List.map_append, List.nodup_append] at nd
      exact nd.2.2 _ h kv.1 List.mem_cons_self rfl)
    have ih := mergeK_app kvs (acc ++ [kv]) (by rw [List.append_assoc]; exact nd)
    show mergeK (putK acc kv.1 kv.2) kvs = _
    rw [putK_new _ hv, ih, List.append_assoc]
    rfl
theorem mergeK_nd {H : Hp} {kvs : List (Key × V)} {ts : List Tr} (h : Paired (Tup2 H) kvs ts) (nd : (ts.map (·.1)).Nodup) : mergeK [] kvs = kvs := by
  refine mergeK_app kvs [] ?_
  rw [List.nil_append, keys2 h]
  exact nodup_inr nd
  where nodup_inr {l : List Str} (h : l.Nodup) : (l.map (Sum.inr : Str → Key)).Nodup := List.Pairwise.map _ (fun a b hne e => hne (Sum.inr.inj e)) h
/-- a lock is taken off -/
theorem lock_same {H H' : Hp} {d : Addr} {od : Obj} {u : HO} (hd : H d = some u) (s : Same (upd H d (.frz od u)) H') : Same H (upd H' d u) := fun b o e => by
  by_cases q : b = d
  · subst q
    rw [upd_same, ← e, hd]
  · rw [upd_ne q]
    exact s _ _ (by rw [upd_ne q]; exact e)
theorem at2 {H : Hp} : ∀ {kvs : List (Key × V)} {rs : List Tr} {i : Nat} {kv : Key × V}, Paired (Tup2 H) kvs rs → kvs[i]? = some kv → ∃ r, rs[i]? = some r ∧ Tup2 H kv r
  | _, _, 0, kv, .cons p t, h => by
    cases Option.some.inj h
    exact ⟨_, rfl, p⟩
  | _, _, i + 1, kv, .cons p t, h => at2 (i := i) t h
theorem get2' {H : Hp} {kvs : List (Key × V)} {rs : List Tr} {r : Tr} (h : Paired (Tup2 H) kvs rs) (nd : (rs.map (·.1)).Nodup) (hr : r ∈ rs) : ∃ t, valV kvs (.inr r.1) = some (.ref t) ∧ H t = some (.tup [.str r.2.1, .str r.2.2]) := get2 (n := r.1) (e := r.2) h nd hr
def strOf : V → Str
  | .str z => z
  | _ => ""
theorem perm_strs {ys : List V} {ps : List Str} (h : ys.Perm (ps.map V.str)) : ∃ qs : List Str, ys = qs.map V.str ∧ qs.Perm ps := by
  refine ⟨ys.map strOf, ?_, ?_⟩
  · rw [List.map_map]
    refine ((List.map_congr_left fun y hy => ?_).trans (List.map_id ys)).symm
    obtain ⟨z, _, rfl⟩ := List.mem_map.mp (h.mem_iff.mp hy)
    rfl
  · have e := h.map strOf
    rw [List.map_map] at e
    rw [show (strOf ∘ V.str) = id from rfl, List.map_id] at e
    exact e
theorem keysV {H : Hp} {kvs : List (Key × V)} {rs : List Tr} (h : Paired (Tup2 H) kvs rs) : (kvs.map fun kv => kV kv.1) = (rs.map (·.1)).map V.str := by
  have e := congrArg (List.map kV) (keys2 h)
  rw [List.map_map, List.map_map] at e
  rw [show (fun kv : Key × V => kV kv.1) = kV ∘ (fun x => x.1) from rfl, e]
  rfl
theorem key_uniq {n : Str} {e f : Str × Str} : ∀ {ts : List Tr}, (ts.map (·.1)).Nodup → (n, e) ∈ ts → (n, f) ∈ ts → e = f
  | u :: us, nd, h1, h2 => by
    have nd : (u.1 :: us.map (·.1)).Nodup := nd
    have no : ∀ g, (n, g) ∈ us → u.1 ≠ n := fun g hg q => (List.nodup_cons.mp nd).1 (List.mem_map.mpr ⟨_, hg, q.symm⟩)
    rcases List.mem_cons.mp h1 with q1 | q1
    · rcases List.mem_cons.mp h2 with q2 | q2
      · exact (Prod.mk.inj (q1.trans q2.symm)).2
      · exact absurd (congrArg (·.1) q1).symm (no _ q2)
    · rcases List.mem_cons.mp h2 with q2 | q2
      · exact absurd (congrArg (·.1) q2).symm (no _ q1)
      · exact key_uniq (List.nodup_cons.mp nd).2 q1 q2
theorem replicate_snoc (i : Nat) : (List.replicate (i + 1) true).map V.bl = (List.replicate i true).map V.bl ++ [V.bl true] := by
  rw [List.replicate_succ', List.map_append]
  rfl
theorem all_replicate (n : Nat) : (List.replicate n true).all id = true := by
  rw [List.all_eq_true]
  intro x hx
  rw [(List.mem_replicate.mp hx).2]
  rfl
theorem replicate_snocF (i : Nat) : (List.replicate (i + 1) false).map V.bl = (List.replicate i false).map V.bl ++ [V.bl false] := by
  rw [List.replicate_succ', List.map_append]
  rfl
theorem any_replicate (n : Nat) : (List.replicate n false).any id = false := by
  rw [List.any_eq_false]
  intro x hx
  rw [(List.mem_replicate.mp hx).2]
  simp
theorem take_filter {p : Tr → Bool} {l : List Tr} {i : Nat} {r : Tr} (h : l[i]? = some r) : (l.take (i + 1)).filter p = (l.take i).filter p ++ if p r = true then [r] else [] := by
  rw [List.take_succ, h, List.filter_append]
  congr 1
  by_cases e : p r = true
  · simp [e]
  · simp [e]
end BF
set_option Elab.async false
set_option linter.all false
set_option maxRecDepth 100000
set_option maxHeartbeats 4000000
/-! Texts repeated, min of texts, max with a default, C(.., k = v) with a keyword alone, == with values of other classes, a dict comprehension over any walk. -/
namespace BF
open PySem PySem.Spec PyProof.Rows L2
/-! ### a text many times -/
def rRepS : R2 := fun x y H Q => ∃ (z : Str) (k : Int), x = .str z ∧ y = .int k ∧ 0 ≤ k ∧ k ≤ 1000 ∧ z.length ≤ 1000 ∧ Q (.str (Txt.mul z k)) H
theorem op_repS {X : Cx} : OpR X (binaryOp .Mult) rRepS := by
  rintro pins s σ H x y v u Q I rx ry ⟨z, k, rfl, rfl, h1, h2, h3, q⟩
  obtain ⟨t, rfl⟩ := rx
  obtain ⟨t2, rfl⟩ := ry
  exact SB.mul (mulOk_of 1000 1000 h3 h2 (by omega) (by omega) (by omega)) fun t3 tk => ⟨.str (Txt.mul z k), H, I.tok _, ⟨_, rfl⟩, q⟩
theorem rep_foldl (c : Nat) : ∀ (n : Nat) (acc : Array Nat), ((List.replicate n (#[c] : Array Nat)).foldl (· ++ ·) acc).toList = acc.toList ++ List.replicate n c
  | 0, acc => by simp
  | n + 1, acc => by
    rw [List.replicate_succ, List.foldl_cons, rep_foldl c n, Array.toList_append, List.replicate_succ, List.append_assoc]
    rfl
theorem mul_sign (c : Nat) {k : Int} (h : 1 ≤ k) : Txt.mul (SX.S [c]) k = SX.S (List.replicate k.toNat c) := by
  unfold Txt.mul
  rw [if_neg (by omega)]
  split
  · rename_i e
    have e : (k == 1) = true := by
      rw [Bool.or_eq_true] at e
      rcases e with e | e
      · exact e
      · rw [SX.S_len] at e
        cases e
    rw [beq_iff_eq.mp e]
    rfl
  · refine str_ext ?_
    show ((List.replicate k.toNat (#[c] : Array Nat)).foldl (· ++ ·) #[]).toList = _
    rw [rep_foldl]
    rfl
/-! ### min of texts -/
def leastS (z : Str) (zs : List Str) : Str := zs.foldl (fun a y => if decide (y.cps.toList < a.cps.toList) = true then y else a) z
theorem minD_strs : ∀ (zs : List Str) (z : Str), PySem.W.minD (.str z) (zs.map PyData.str) = .str (leastS z zs)
  | [], z => rfl
  | y :: r, z => by
    have ih := minD_strs r (if decide (y.cps.toList < z.cps.toList) = true then y else z)
    unfold PySem.W.minD leastS at ih ⊢
    rw [List.map_cons, List.foldl_cons, List.foldl_cons, ← ih]
    congr 1
    rw [PySem.W.dataLt_str]
    split <;> rfl
theorem leastS_mem : ∀ (zs : List Str) (z : Str), leastS z zs ∈ z :: zs
  | [], z => List.mem_cons_self
  | y :: r, z => by
    have ih := leastS_mem r (if decide (y.cps.toList < z.cps.toList) = true then y else z)
    show leastS _ r ∈ _
    rcases List.mem_cons.mp ih with e | e
    · unfold leastS at e ⊢
      rw [e]
      split
      · exact List.mem_cons_of_mem _ List.mem_cons_self
      · exact List.mem_cons_self
    · exact List.mem_cons_of_mem _ (List.mem_cons_of_mem _ e)
theorem leastS_le : ∀ (zs : List Str) (z : Str), ∀ y ∈ z :: zs, leS (leastS z zs) y = true
  | [], z, y, h => by
    rw [List.mem_singleton.mp h]
    have := leS_total z z
    rw [Bool.or_self] at this
    exact this
  | y :: r, z, x, h => by
    have ih := leastS_le r (if decide (y.cps.toList < z.cps.toList) = true then y else z)
    show leS (leastS (if decide (y.cps.toList < z.cps.toList) = true then y else z) r) x = true
    have h0 := ih _ List.mem_cons_self
    by_cases c : y.cps.toList < z.cps.toList
    · rw [if_pos (decide_eq_true c)] at ih h0 ⊢
      rcases List.mem_cons.mp h with rfl | h
      · refine leS_trans _ _ _ h0 ?_
        have := leS_total x y
        rw [Bool.or_eq_true] at this
        rcases this with q | q
        · unfold leS at q
          rw [decide_eq_true c] at q
          cases q
        · exact q
      · rcases List.mem_cons.mp h with rfl | h
        · exact h0
        · exact ih _ (List.mem_cons_of_mem _ h)
    · rw [if_neg (by rw [decide_eq_false c]; decide)] at ih h0 ⊢
      rcases List.mem_cons.mp h with rfl | h
      · exact h0
      · rcases List.mem_cons.mp h with rfl | h
        · refine leS_trans _ _ _ h0 ?_
          unfold leS
          rw [decide_eq_false c]
          rfl
        · exact ih _ (List.mem_cons_of_mem _ h)
theorem depth_strs (zs : List Str) : PyData.depthAll (zs.map PyData.str) = 0 := by
  induction zs with
  | nil => rfl
  | cons z r ih =>
    show max (PyData.depth (.str z)) (PyData.depthAll (r.map PyData.str)) = 0
    rw [ih]
    simp [PyData.depth]
theorem alike_strs (zs : List Str) : PySem.W.AlikeAll (zs.map PyData.str) := by
  refine ⟨fun x hx y hy => ?_, fun x hx => ?_⟩
  · obtain ⟨a, _, rfl⟩ := List.mem_map.mp hx
    obtain ⟨b, _, rfl⟩ := List.mem_map.mp hy
    rfl
  · obtain ⟨a, _, rfl⟩ := List.mem_map.mp hx
    exact fun h => by cases h
def rMinS (K : PySem.W.Frag) : List V → Hp → VK → Prop := fun vs H Q => ∃ (a : Addr) (z : Str) (zs : List Str), vs = [.ref a] ∧ SqL K H a ((z :: zs).map V.str) ∧ Q (.str (leastS z zs)) H
theorem minSK {X : Cx} {k : Nat} (K : PySem.W.Frag) (hc : X.calm = true) (hr : Room k X.A) (h : X.K = K := by rfl) : CallR X (.builtin "min") (rMinS K) := by
  subst h
  rintro pins s σ H vs us Q I r ⟨a, z, zs, rfl, hs, q⟩
  obtain ⟨its, rv, hl, _⟩ := I.list hs
  rw [Vals.ref1 r]
  obtain ⟨as, hr2⟩ := Dp.readsAll I _ _ _ (dpAll_strs (z :: zs)) rv
  refine PySem.W.min_list_data (x := .str z) (xs := zs.map PyData.str) (I.ok.hd hc) hl.isList (as := as) ?_ (alike_strs (z :: zs)) ?_ fun i v h2 tk bs hv hrd hk => ?_
  · simpa using hr2
  · have e := depth_strs (z :: zs)
    have un := hr.un
    show _ + 1 + PyData.depthAll ((z :: zs).map PyData.str) < cLine
    rw [e]
    omega
  · rw [minD_strs] at hrd
    cases hrd
    exact ⟨.str _, H, I.kept hk, ⟨_, rfl⟩, q⟩
/-! ### max of ints, with a default -/
def greatestI (d : Int) : List Int → Int
  | [] => d
  | n :: r => r.foldl max n
theorem dpAll_ints {K : PySem.W.Frag} {H : Hp} : ∀ ns : List Int, DpAll K H (ns.map V.int) (ns.map PyData.int)
  | [] => .nil
  | n :: r => .cons (.int n) (dpAll_ints r)
theorem depth_ints (ns : List Int) : PyData.depthAll (ns.map PyData.int) = 0 := by
  induction ns with
  | nil => rfl
  | cons z r ih =>
    show max (PyData.depth (.int z)) (PyData.depthAll (r.map PyData.int)) = 0
    rw [ih]
    simp [PyData.depth]
theorem alike_ints (ns : List Int) : PySem.W.AlikeAll (ns.map PyData.int) := by
  refine ⟨fun x hx y hy => ?_, fun x hx => ?_⟩
  · obtain ⟨a, _, rfl⟩ := List.mem_map.mp hx
    obtain ⟨b, _, rfl⟩ := List.mem_map.mp hy
    rfl
  · obtain ⟨a, _, rfl⟩ := List.mem_map.mp hx
    exact fun h => by cases h
def rMaxDf (K : PySem.W.Frag) : List V → List V → Hp → VK → Prop := fun vs zs H Q => ∃ (a : Addr) (ns : List Int) (d : Int), vs = [.ref a] ∧ zs = [.int d] ∧ SqL K H a (ns.map V.int) ∧ Q (.int (greatestI d ns)) H
theorem maxDfK {X : Cx} {k : Nat} (K : PySem.W.Frag) (hc : X.calm = true) (hr : Room k X.A) (h : X.K = K := by rfl) : CallRK X (.builtin "max") [Str.ofString "default"] (rMaxDf K) := by
  subst h
  rintro pins s σ H vs zs us ws Q I r r2 ⟨a, ns, d, rfl, rfl, hs, q⟩
  obtain ⟨its, rv, hl, _⟩ := I.list hs
  rw [Vals.ref1 r]
  cases r2 with
  | cons rd r3 =>
    cases r3
    obtain ⟨t, rfl⟩ := rd
    obtain ⟨as, hr2⟩ := Dp.readsAll I _ _ _ (dpAll_ints ns) rv
    refine PySem.W.max_list_default (xs := ns.map PyData.int) (I.ok.hd hc) hl.isList (as := as) ?_ (alike_ints ns) ?_ (fun e h2 tk hk => ?_) fun y ys i v h2 tk bs e hv hrd hk => ?_
    · simpa using hr2
    · have un := hr.un
      rw [depth_ints]
      omega
    · cases ns with
      | nil => exact ⟨.int d, H, I.kept hk, ⟨_, rfl⟩, q⟩
      | cons n r => cases e
    · cases ns with
      | nil => cases e
      | cons n r =>
        cases e
        rw [PySem.W.maxD_ints] at hrd
        cases hrd
        exact ⟨.int _, H, I.kept hk, ⟨_, rfl⟩, q⟩
/-! ### a class whose __init__ has a parameter by name alone -/
structure MakXK (P : Program) (w : World) (K : PySem.W.Frag) (mg : Str → Option Value) (base : Heap) (k : Nat) (x : Str) (C : Addr) (n : Nat) (ks : List Str) (sp : Sp) : Prop where
  ex : ∃ (f : Addr) (fd : FuncData) (ps : List Str), Mk K C f ∧ FnOk P w K mg base (L2.CX P w) k f fd ps sp ∧ mg x = some (.ref C) ∧ KBn K fd ps (n + 1) ks (fun us ws => us ++ ws) (fun vs zs => vs ++ zs)
def tMakeKS (C : Addr) (n m : Nat) (sp : Sp) (E : L2.St → XK) (t tk : TA) : TE := fun σ H Q => t σ H fun vs G => tk σ G fun zs G2 => vs.length = n ∧ zs.length = m ∧
  ∀ x dx, G2 x = none → G2 dx = none → dx ≠ x → sp ((.ref x :: vs) ++ zs) (upd (upd G2 dx (.own x)) x (.ins C dx [])) (fun v G3 => v = .non ∧ Q (.ref x) G3) (E σ)
section
variable {X : Cx} {k j n : Nat} {C : Addr} {x : Str} {ks : List Str} {sp : Sp} {p pos : Pos} {e : Expr} {es : List Expr} {kws : List Keyword} {t tk : TA}
theorem pe_mkKN (c : MakXK X.prog X.w X.K X.mg X.base k x C n ks sp) (hr : Room j X.A) (hk : k + 1 ≤ j) (ha : PA X (e :: es) t) (hkw : PK X kws tk) (hg : Gl X x := by rfl)
    (hall : (backToKw pos (keywordEach kws X.env)).all (·.1.isSome) = true := by rfl) (hks : (backToKw pos (keywordEach kws X.env)).filterMap (·.1) = ks := by rfl) (hdb : (x == ("__debug__" : Str)) = false := by decide)
    (he : starEach (e :: es) X.env = (false, eval e X.env) :: starEach es X.env := by rfl) (hpl : ((backTo pos (starEach (e :: es) X.env)).any (·.1) || (backToKw pos (keywordEach kws X.env)).any (·.1.isNone)) = false := by rfl) :
    PE X (.Call (.Name x p) (e :: es) kws pos) (tMakeK C n ks.length sp (fun vs zs => vs ++ zs) (fun _ _ _ => False) t tk) := by
  obtain ⟨f, fd, ps, M, F, hm, b⟩ := c.ex
  exact pe_makeK M F (hr.mono hk) hg hm b (passN rfl) ha hkw hall hks hdb he hpl
theorem pe_mkKS (c : MakXK X.prog X.w X.K X.mg X.base k x C n ks sp) (hr : Room j X.A) (hk : k + 1 ≤ j) {E : L2.St → XK} (hx : ∀ σ, PassesAt (L2.CX X.prog X.w) X σ (E σ)) (ha : PA X (e :: es) t) (hkw : PK X kws tk) (hg : Gl X x := by rfl)
    (hall : (backToKw pos (keywordEach kws X.env)).all (·.1.isSome) = true := by rfl) (hks : (backToKw pos (keywordEach kws X.env)).filterMap (·.1) = ks := by rfl) (hdb : (x == ("__debug__" : Str)) = false := by decide)
    (he : starEach (e :: es) X.env = (false, eval e X.env) :: starEach es X.env := by rfl) (hpl : ((backTo pos (starEach (e :: es) X.env)).any (·.1) || (backToKw pos (keywordEach kws X.env)).any (·.1.isNone)) = false := by rfl) :
    PE X (.Call (.Name x p) (e :: es) kws pos) (tMakeKS C n ks.length sp E t tk) := by
  obtain ⟨fI, data, names, M, F, glob, binds⟩ := c.ex
  have room := hr.mono hk
  constructor
  intro pins s σ H Q I w
  refine wpAny_Call_Name_kw (ld_glob I hg glob (PySem.W.callWith_KW (h₀ := X.base) I.ok.mod.kin M.kp hall (thn (ha.run pos pins s σ H _ I w) ?_) hpl he) hdb)
  rintro us s2 ⟨vs, G, J, rel, w2⟩
  refine thn (hkw.run pos pins s2 σ G _ J w2) ?_
  rintro ws s3 ⟨zs, G2, J2, rel2, n1, n2, w3⟩
  refine ⟨J2.kIn, ?_⟩
  rw [hks]
  let m := s3.heap.objs.size
  have sat := w3 (m + 1) m (J2.hok.fresh (Nat.le_succ _)) (J2.hok.fresh (Nat.le_refl _)) (Nat.ne_of_lt (Nat.lt_succ_self _))
  have made := Inv.made (C := C) J2
  have args : Vals (V.ref (m + 1) :: vs) (Value.ref (m + 1) :: us) := .cons rfl rel
  have many : (Value.ref (m + 1) :: us).length = n + 1 := by
    have := rel.length
    rw [List.length_cons, ← this, n1]
  have bound := binds.to _ (Value.ref (m + 1) :: us) ws made.kIn many (rel2.length.symm.trans n2)
  have runs := F.run _ X.stack _ _ ⟨Value.ref (m + 1) :: us, ks.zip ws⟩ _ _ _ (E σ) (room.make C us (ks.zip ws)) (made.env0.make C us (ks.zip ws)) bound (binds.rel args rel2) sat
  refine wpAny_call (make_map (f := fI) J2.kIn M.makes M.init (beq_iff_eq.mp M.fn) (codeAny_mono runs fun out t2 q => ?_))
  match out, q with
  | .error e, q => exact hx σ pins _ _ e t2 made q
  | .ok (.ret u), q =>
    obtain ⟨v, G3, J3, rv, ev, q2⟩ := made.after q
    cases ev
    exact ⟨rv, V.ref (m + 1), G3, J3, rfl, q2⟩
end
/-! ### == of an instance and a value of another class, by the class's own __eq__ -/
section
variable {X : Cx} {n : Nat} {C f : Addr} {fd : FuncData} {ps : List Str} {sp : Sp}
def rEqX (K : PySem.W.Frag) (C : Addr) (sp : Sp) : R2 := fun x y H Q => ∃ (a dx : Addr) (fs : List (Str × V)) (t : Value), x = .ref a ∧ H a = some (.ins C dx fs) ∧ TyX K H y t ∧ PySem.W.notFirst K C t = true ∧ sp [.ref a, y] H (fun v G => ∃ r, v = .bl r ∧ Q (.bl r) G) (fun _ _ _ => False)
theorem op_eqX (K : PySem.W.Frag) (F : FnOk X.prog X.w X.K X.mg X.base C8.CX0 n f fd ps sp) (hb : Binds X.K fd ps []) (T : NeC X.K C f) (hr : Room n X.A) (hK : X.K = K := by rfl) : OpR X (compareOp .Eq) (rEqX K C sp) := by
  subst hK
  rintro pins s σ H x y u v Q I rx ry ⟨a, dx, fs, t, rfl, ha, ty, nf, hs⟩
  cases rx
  obtain ⟨mA, J, _⟩ := ins_get I.hok ha
  obtain ⟨od, J, _⟩ := J.look
  obtain ⟨m, hF⟩ := I.fr
  obtain ⟨P0, kx, hp, _⟩ := kit_of I ry ty
  refine PySem.W.cmp_K (op := .Eq) (tb := t) hr.units0 hF I.ok.mod.kin J (kx.ty _ _ I.kIn hp) nf T.eq T.fn ?_
  have e0 := I.env0
  have hx : Passes C8.CX0 X (fun _ _ _ => False) := C8.pass0
  have r2 : Vals [V.ref a, y] [Value.ref a, v] := .cons rfl (.cons ry .nil)
  have hl := F.len _ _ _ _ hs
  have bb := hb s [.ref a, v] I.kIn (by rw [List.append_nil]; exact hl)
  rw [List.append_nil] at bb
  refine wpAny_call (codeAny_mono (F.run X.A X.stack s H ⟨[.ref a, v], []⟩ _ _ _ _ hr e0 bb r2 hs) fun out s2 hq => ?_)
  match out, hq with
  | .error e, hq => exact hx _ _ _ _ _ _ I hq
  | .ok (.ret w), hq =>
    obtain ⟨z, G, J2, rz, r, rfl, q⟩ := I.after hq
    cases rz
    exact ⟨.bl r, G, J2, rfl, q⟩
end
/-! ### isinstance of a caught error that has a dict of its own -/
structure IsC (K : PySem.W.Frag) (D : Addr) : Prop where
  cl : PySem.W.isClsIn K D = true
  xf : XfC K D
  ca : PySem.W.findIn K (.ref D) "__class__" = some (some (.builtin "object.__class__"))
  cg : PySem.W.specialIn K (.builtin "object.__class__") "__get__" = some (some (.builtin "getset_descriptor.__get__"))
  ct : PySem.W.takesIn K (.builtin "object.__class__") = some true
  cm : PySem.W.mroIn K D (.type "object") = some true
def rIsD (K : PySem.W.Frag) (D : Addr) (cls : Value) (d : Option Addr) (a : Addr) : List V → Hp → VK → Prop := fun xs H Q => ∃ (c : V) (u : Value) (b : Bool) (dd : Addr) (fs : List (Str × V)), xs = [.ref a, c] ∧ ClsV c u ∧ cls = .ref D ∧ d = some dd ∧ H dd = some (.xd fs) ∧ PySem.W.kitOne K (.ref D) u = some b ∧ Q (.bl b) H
theorem call_isD {X : Cx} {a D : Addr} {oe : Obj} {cls : Value} {d : Option Addr} {pn : List (Addr × Obj)} (C : IsC X.K D) (hz : Zc cls d oe) (hf : ∃ vs, oe.data = .fields vs) : CallR (X.suite a ((a, oe) :: pn)) (.builtin "isinstance") (rIsD X.K D cls d a) := by
  rintro pins s σ H xs us Q I r ⟨c, u, b, dd, fs, rfl, hc, rfl, rfl, hd, e, q⟩
  match us, r with
  | [v, w], .cons rv (.cons rw .nil) =>
    cases rv
    have ec := hc.eq rw
    subst ec
    obtain ⟨at1, _⟩ := I.pin (a, oe) (List.mem_append_left _ List.mem_cons_self)
    obtain ⟨vs, hv⟩ := hf
    obtain ⟨mA, hns, _⟩ := (show ObjOk X.prog X.w H s.heap dd (.xd fs) from I.hok dd _ hd)
    obtain ⟨od, ho, _⟩ := lookIn_ns hns
    have J : PySem.W.InstAt s.heap a oe D (some od) := ⟨at1, hz.1, by unfold PySem.W.notCls; rw [hv] <;> rfl, by rw [hz.2]; exact ho⟩
    exact PySem.W.kia_one (PySem.W.kitx_exc C.cl C.xf.ga C.xf.gg C.xf.exC C.ca C.cg C.ct C.cm) I.kIn J e (fun z => nomatch z) fun tk => ⟨.bl b, H, I.kept (t' := tk) fun _ _ z => z, rfl, q⟩
theorem kit_sub {K : PySem.W.Frag} {t : Value} {C : Addr} {r : Bool} (h1 : PySem.W.isClsIn K C = true) (h2 : PySem.W.typeIn K (.ref C) = some (.type "type")) (h3 : PySem.W.subIn K t (.ref C) = some r) (h4 : r = true ∨ t ≠ .ref C) : PySem.W.kitOne K t (.ref C) = some r := by
  unfold PySem.W.kitOne
  by_cases c : (t == Value.ref C) = true
  · rw [if_pos c]
    rcases h4 with h4 | h4
    · rw [h4]
    · exact absurd (beq_iff_eq.mp c) h4
  · rw [if_neg c]
    unfold PySem.W.kitCls
    have e : ((PySem.W.clsIn K C).isSome && PySem.W.typeIn K (.ref C) == some (.type "type")) = true := Bool.and_eq_true_iff.mpr ⟨h1, beq_iff_eq.mpr h2⟩
    show (if _ = true then _ else _) = _
    rw [if_pos e]
    exact h3
theorem nf_of {K : PySem.W.Frag} {t : Value} {C : Addr} (h : PySem.W.subIn K t (.ref C) = some false) : PySem.W.notFirst K C t = true := by
  unfold PySem.W.notFirst
  rw [h]
  exact Bool.or_true _
/-! ### a dict comprehension over any walk -/
theorem dc_it {J : It} {n : Nat} {G : Hp → Prop} {Y : Nat → Hp → V → Hp → Prop} (w : Walk J n G Y) {g : TG} {tt : TT} {tk tv : TE} {vs : List Nat} {σ : L2.St} {H0 : Hp} {D : Addr} {Qd : Hp → Prop} (Pv : Nat → Hp → Prop) (h0 : Pv 0 (upd H0 D (.dK []))) (hG : ∀ i H, i ≤ n → Pv i H → G H)
    (hs : ∀ i x H H2, i < n → Pv i H → Y i H x H2 → g x (wipe σ vs) H2 fun σ2 H3 => wipe σ2 vs = wipe σ vs ∧ tt σ2 H3 fun b H4 =>
      if b = true then tk σ2 H4 fun y H5 => tv σ2 H5 fun z H6 => ∃ kvs k, y = kV k ∧ H6 D = some (.dK kvs) ∧ kvs.length < sizeLine ∧ Pv (i + 1) (upd H6 D (.dK (putK kvs k z))) else Pv (i + 1) H4) (hd : ∀ H, Pv n H → Qd H) :
    ∃ W : Nat → Nat → Hp → Prop, (∃ m, W 0 m (upd H0 D (.dK []))) ∧ ∀ i m H, W i m H →
      (J.stop i H ∧ Qd H) ∨ (J.go i H ∧ ∃ Nx : Hp → Prop, (∀ H2, Nx H2 → ∃ m2, m2 < m ∧ W (i + 1) m2 H2) ∧ ∀ x H2, J.yld i H x H2 → g x (wipe σ vs) H2 fun σ2 H3 => wipe σ2 vs = wipe σ vs ∧ tt σ2 H3 fun b H4 =>
        if b = true then tk σ2 H4 fun y H5 => tv σ2 H5 fun z H6 => ∃ kvs k, y = kV k ∧ H6 D = some (.dK kvs) ∧ kvs.length < sizeLine ∧ Nx (upd H6 D (.dK (putK kvs k z))) else Nx H4) := by
  refine ⟨fun i left H => left = n - i ∧ (i ≤ n ∧ Pv i H), ⟨n, by omega, Nat.zero_le n, h0⟩, ?_⟩
  rintro i m H ⟨rfl, hi, p⟩
  have q := hG i H hi p
  by_cases c : i < n
  · exact .inr ⟨w.goes i H c q, Pv (i + 1), fun H2 p2 => ⟨n - (i + 1), by omega, rfl, c, p2⟩, fun x H2 y => hs i x H H2 c p (w.yields i H x H2 c q y)⟩
  · have e : i = n := by omega
    subst e
    exact .inl ⟨w.stops H q, hd H p⟩
end BF
set_option Elab.async false
set_option linter.all false
set_option maxRecDepth 100000
set_option maxHeartbeats 4000000
namespace BF
open PySem PySem.Spec PyProof.Rows L2
/-! ### the state of the laws that begin with a state: at w a list of the script's copy (at c) and five ints -/
def isSt : HO → Bool
  | .lst [.ref _, .int _, .int _, .int _, .int _, .int _] => true
  | _ => false
structure StAt (H : Hp) (w c : Addr) : Prop where
  ex : ∃ (i : Nat) (x y z u : Int), H w = some (.lst [.ref c, .int (i : Nat), .int x, .int y, .int z, .int u])
  cp : ∃ ns : List Int, H c = some (.lst (ns.map V.int)) ∧ ns.length ≤ 1000
/-- all but the state stands, the state is a state still -/
structure KpS (w c : Addr) (H H' : Hp) : Prop where
  keep : ∀ b o, b ≠ w → H b = some o → H' b = some o
  st : StAt H w c → StAt H' w c
theorem int_head {a : Addr} {r : List V} {ns : List Int} : V.ref a :: r ≠ ns.map V.int := fun e => by
  cases ns with
  | nil => cases e
  | cons n r => cases e
section
variable {H H' H1 H2 : Hp} {w c p : Addr} {o : HO}
theorem StAt.cw (h : StAt H w c) : c ≠ w := fun e => by
  obtain ⟨⟨i, x, y, z, u, q⟩, ns, q2, _⟩ := h
  rw [e, q] at q2
  exact int_head (HO.lst.inj (Option.some.inj q2))
theorem StAt.ne (h : StAt H w c) (hp : H p = none) : p ≠ w := fun e => by
  obtain ⟨⟨i, x, y, z, u, q⟩, _⟩ := h
  rw [e, q] at hp
  cases hp
theorem StAt.nc (h : StAt H w c) (hp : H p = none) : p ≠ c := fun e => by
  obtain ⟨_, ns, q, _⟩ := h
  rw [e, q] at hp
  cases hp
theorem StAt.neo (h : StAt H w c) (hp : H p = some o) (ho : isSt o = false) : p ≠ w := fun e => by
  obtain ⟨⟨i, x, y, z, u, q⟩, _⟩ := h
  rw [e, q] at hp
  cases hp
  exact absurd ho (by simp [isSt])
theorem KpS.refl (w c : Addr) (H : Hp) : KpS w c H H := ⟨fun _ _ _ h => h, id⟩
theorem KpS.trans (a : KpS w c H H1) (b : KpS w c H1 H2) : KpS w c H H2 := ⟨fun c o n h => b.keep c o n (a.keep c o n h), fun h => b.st (a.st h)⟩
theorem StAt.same (h : StAt H w c) (s : Same H H') : StAt H' w c := by
  obtain ⟨⟨i, x, y, z, u, q⟩, ns, q2, hl⟩ := h
  exact ⟨⟨i, x, y, z, u, s _ _ q⟩, ns, s _ _ q2, hl⟩
theorem KpS.same (s : Same H H') : KpS w c H H' := ⟨fun c o _ h => s c o h, fun h => h.same s⟩
theorem KpS.get (k : KpS w c H H') (hw : StAt H w c) (h : H p = some o) (ho : isSt o = false := by rfl) : H' p = some o := k.keep p o (hw.neo h ho) h
theorem KpS.free (k : KpS w c H H') (hw : StAt H w c) (h : H' p = none) : H p = none := by
  have ne : p ≠ w := (k.st hw).ne h
  cases e : H p with
  | none => rfl
  | some o => rw [k.keep p o ne e] at h; cases h
/-- what was free at the beginning is laid or changed -/
theorem KpS.put (k : KpS w c H H1) (hw : StAt H w c) (h : H p = none) : KpS w c H (upd H1 p o) :=
  ⟨fun b u n e => by rw [upd_ne (ne_of_none e h)]; exact k.keep b u n e, fun q => by
    obtain ⟨⟨i, x, y, z, u, q1⟩, ns, q2, hl⟩ := k.st q
    exact ⟨⟨i, x, y, z, u, by rw [upd_ne (hw.ne h).symm]; exact q1⟩, ns, by rw [upd_ne (hw.nc h).symm]; exact q2, hl⟩⟩
/-- the state itself is stored to -/
theorem StAt.set {i j : Nat} {x y z u x' y' z' u' : Int} (h : StAt H w c) : KpS w c H (upd H w (.lst [.ref c, .int (j : Nat), .int x', .int y', .int z', .int u'])) :=
  ⟨fun p o n e => by rw [upd_ne n]; exact e, fun _ => ⟨⟨j, x', y', z', u', upd_same⟩, by
    obtain ⟨ns, q, hl⟩ := h.cp
    exact ⟨ns, by rw [upd_ne h.cw]; exact q, hl⟩⟩⟩
end
theorem isSt_strs (xs : List Str) : isSt (.lst (xs.map V.str)) = false := by
  match xs with
  | [] => rfl
  | [a] => rfl
  | [a, b] => rfl
  | [a, b, c] => rfl
  | [a, b, c, d] => rfl
  | [a, b, c, d, e] => rfl
  | [a, b, c, d, e, f] => rfl
  | a :: b :: c :: d :: e :: f :: g :: r => rfl
theorem isSt_ints (ns : List Int) : isSt (.lst (ns.map V.int)) = false := by
  cases ns with
  | nil => rfl
  | cons a r => rfl
/-! ### promises of the law's drawing -/
def spState (K : PySem.W.Frag) : Sp := fun vs H Q _ => ∃ (a : Addr) (ns : List Int), vs = [.ref a] ∧ SqL K H a (ns.map V.int) ∧ ns.length ≤ 63 ∧ ∀ w c H', H w = none → H c = none → Same H H' → StAt H' w c → Q (.ref w) H'
def spDrawS : Sp := fun vs H Q _ => ∃ (w c : Addr) (m : Int), vs = [.ref w, .int m] ∧ StAt H w c ∧ 1 ≤ m ∧ m < 1073741824 ∧ ∀ n H', 0 ≤ n → n < m → KpS w c H H' → Q (.int n) H'
/-- "two" or "whole" -/
def ovS (b : Bool) : Str := if b = true then "two" else "whole"
def spField : Sp := fun vs H Q _ => ∃ (w c : Addr), vs = [.ref w] ∧ StAt H w c ∧ ∀ (b : Bool) H', KpS w c H H' → Q (.str (ovS b)) H'
/-- a name that begins with no z -/
def firstOf (x : Str) : Nat := x.cps.toList.headD 122
def NmK (x : Str) : Prop := isNm x = true ∧ firstOf x ≠ 122
/-- m names, each once, in order -/
def spNamesS : Sp := fun vs H Q _ => ∃ (w c : Addr) (m : Int), vs = [.ref w, .int m] ∧ StAt H w c ∧ 0 ≤ m ∧ m ≤ 9 ∧
  ∀ p (xs : List Str) H', H p = none → KpS w c H H' → H' p = some (.lst (xs.map V.str)) → (xs.length : Int) = m → xs.Nodup → sortS xs = xs → (∀ x ∈ xs, NmK x) → Q (.ref p) H'
end BF
set_option Elab.async false
set_option linter.all false
set_option maxRecDepth 100000
set_option maxHeartbeats 4000000
namespace BF
open PySem PySem.Spec PyProof.Rows L2
/-! ### values that may be rows -/
/-- an integer, or surely none -/
inductive EV (K : PySem.W.Frag) (H : Hp) : V → Option Int → Prop
  | int (i : Int) : EV K H (.int i) (some i)
  | bl (b : Bool) : EV K H (.bl b) none
  | no {x : V} {t : Value} (h : TyX K H x t) (k : PySem.W.kitOne K t (.type "int") = some false) : EV K H x none
/-- a list of such, or no list -/
inductive RV where
  | row (os : List (Option Int))
  | junk
inductive RVr (K : PySem.W.Frag) (H : Hp) : V → RV → Prop
  | no {x : V} {t : Value} (h : TyX K H x t) (k : PySem.W.kitOne K t (.type "list") = some false) : RVr K H x .junk
  | lst {p : Addr} {xs : List V} {os : List (Option Int)} (h : H p = some (.lst xs)) (e : Paired (EV K H) xs os) (l : os.length ≤ 1000) (n : isSt (.lst xs) = false) : RVr K H (.ref p) (.row os)
/-- the types of values, where a place that was free then is laid or changed -/
theorem _root_.L2.TyX.fw {K : PySem.W.Frag} {H H' : Hp} {v : V} {t : Value} (h : TyX K H v t) (k : ∀ b o, (∀ xs, o ≠ .lst xs) → H b = some o → H' b = some o) (kl : ∀ b xs, H b = some (.lst xs) → ∃ ys, H' b = some (.lst ys)) : TyX K H' v t := by
  cases h with
  | base b =>
    cases b with
    | non => exact .base .non
    | bl x => exact .base (.bl x)
    | int i => exact .base (.int i)
    | str x => exact .base (.str x)
    | flt x => exact .base (.flt x)
    | lst e =>
      obtain ⟨ys, e2⟩ := kl _ _ e
      exact .base (.lst e2)
    | frz e => exact .base (.frz (k _ _ (by intros; simp) e))
    | tup e => exact .base (.tup (k _ _ (by intros; simp) e))
    | dK e => exact .base (.dK (k _ _ (by intros; simp) e))
    | dT e => exact .base (.dT (k _ _ (by intros; simp) e))
    | ins e cl ha hn htk hm => exact .base (.ins (k _ _ (by intros; simp) e) cl ha hn htk hm)
  | byt b => exact .byt b
  | set e => exact .set (k _ _ (by intros; simp) e)
  | kList e c => exact .kList e c
  | kTuple e c => exact .kTuple e c
  | kDict e c => exact .kDict e c
  | fTuple e => exact .fTuple (k _ _ (by intros; simp) e)
  | fDict e => exact .fDict (k _ _ (by intros; simp) e)
theorem EV.fw {K : PySem.W.Frag} {H H' : Hp} {v : V} {o : Option Int} (h : EV K H v o) (k : ∀ b o, (∀ xs, o ≠ .lst xs) → H b = some o → H' b = some o) (kl : ∀ b xs, H b = some (.lst xs) → ∃ ys, H' b = some (.lst ys)) : EV K H' v o := by
  cases h with
  | int i => exact .int i
  | bl b => exact .bl b
  | no h e => exact .no (h.fw k kl) e
theorem EV.same {K : PySem.W.Frag} {H H' : Hp} {v : V} {o : Option Int} (h : EV K H v o) (s : Same H H') : EV K H' v o := h.fw (fun b o _ e => s b o e) fun b xs e => ⟨xs, s _ _ e⟩
theorem RVr.same {K : PySem.W.Frag} {H H' : Hp} {v : V} {o : RV} (h : RVr K H v o) (s : Same H H') : RVr K H' v o := by
  cases h with
  | no h e => exact .no (h.same s) e
  | lst h e l n => exact .lst (s _ _ h) (Paired.imp (fun _ _ q => q.same s) e) l n
/-- all but the state w stands -/
theorem KpS.tyx {K : PySem.W.Frag} {H H' : Hp} {w c : Addr} {v : V} {t : Value} (k : KpS w c H H') (hw : StAt H w c) (h : TyX K H v t) : TyX K H' v t :=
  h.fw (fun b o no e => k.keep b o (fun q => by
    obtain ⟨⟨i, x, y, z, u, z1⟩, _⟩ := hw
    rw [q, z1] at e
    exact no _ (Option.some.inj e).symm) e) fun b xs e => by
    by_cases q : b = w
    · obtain ⟨⟨i, x, y, z, u, z1⟩, _⟩ := k.st hw
      exact ⟨_, by rw [q]; exact z1⟩
    · exact ⟨xs, k.keep b _ q e⟩
theorem EV.kp {K : PySem.W.Frag} {H H' : Hp} {w c : Addr} {v : V} {o : Option Int} (h : EV K H v o) (k : KpS w c H H') (hw : StAt H w c) : EV K H' v o := by
  cases h with
  | int i => exact .int i
  | bl b => exact .bl b
  | no h e => exact .no (k.tyx hw h) e
theorem RVr.kp {K : PySem.W.Frag} {H H' : Hp} {w c : Addr} {v : V} {o : RV} (h : RVr K H v o) (k : KpS w c H H') (hw : StAt H w c) : RVr K H' v o := by
  cases h with
  | no h e => exact .no (k.tyx hw h) e
  | lst h e l n => exact .lst (k.get hw h n) (Paired.imp (fun _ _ q => q.kp k hw) e) l n
theorem ev_ints {K : PySem.W.Frag} {H : Hp} : ∀ ns : List Int, Paired (EV K H) (ns.map V.int) (ns.map some)
  | [] => .nil
  | n :: r => .cons (.int n) (ev_ints r)
def okEnt (two : Bool) : Option Int → Bool
  | some i => !two || (decide (i = 0) || decide (i = 1))
  | none => false
/-- a row over two, or over whole -/
def goodR (two : Bool) : RV → Bool
  | .row os => decide (os.length ≤ 24) && os.all (okEnt two)
  | .junk => false
def rvLen : RV → Nat
  | .row os => os.length
  | .junk => 0
theorem good_ints {two : Bool} {os : List (Option Int)} (h : os.all (okEnt two) = true) : ∃ ns : List Int, os = ns.map some ∧ ∀ n ∈ ns, two = true → n = 0 ∨ n = 1 := by
  induction os with
  | nil => exact ⟨[], rfl, fun n h => by cases h⟩
  | cons o r ih =>
    rw [List.all_cons, Bool.and_eq_true] at h
    obtain ⟨ns, e, q⟩ := ih h.2
    cases o with
    | none => cases h.1
    | some i =>
      refine ⟨i :: ns, by rw [e]; rfl, fun n hn t => ?_⟩
      rcases List.mem_cons.mp hn with rfl | hn
      · have h1 := h.1
        unfold okEnt at h1
        rw [t] at h1
        simp only [Bool.not_true, Bool.false_or, Bool.or_eq_true, decide_eq_true_eq] at h1
        exact h1
      · exact q n hn t
theorem paired_ints {K : PySem.W.Frag} {H : Hp} : ∀ {xs : List V} {ns : List Int}, Paired (EV K H) xs (ns.map some) → xs = ns.map V.int
  | [], [], _ => rfl
  | x :: xs, n :: ns, .cons h t => by
    cases h
    rw [paired_ints t]
    rfl
/-- is_integer(value) -/
def spInt (K : PySem.W.Frag) : Sp := fun vs H Q _ => ∃ (v : V) (o : Option Int), vs = [v] ∧ EV K H v o ∧ ∀ H', Same H H' → Q (.bl o.isSome) H'
/-- _is_row(value, over) -/
def spRow (K : PySem.W.Frag) : Sp := fun vs H Q _ => ∃ (v : V) (two : Bool) (r : RV), vs = [v, .str (ovS two)] ∧ RVr K H v r ∧ ∀ H', Same H H' → Q (.bl (goodR two r)) H'
end BF
set_option Elab.async false
set_option linter.all false
set_option maxRecDepth 100000
set_option maxHeartbeats 4000000
namespace BF
open PySem PySem.Spec PyProof.Rows L2
theorem paired_at {α β : Type} {F : α → β → Prop} : ∀ {xs : List α} {ys : List β} {i : Nat} {x : α}, Paired F xs ys → xs[i]? = some x → ∃ y, ys[i]? = some y ∧ F x y
  | _, _, 0, x, .cons p t, h => by
    cases Option.some.inj h
    exact ⟨_, rfl, p⟩
  | _, _, i + 1, x, .cons p t, h => paired_at (i := i) t h
/-! ### dicts of rows: N says which places they stand at -/
abbrev Row := Str × List Int
abbrev RowK (N : Addr → Prop) (H : Hp) : Key × V → Row → Prop := fun kv r => kv.1 = .inr r.1 ∧ ∃ q, kv.2 = .ref q ∧ N q ∧ H q = some (.lst (r.2.map V.int))
structure RowsD (N : Addr → Prop) (H : Hp) (d : Addr) (rs : List Row) : Prop where
  at_ : N d
  ex : ∃ kvs, H d = some (.dK kvs) ∧ Paired (RowK N H) kvs rs
theorem RowsD.mv {N : Addr → Prop} {H H' : Hp} {d : Addr} {rs : List Row} (h : RowsD N H d rs) (k : ∀ a o, N a → H a = some o → H' a = some o) : RowsD N H' d rs := by
  obtain ⟨nd, kvs, e, p⟩ := h
  exact ⟨nd, kvs, k _ _ nd e, Paired.imp (fun _ _ ⟨e1, q, e2, nq, e3⟩ => ⟨e1, q, e2, nq, k _ _ nq e3⟩) p⟩
theorem RowsD.wk {N M : Addr → Prop} {H : Hp} {d : Addr} {rs : List Row} (h : RowsD N H d rs) (k : ∀ a, N a → M a) : RowsD M H d rs := by
  obtain ⟨nd, kvs, e, p⟩ := h
  exact ⟨k _ nd, kvs, e, Paired.imp (fun _ _ ⟨e1, q, e2, nq, e3⟩ => ⟨e1, q, e2, k _ nq, e3⟩) p⟩
theorem RowsD.same {N : Addr → Prop} {H H' : Hp} {d : Addr} {rs : List Row} (h : RowsD N H d rs) (s : Same H H') : RowsD N H' d rs := h.mv fun a o _ e => s a o e
theorem rowk_keys {N : Addr → Prop} {H : Hp} : ∀ {kvs : List (Key × V)} {rs : List Row}, Paired (RowK N H) kvs rs → kvs.map (·.1) = (rs.map (·.1)).map Sum.inr
  | _, _, .nil => rfl
  | _, _, .cons p t => by rw [List.map_cons, List.map_cons, List.map_cons, rowk_keys t, p.1]
theorem rowk_get {N : Addr → Prop} {H : Hp} {r : Row} : ∀ {kvs : List (Key × V)} {rs : List Row}, Paired (RowK N H) kvs rs → (rs.map (·.1)).Nodup → r ∈ rs → ∃ q, valV kvs (.inr r.1) = some (.ref q) ∧ N q ∧ H q = some (.lst (r.2.map V.int))
  | _, _, .nil, _, h => by cases h
  | (k, v) :: kvs, u :: us, .cons p t, nd, h => by
    obtain ⟨e1, q, e2, nq, hq⟩ := p
    have e1 : k = Sum.inr u.1 := e1
    have e2 : v = .ref q := e2
    subst e1 e2
    have nd : (u.1 :: us.map (·.1)).Nodup := nd
    rcases List.mem_cons.mp h with h | h
    · cases h
      exact ⟨q, valV_pos rfl, nq, hq⟩
    · have hm : ¬ u.1 = r.1 := fun e => (List.nodup_cons.mp nd).1 (List.mem_map.mpr ⟨_, h, e.symm⟩)
      obtain ⟨q2, h1, h2⟩ := rowk_get t (List.nodup_cons.mp nd).2 h
      exact ⟨q2, by rw [valV_neg (fun q => hm (Sum.inr.inj q))]; exact h1, h2⟩
/-! ### dicts that are passed: values of any kind -/
abbrev RvK (K : PySem.W.Frag) (H : Hp) : Key × V → Str × RV → Prop := fun kv e => kv.1 = .inr e.1 ∧ RVr K H kv.2 e.2
structure RvD (K : PySem.W.Frag) (H : Hp) (d : Addr) (es : List (Str × RV)) : Prop where
  ex : ∃ kvs, H d = some (.dK kvs) ∧ Paired (RvK K H) kvs es
  nd : (es.map (·.1)).Nodup
theorem RvD.same {K : PySem.W.Frag} {H H' : Hp} {d : Addr} {es : List (Str × RV)} (h : RvD K H d es) (s : Same H H') : RvD K H' d es := by
  obtain ⟨⟨kvs, e, p⟩, nd⟩ := h
  exact ⟨⟨kvs, s _ _ e, Paired.imp (fun _ _ q => ⟨q.1, q.2.same s⟩) p⟩, nd⟩
theorem RvD.kp {K : PySem.W.Frag} {H H' : Hp} {w c d : Addr} {es : List (Str × RV)} (h : RvD K H d es) (k : KpS w c H H') (hw : StAt H w c) : RvD K H' d es := by
  obtain ⟨⟨kvs, e, p⟩, nd⟩ := h
  exact ⟨⟨kvs, k.get hw e, Paired.imp (fun _ _ q => ⟨q.1, q.2.kp k hw⟩) p⟩, nd⟩
def lkR (es : List (Str × RV)) (n : Str) : Option RV := (es.find? fun e => decide (e.1 = n)).map (·.2)
theorem rv_keys {K : PySem.W.Frag} {H : Hp} : ∀ {kvs : List (Key × V)} {es : List (Str × RV)}, Paired (RvK K H) kvs es → kvs.map (·.1) = (es.map (·.1)).map Sum.inr
  | _, _, .nil => rfl
  | _, _, .cons p t => by rw [List.map_cons, List.map_cons, List.map_cons, rv_keys t, p.1]
theorem rv_get {K : PySem.W.Frag} {H : Hp} {n : Str} : ∀ {kvs : List (Key × V)} {es : List (Str × RV)}, Paired (RvK K H) kvs es → n ∈ es.map (·.1) → ∃ v r, valV kvs (.inr n) = some v ∧ lkR es n = some r ∧ RVr K H v r
  | _, _, .nil, h => by cases h
  | (k, v) :: kvs, (m, tv) :: es, .cons p t, h => by
    obtain ⟨e, r⟩ := p
    have e : k = Sum.inr m := e
    subst e
    by_cases hm : m = n
    · subst hm
      exact ⟨v, tv, valV_pos rfl, by simp [lkR], r⟩
    · obtain ⟨v2, tv2, h1, h2, h3⟩ := rv_get t ((List.mem_cons.mp h).resolve_left fun q => hm q.symm)
      exact ⟨v2, tv2, by rw [valV_neg (fun q => hm (Sum.inr.inj q))]; exact h1, by simpa [lkR, hm] using h2, h3⟩
theorem lkR_mem {es : List (Str × RV)} {n : Str} {r : RV} (nd : (es.map (·.1)).Nodup) (h : (n, r) ∈ es) : lkR es n = some r := by
  induction es with
  | nil => cases h
  | cons e es ih =>
    have nd : (e.1 :: es.map (·.1)).Nodup := nd
    unfold lkR
    rw [List.find?_cons]
    rcases List.mem_cons.mp h with q | q
    · rw [← q]
      simp
    · have hne : ¬ e.1 = n := fun z => (List.nodup_cons.mp nd).1 (List.mem_map.mpr ⟨_, q, z.symm⟩)
      rw [decide_eq_false hne]
      exact ih (List.nodup_cons.mp nd).2 q
/-! ### what is due -/
def w0 (es : List (Str × RV)) : Nat := match sortS (es.map (·.1)) with
  | n :: _ => rvLen ((lkR es n).getD .junk)
  | [] => 0
def goodN (two : Bool) (es : List (Str × RV)) (n : Str) : Bool := isNm n && match lkR es n with
  | some r => goodR two r && decide (rvLen r = w0 es)
  | none => false
def badF (two : Bool) (es : List (Str × RV)) : Option Str := (sortS (es.map (·.1))).find? fun n => !goodN two es n
theorem badF_some {two : Bool} {es : List (Str × RV)} {i : Nat} {n : Str} (h : (sortS (es.map (·.1)))[i]? = some n) (hb : goodN two es n = false) (hok : ∀ j, j < i → ∀ m, (sortS (es.map (·.1)))[j]? = some m → goodN two es m = true) : badF two es = some n := by
  unfold badF
  rw [List.find?_eq_some_iff_getElem]
  obtain ⟨hi, e⟩ := List.getElem?_eq_some_iff.mp h
  refine ⟨by rw [hb]; rfl, i, hi, e, fun j hj => ?_⟩
  rw [hok j hj _ (List.getElem?_eq_getElem (by omega))]
  rfl
theorem badF_none {two : Bool} {es : List (Str × RV)} (hok : ∀ n ∈ es.map (·.1), goodN two es n = true) : badF two es = none := by
  unfold badF
  rw [List.find?_eq_none]
  intro n hn
  rw [hok n ((mem_sortS _ _).mp hn)]
  simp
theorem goodN_of {two : Bool} {es : List (Str × RV)} {n : Str} {r : RV} (h : lkR es n = some r) : goodN two es n = (isNm n && (goodR two r && decide (rvLen r = w0 es))) := by
  unfold goodN
  rw [h]
def intsR : Option RV → List Int
  | some (.row os) => os.filterMap id
  | _ => []
def rowsOf (es : List (Str × RV)) : List Row := (sortS (es.map (·.1))).map fun n => (n, intsR (lkR es n))
theorem fm_some (ns : List Int) : (ns.map some).filterMap id = ns := by
  induction ns with
  | nil => rfl
  | cons n r ih => rw [List.map_cons, List.filterMap_cons]; simp [ih]
/-! ### the object -/
theorem ro_ne : ¬ (("_rows" : Str) = "_over") := by decide +kernel
def rwf (d : Addr) (two : Bool) : List (Str × V) := putF "_over" (.str (ovS two)) (putF "_rows" (.ref d) [])
theorem rwf_rows (d : Addr) (two : Bool) : (rwf d two).lookup ("_rows" : Str) = some (.ref d) := by
  unfold rwf
  rw [lookup_putF, if_neg ro_ne, lookup_putF, if_pos rfl]
theorem rwf_over (d : Addr) (two : Bool) : (rwf d two).lookup ("_over" : Str) = some (.str (ovS two)) := by
  unfold rwf
  rw [lookup_putF, if_pos rfl]
theorem rwf_no (d : Addr) (two : Bool) {m : Str} (h1 : ¬ m = "_over") (h2 : ¬ m = "_rows") : (rwf d two).lookup m = none := by
  unfold rwf
  rw [lookup_putF, if_neg h1, lookup_putF, if_neg h2]
  rfl
/-- an instance at x, of the class at C; all of it stands at places of N -/
structure RowsO (C : Addr) (N : Addr → Prop) (H : Hp) (x : Addr) (two : Bool) (rs : List Row) : Prop where
  at_ : N x
  ex : ∃ dx d, H x = some (.ins C dx (rwf d two)) ∧ RowsD N H d rs
theorem RowsO.mv {C : Addr} {N : Addr → Prop} {H H' : Hp} {x : Addr} {two : Bool} {rs : List Row} (h : RowsO C N H x two rs) (k : ∀ a o, N a → H a = some o → H' a = some o) : RowsO C N H' x two rs := by
  obtain ⟨nx, dx, d, e, r⟩ := h
  exact ⟨nx, dx, d, k _ _ nx e, r.mv k⟩
theorem RowsO.wk {C : Addr} {N M : Addr → Prop} {H : Hp} {x : Addr} {two : Bool} {rs : List Row} (h : RowsO C N H x two rs) (k : ∀ a, N a → M a) : RowsO C M H x two rs := by
  obtain ⟨nx, dx, d, e, r⟩ := h
  exact ⟨k _ nx, dx, d, e, r.wk k⟩
theorem RowsO.same {C : Addr} {N : Addr → Prop} {H H' : Hp} {x : Addr} {two : Bool} {rs : List Row} (h : RowsO C N H x two rs) (s : Same H H') : RowsO C N H' x two rs := h.mv fun a o _ e => s a o e
/-- rows that are right ones, in order -/
structure RsOk (rs : List Row) : Prop where
  nd : (rs.map (·.1)).Nodup
  nm : ∀ r ∈ rs, isNm r.1 = true
  le : rs.length ≤ 24
  wd : ∃ k, k ≤ 24 ∧ ∀ r ∈ rs, r.2.length = k
  so : sortS (rs.map (·.1)) = rs.map (·.1)
/-! ### rows as data -/
def rowD (r : Row) : Key × PyData := (.inr r.1, .list (r.2.map PyData.int))
theorem lay_ints : ∀ ns : List Int, PyData.canLayAll0 (ns.map PyData.int) = true
  | [] => by simp [PyData.canLayAll0]
  | n :: r => by simp [PyData.canLayAll0, PyData.canLay0, lay_ints r]
theorem shaped_ints (ns : List Int) : SeqAt.shaped (.list (ns.map PyData.int)) = true := by
  simp [SeqAt.shaped, PyData.canLay0, PyData.depth, lay_ints ns, depth_ints ns]
theorem dp_ints {K : PySem.W.Frag} {H : Hp} {a : Addr} {ns : List Int} (h : H a = some (.lst (ns.map V.int))) : Dp K H (.ref a) (.list (ns.map PyData.int)) := .lst (SqL.of h) (dpAll_ints ns)
theorem eqv_ints (ms ns : List Int) : PyData.eqv (.list (ms.map PyData.int)) (.list (ns.map PyData.int)) = decide (ms = ns) := PySem.W.Datum.eqv (α := List Int) ms ns
theorem dkr_pairs {K : PySem.W.Frag} {N : Addr → Prop} {H : Hp} : ∀ {kvs : List (Key × V)} {rs : List Row}, Paired (RowK N H) kvs rs →
    Paired (fun (p : Key × V) (q : Key × PyData) => p.1 = q.1 ∧ Dp K H p.2 q.2 ∧ SeqAt.shaped q.2 = true) kvs (rs.map rowD)
  | _, _, .nil => .nil
  | (k, v) :: kvs, r :: rs, .cons p t => by
    obtain ⟨e1, q, e2, _, hq⟩ := p
    have e2 : v = .ref q := e2
    subst e2
    exact .cons ⟨e1, dp_ints hq, shaped_ints r.2⟩ (dkr_pairs t)
theorem dkr_of {K : PySem.W.Frag} {N : Addr → Prop} {H : Hp} {d : Addr} {rs : List Row} (h : RowsD N H d rs) : DkD K H (.ref d) (rs.map rowD) := by
  obtain ⟨_, kvs, e, p⟩ := h
  exact ⟨d, kvs, rfl, e, dkr_pairs p⟩
theorem eqR_len {rs us : List Row} (h : rs.length ≠ us.length) : eqKD (rs.map rowD) (us.map rowD) = false := by
  unfold eqKD
  rw [List.length_map, List.length_map, show (rs.length == us.length) = false from by simp [h]]
  rfl
theorem find_row : ∀ {us : List Row} {r : Row}, (us.map (·.1)).Nodup → r ∈ us → (us.map rowD).find? (fun q => decide (q.1 = (rowD r).1)) = some (rowD r)
  | u :: us, r, nd, h => by
    have nd : (u.1 :: us.map (·.1)).Nodup := nd
    rcases List.mem_cons.mp h with rfl | h
    · simp
    · have hne : ¬ (rowD u).1 = (rowD r).1 := fun e => (List.nodup_cons.mp nd).1 (List.mem_map.mpr ⟨r, h, (Sum.inr.inj e).symm⟩)
      rw [List.map_cons, List.find?_cons, decide_eq_false hne]
      exact find_row (List.nodup_cons.mp nd).2 h
theorem eqR_mem {rs us : List Row} (hl : rs.length = us.length) (nd : (us.map (·.1)).Nodup) (h : ∀ r, r ∈ rs → r ∈ us) : eqKD (rs.map rowD) (us.map rowD) = true := by
  unfold eqKD
  rw [List.length_map, List.length_map, hl, Bool.and_eq_true]
  refine ⟨by simp, List.all_eq_true.mpr fun q hq => ?_⟩
  obtain ⟨r, hr, rfl⟩ := List.mem_map.mp hq
  rw [find_row nd (h r hr)]
  show PyData.eqv _ _ = true
  unfold rowD
  rw [eqv_ints]
  simp
/-- rows, passed as they are -/
def rvOf (r : Row) : Str × RV := (r.1, .row (r.2.map some))
theorem rvOf_keys (rs : List Row) : (rs.map rvOf).map (·.1) = rs.map (·.1) := by
  rw [List.map_map]
  exact List.map_congr_left fun _ _ => rfl
theorem rv_pairs {K : PySem.W.Frag} {N : Addr → Prop} {H : Hp} : ∀ {kvs : List (Key × V)} {rs : List Row}, Paired (RowK N H) kvs rs → (∀ r ∈ rs, r.2.length ≤ 1000) → Paired (RvK K H) kvs (rs.map rvOf)
  | _, _, .nil, _ => .nil
  | (k, v) :: kvs, r :: rs, .cons p t, hl => by
    obtain ⟨e1, q, e2, _, hq⟩ := p
    have e2 : v = .ref q := e2
    subst e2
    exact .cons ⟨e1, .lst hq (ev_ints r.2) (by rw [List.length_map]; exact hl r List.mem_cons_self) (isSt_ints r.2)⟩ (rv_pairs t fun u hu => hl u (List.mem_cons_of_mem _ hu))
theorem RowsD.rv {K : PySem.W.Frag} {N : Addr → Prop} {H : Hp} {d : Addr} {rs : List Row} (h : RowsD N H d rs) (nd : (rs.map (·.1)).Nodup) (hl : ∀ r ∈ rs, r.2.length ≤ 1000) : RvD K H d (rs.map rvOf) := by
  obtain ⟨_, kvs, e, p⟩ := h
  exact ⟨⟨kvs, e, rv_pairs p hl⟩, by rw [rvOf_keys]; exact nd⟩
theorem lk_rv {rs : List Row} {r : Row} (nd : (rs.map (·.1)).Nodup) (h : r ∈ rs) : lkR (rs.map rvOf) r.1 = some (.row (r.2.map some)) := lkR_mem (by rw [rvOf_keys]; exact nd) (List.mem_map.mpr ⟨r, h, rfl⟩)
/-- entries over two -/
def TwoOk (two : Bool) (rs : List Row) : Prop := two = true → ∀ r ∈ rs, ∀ n ∈ r.2, n = 0 ∨ n = 1
theorem good_row {two : Bool} {ns : List Int} (hl : ns.length ≤ 24) (h : two = true → ∀ n ∈ ns, n = 0 ∨ n = 1) : goodR two (.row (ns.map some)) = true := by
  show (decide ((ns.map some).length ≤ 24) && (ns.map some).all (okEnt two)) = true
  rw [List.length_map, decide_eq_true hl, Bool.true_and, List.all_map, List.all_eq_true]
  intro n hn
  show (!two || (decide (n = 0) || decide (n = 1))) = true
  cases two with
  | false => rfl
  | true =>
    rcases h rfl n hn with rfl | rfl
    · rfl
    · rfl
theorem bad_none {two : Bool} {rs : List Row} {k : Nat} (nd : (rs.map (·.1)).Nodup) (nm : ∀ r ∈ rs, isNm r.1 = true) (hk : k ≤ 24) (hw : ∀ r ∈ rs, r.2.length = k) (h2 : TwoOk two rs) : badF two (rs.map rvOf) = none := by
  have hw0 : ∀ r ∈ rs, w0 (rs.map rvOf) = k := fun r hr => by
    unfold w0
    cases e : sortS ((rs.map rvOf).map (·.1)) with
    | nil =>
      rw [rvOf_keys] at e
      have := sortS_length (rs.map (·.1))
      rw [e, List.length_map] at this
      have h0 : rs.length = 0 := this.symm
      rw [List.length_eq_zero_iff.mp h0] at hr
      cases hr
    | cons n t =>
      have hm : n ∈ sortS ((rs.map rvOf).map (·.1)) := by rw [e]; exact List.mem_cons_self
      rw [mem_sortS, rvOf_keys] at hm
      obtain ⟨u, hu, rfl⟩ := List.mem_map.mp hm
      show rvLen ((lkR (rs.map rvOf) u.1).getD .junk) = k
      rw [lk_rv nd hu]
      show (u.2.map some).length = k
      rw [List.length_map]
      exact hw u hu
  refine badF_none fun n hn => ?_
  rw [rvOf_keys] at hn
  obtain ⟨r, hr, rfl⟩ := List.mem_map.mp hn
  rw [goodN_of (lk_rv nd hr), nm r hr, good_row (by rw [hw r hr]; exact hk) (fun t => h2 t r hr), hw0 r hr]
  show (true && (true && decide ((r.2.map some).length = k))) = true
  rw [List.length_map, hw r hr, decide_eq_true rfl]
  rfl
theorem rowsOf_rv {rs : List Row} (nd : (rs.map (·.1)).Nodup) (so : sortS (rs.map (·.1)) = rs.map (·.1)) : rowsOf (rs.map rvOf) = rs := by
  unfold rowsOf
  rw [rvOf_keys, so, List.map_map]
  refine (List.map_congr_left fun r hr => ?_).trans (List.map_id rs)
  show (r.1, intsR (lkR (rs.map rvOf) r.1)) = r
  rw [lk_rv nd hr]
  show (r.1, (r.2.map some).filterMap id) = r
  rw [fm_some]
end BF
namespace BF
open PySem PySem.Spec PyProof.Rows L2
theorem RowsD.live {N : Addr → Prop} {H : Hp} {d : Addr} {rs : List Row} (h : RowsD N H d rs) : RowsD (fun a => N a ∧ H a ≠ none) H d rs := by
  obtain ⟨nd, kvs, e, p⟩ := h
  exact ⟨⟨nd, by rw [e]; simp⟩, kvs, e, Paired.imp (fun _ _ ⟨e1, q, e2, nq, e3⟩ => ⟨e1, q, e2, ⟨nq, by rw [e3]; simp⟩, e3⟩) p⟩
/-- a row more, under a new key -/
theorem RowsD.snoc {N : Addr → Prop} {H : Hp} {d q : Addr} {rs : List Row} {n : Str} {ns : List Int} {kvs : List (Key × V)} (nd : N d) (p : Paired (RowK N H) kvs rs) (hd : H d = some (.dK kvs)) (hn : n ∉ rs.map (·.1)) (nq : N q) (hq : H q = some (.lst (ns.map V.int))) :
    RowsD N (upd H d (.dK (putK kvs (.inr n) (.ref q)))) d (rs ++ [(n, ns)]) := by
  have hv : valV kvs (.inr n) = none := valV_none (by
    rw [rowk_keys p]
    exact fun h => by
      obtain ⟨m, h5, h6⟩ := List.mem_map.mp h
      cases h6
      exact hn h5)
  refine ⟨nd, _, upd_same, ?_⟩
  rw [putK_new _ hv]
  refine Paired.snoc ⟨rfl, q, rfl, nq, by rw [upd_ne (fun e => by rw [e, hd] at hq; cases hq)]; exact hq⟩ (Paired.imp (fun _ _ ⟨e1, t, e2, nt, e3⟩ => ⟨e1, t, e2, nt, ?_⟩) p)
  rw [upd_ne (fun e => by rw [e, hd] at e3; cases e3)]
  exact e3
end BF
set_option Elab.async false
set_option linter.all false
set_option maxRecDepth 100000
set_option maxHeartbeats 4000000
namespace BF
open PySem PySem.Spec PyProof.Rows L2
/-! ### values that are no right rows -/
theorem isSt_len {xs : List V} (h : xs.length ≠ 6) : isSt (.lst xs) = false := by
  unfold isSt
  split
  · rename_i e
    cases e
    exact absurd rfl h
  · rfl
/-- .. new since H0 -/
def BadV (K : PySem.W.Frag) (H0 : Hp) (two : Bool) (m : Nat) (v : V) (H : Hp) : Prop := (∃ r, RVr K H v r ∧ (goodR two r && decide (rvLen r = m)) = false) ∧ ∀ p, v = .ref p → H0 p = none
theorem BadV.st {K : PySem.W.Frag} {H0 : Hp} {two : Bool} {m : Nat} : ∀ v H H', Same H H' → BadV K H0 two m v H → BadV K H0 two m v H' := fun _ _ _ s ⟨⟨r, h, e⟩, n⟩ => ⟨⟨r, h.same s, e⟩, n⟩
theorem bad_no {K : PySem.W.Frag} {H0 : Hp} {two : Bool} {m : Nat} {v : V} {H : Hp} {t : Value} (n : ∀ p, v = .ref p → H0 p = none) (h : TyX K H v t) (k : PySem.W.kitOne K t (.type "list") = some false) : BadV K H0 two m v H := ⟨⟨.junk, .no h k, rfl⟩, n⟩
theorem bad_list {K : PySem.W.Frag} {H0 : Hp} {two : Bool} {m : Nat} {p : Addr} {H : Hp} {xs : List V} {os : List (Option Int)} (np : H0 p = none) (h : H p = some (.lst xs)) (e : Paired (EV K H) xs os) (l : os.length ≤ 1000) (n6 : os.length ≠ 6) (b : os.length ≠ m ∨ 24 < os.length ∨ ∃ o ∈ os, okEnt two o = false) : BadV K H0 two m (.ref p) H := by
  refine ⟨⟨.row os, .lst h e l (isSt_len (by rw [e.length]; exact n6)), ?_⟩, fun q e => by cases e; exact np⟩
  show ((decide (os.length ≤ 24) && os.all (okEnt two)) && decide (os.length = m)) = false
  rcases b with b | b | ⟨o, ho, b⟩
  · rw [decide_eq_false b, Bool.and_false]
  · rw [decide_eq_false (by omega : ¬ os.length ≤ 24)]
    rfl
  · rw [show os.all (okEnt two) = false from List.all_eq_false.mpr ⟨o, ho, by rw [b]; simp⟩, Bool.and_false, Bool.false_and]
theorem ev_replicate {K : PySem.W.Frag} {H : Hp} {v : V} {o : Option Int} (h : EV K H v o) : ∀ n : Nat, Paired (EV K H) (List.replicate n v) (List.replicate n o)
  | 0 => .nil
  | n + 1 => .cons h (ev_replicate h n)
theorem paired_app {α β : Type} {F : α → β → Prop} : ∀ {xs xs' : List α} {ys ys' : List β}, Paired F xs ys → Paired F xs' ys' → Paired F (xs ++ xs') (ys ++ ys')
  | _, _, _, _, .nil, h => h
  | _, _, _, _, .cons p t, h => .cons p (paired_app t h)
theorem EvN.imp {te : TE} {σ : L2.St} {H0 : Hp} {P P' : V → Hp → Prop} (h : EvN te σ H0 P) (k : ∀ v H, P v H → P' v H) : EvN te σ H0 P' := fun H s Q q => h H s Q fun v H' s' p => q v H' s' (k v H' p)
/-- a list of just these values stands at v -/
def LstV (H0 : Hp) (xs : List V) (v : V) (H : Hp) : Prop := ∃ p, v = .ref p ∧ H0 p = none ∧ H p = some (.lst xs)
theorem LstV.st {H0 : Hp} {xs : List V} : ∀ v H H', Same H H' → LstV H0 xs v H → LstV H0 xs v H' := fun _ _ _ s ⟨p, e, n, h⟩ => ⟨p, e, n, s _ _ h⟩
section
variable {K : PySem.W.Frag} {σ : L2.St} {H0 : Hp}
theorem ev_one (c : V) : EvN (tLst (tCons (tC c) tNil)) σ H0 (LstV H0 [c]) := fun H s Q k => ⟨(by show 1 ≤ sizeLine; rw [sizeLine_eq]; omega), fun p np => k _ _ (Same.new np) ⟨p, rfl, s.free np, upd_same⟩⟩
theorem ev_nest : EvN (tLst (tCons (tLst (tCons (tC (.int 0)) tNil)) tNil)) σ H0 (fun v H => ∃ q, LstV H0 [.ref q] v H ∧ H q = some (.lst [.int 0])) := fun H s Q k =>
  ⟨(by show 1 ≤ sizeLine; rw [sizeLine_eq]; omega), fun q nq => ⟨(by show 1 ≤ sizeLine; rw [sizeLine_eq]; omega), fun p np => k _ _ ((Same.new nq).trans (Same.new np)) ⟨q, ⟨p, rfl, (s.trans (Same.new nq)).free np, upd_same⟩, Same.new np _ _ upd_same⟩⟩⟩
theorem flat_one (c : V) (n : Nat) : (List.replicate n [c]).flatten = List.replicate n c := by
  induction n with
  | zero => rfl
  | succ n ih => rw [List.replicate_succ, List.flatten_cons, ih, List.replicate_succ]; rfl
/-- a list of one, so many times -/
theorem ev_rep {ta tk : TE} {P : V → V → Hp → Prop} {k : Int} (st : ∀ c v H H', Same H H' → P c v H → P c v H') (h : EvN ta σ H0 (fun v H => ∃ c, LstV H0 [c] v H ∧ P c v H)) (hk : ∀ H (Q : VK), Q (.int k) H → tk σ H Q) (h0 : 0 ≤ k) (h1 : k ≤ 1000) :
    EvN (tOp rRep ta tk) σ H0 (fun v H => ∃ c u, LstV H0 (List.replicate k.toNat c) v H ∧ P c u H) := fun H s Q q =>
  h H s _ fun v H1 s1 ⟨c, ⟨p, e, _, hp⟩, hP⟩ => hk H1 _ ⟨p, k, [c], e, rfl, hp, by omega, by omega, by rw [sizeLine_eq]; show 1 * k.toNat ≤ _; omega, fun p2 np => by
    rw [flat_one]
    exact q _ _ (s1.trans (Same.new np)) ⟨c, v, ⟨p2, rfl, (s.trans s1).free np, upd_same⟩, st _ _ _ _ (Same.new np) hP⟩⟩
theorem ev_repC {tk : TE} {k : Int} (c : V) (hk : ∀ H (Q : VK), Q (.int k) H → tk σ H Q) (h0 : 0 ≤ k) (h1 : k ≤ 1000) : EvN (tOp rRep (tLst (tCons (tC c) tNil)) tk) σ H0 (LstV H0 (List.replicate k.toNat c)) :=
  (ev_rep (P := fun d _ _ => d = c) (fun _ _ _ _ _ h => h) ((ev_one c).imp fun v H h => ⟨c, h, rfl⟩) hk h0 h1).imp fun v H ⟨d, u, h, e⟩ => by
    subst e
    exact h
theorem ev_cat {ta tb : TE} {xs ys : List V} (h1 : EvN ta σ H0 (LstV H0 xs)) (h2 : EvN tb σ H0 (LstV H0 ys)) (hl : xs.length + ys.length ≤ 2000) : EvN (tOp rCat ta tb) σ H0 (LstV H0 (xs ++ ys)) := fun H s Q q =>
  h1 H s _ fun v H1 s1 ⟨p, e, _, hp⟩ => h2 H1 (s.trans s1) _ fun u H2 s2 ⟨p2, e2, _, hp2⟩ => ⟨p, p2, xs, ys, e, e2, s2 _ _ hp, hp2, by rw [sizeLine_eq]; omega, fun r nr => q _ _ ((s1.trans s2).trans (Same.new nr)) ⟨r, rfl, ((s.trans s1).trans s2).free nr, upd_same⟩⟩
end
end BF
namespace BF
open PySem PySem.Spec PyProof.Rows L2
theorem ev_oneE {σ : L2.St} {H0 : Hp} {te : TE} (c : V) (hc : ∀ H (Q : VK), Q c H → te σ H Q) : EvN (tLst (tCons te tNil)) σ H0 (LstV H0 [c]) := fun H s Q k => hc H _ ⟨(by show 1 ≤ sizeLine; rw [sizeLine_eq]; omega), fun p np => k _ _ (Same.new np) ⟨p, rfl, s.free np, upd_same⟩⟩
end BF
set_option Elab.async false
set_option linter.all false
set_option maxRecDepth 100000
set_option maxHeartbeats 4000000
namespace BF
open PySem PySem.Spec PyProof.Rows L2
/-! ### a value is put under a key -/
def putR (es : List (Str × RV)) (n : Str) (r : RV) : List (Str × RV) := if (es.any fun e => decide (e.1 = n)) = true then es.map (fun e => if e.1 = n then (e.1, r) else e) else es ++ [(n, r)]
theorem rv_any {K : PySem.W.Frag} {H : Hp} {n : Str} : ∀ {kvs : List (Key × V)} {es : List (Str × RV)}, Paired (RvK K H) kvs es → (kvs.any fun kv => decide (kv.1 = Sum.inr n)) = es.any fun e => decide (e.1 = n)
  | _, _, .nil => rfl
  | (k, v) :: kvs, (m, tv) :: es, .cons p t => by
    have e : k = Sum.inr m := p.1
    subst e
    rw [List.any_cons, List.any_cons, rv_any t]
    congr 1
    exact decide_eq_decide.mpr ⟨fun h => Sum.inr.inj h, fun h => congrArg _ h⟩
theorem rv_map {K : PySem.W.Frag} {H : Hp} {n : Str} {v : V} {r : RV} (h : RVr K H v r) : ∀ {kvs : List (Key × V)} {es : List (Str × RV)}, Paired (RvK K H) kvs es →
    Paired (RvK K H) (kvs.map fun kv => if kv.1 = Sum.inr n then (kv.1, v) else kv) (es.map fun e => if e.1 = n then (e.1, r) else e)
  | _, _, .nil => .nil
  | (k, u) :: kvs, (m, tu) :: es, .cons p t => by
    have e : k = Sum.inr m := p.1
    subst e
    refine .cons ?_ (rv_map h t)
    show RvK K H (if (Sum.inr m : Key) = Sum.inr n then (Sum.inr m, v) else (Sum.inr m, u)) (if m = n then (m, r) else (m, tu))
    by_cases c : m = n
    · subst c
      rw [if_pos rfl, if_pos rfl]
      exact ⟨rfl, h⟩
    · rw [if_neg (fun q => c (Sum.inr.inj q)), if_neg c]
      exact p
theorem rv_put {K : PySem.W.Frag} {H : Hp} {n : Str} {v : V} {r : RV} {kvs : List (Key × V)} {es : List (Str × RV)} (h : RVr K H v r) (p : Paired (RvK K H) kvs es) : Paired (RvK K H) (putK kvs (.inr n) v) (putR es n r) := by
  unfold putK putR
  rw [rv_any p]
  split
  · exact rv_map h p
  · exact Paired.snoc ⟨rfl, h⟩ p
theorem any_mem (es : List (Str × RV)) (n : Str) : (es.any fun e => decide (e.1 = n)) = decide (n ∈ es.map (·.1)) := by
  rw [Bool.eq_iff_iff, List.any_eq_true, decide_eq_true_eq, List.mem_map]
  constructor
  · rintro ⟨x, h, q⟩
    exact ⟨x, h, of_decide_eq_true q⟩
  · rintro ⟨x, h, q⟩
    exact ⟨x, h, decide_eq_true q⟩
theorem putR_keys (es : List (Str × RV)) (n : Str) (r : RV) : (putR es n r).map (·.1) = if n ∈ es.map (·.1) then es.map (·.1) else es.map (·.1) ++ [n] := by
  unfold putR
  rw [any_mem]
  by_cases h : n ∈ es.map (·.1)
  · rw [decide_eq_true h, if_pos rfl, if_pos h, List.map_map]
    refine List.map_congr_left fun x _ => ?_
    show (if x.1 = n then (x.1, r) else x).1 = x.1
    split <;> rfl
  · rw [decide_eq_false h, if_neg (by decide), if_neg h, List.map_append]
    rfl
theorem putR_nodup {es : List (Str × RV)} {n : Str} {r : RV} (h : (es.map (·.1)).Nodup) : ((putR es n r).map (·.1)).Nodup := by
  rw [putR_keys]
  split
  · exact h
  · rename_i q
    rw [List.nodup_append]
    refine ⟨h, by simp, fun a ha b hb e => ?_⟩
    rw [List.mem_singleton.mp hb] at e
    exact q (e ▸ ha)
theorem lkR_map (es : List (Str × RV)) (n m : Str) (r : RV) : lkR (es.map fun e => if e.1 = n then (e.1, r) else e) m = if m = n then (lkR es m).map fun _ => r else lkR es m := by
  induction es with
  | nil =>
    split <;> rfl
  | cons e es ih =>
    unfold lkR at ih ⊢
    rw [List.map_cons, List.find?_cons, List.find?_cons]
    by_cases c : e.1 = n
    · rw [if_pos c]
      by_cases d : e.1 = m
      · rw [decide_eq_true d]
        rw [if_pos (d.symm.trans c)]
        rfl
      · rw [decide_eq_false d]
        exact ih
    · rw [if_neg c]
      by_cases d : e.1 = m
      · rw [decide_eq_true d]
        rw [if_neg (fun q => c (d.trans q))]
      · rw [decide_eq_false d]
        exact ih
theorem lkR_app {es : List (Str × RV)} {n m : Str} {r : RV} (h : n ∉ es.map (·.1)) : lkR (es ++ [(n, r)]) m = if m = n then some r else lkR es m := by
  induction es with
  | nil =>
    unfold lkR
    rw [List.nil_append, List.find?_cons]
    by_cases d : n = m
    · rw [decide_eq_true d, if_pos d.symm]
      rfl
    · rw [decide_eq_false d, if_neg (fun q => d q.symm)]
  | cons e es ih =>
    have h1 : n ≠ e.1 := fun q => h (by rw [q]; exact List.mem_cons_self)
    have h2 : n ∉ es.map (·.1) := fun q => h (List.mem_cons_of_mem _ q)
    have ih := ih h2
    unfold lkR at ih ⊢
    rw [List.cons_append, List.find?_cons, List.find?_cons]
    by_cases d : e.1 = m
    · rw [decide_eq_true d, if_neg (fun q => h1 (q.symm.trans d.symm))]
    · rw [decide_eq_false d]
      exact ih
theorem lkR_some {es : List (Str × RV)} {n : Str} (h : n ∈ es.map (·.1)) : ∃ r, lkR es n = some r := by
  induction es with
  | nil => cases h
  | cons e es ih =>
    unfold lkR at ih ⊢
    rw [List.find?_cons]
    by_cases d : e.1 = n
    · rw [decide_eq_true d]
      exact ⟨_, rfl⟩
    · rw [decide_eq_false d]
      exact ih ((List.mem_cons.mp h).resolve_left fun q => d q.symm)
theorem lkR_put (es : List (Str × RV)) (n m : Str) (r : RV) : lkR (putR es n r) m = if m = n then some r else lkR es m := by
  unfold putR
  rw [any_mem]
  by_cases h : n ∈ es.map (·.1)
  · rw [decide_eq_true h, if_pos rfl, lkR_map]
    by_cases c : m = n
    · rw [if_pos c, if_pos c]
      obtain ⟨u, e⟩ := lkR_some h
      rw [c, e]
      rfl
    · rw [if_neg c, if_neg c]
  · rw [decide_eq_false h, if_neg (by decide), lkR_app h]
/-! ### a dict is changed: what values are stays -/
theorem EV.dk {K : PySem.W.Frag} {H : Hp} {d : Addr} {kvs kvs' : List (Key × V)} {v : V} {o : Option Int} (h : EV K H v o) (h1 : H d = some (.dK kvs)) : EV K (upd H d (.dK kvs')) v o := by
  cases h with
  | int i => exact .int i
  | bl b => exact .bl b
  | no h e => exact .no (h.dk h1) e
theorem RVr.dk {K : PySem.W.Frag} {H : Hp} {d : Addr} {kvs kvs' : List (Key × V)} {v : V} {o : RV} (h : RVr K H v o) (h1 : H d = some (.dK kvs)) : RVr K (upd H d (.dK kvs')) v o := by
  cases h with
  | no h e => exact .no (h.dk h1) e
  | lst h e l n => exact .lst (by rw [upd_ne (fun q => by rw [q, h1] at h; cases h)]; exact h) (Paired.imp (fun _ _ q => q.dk h1) e) l n
/-! ### the least of the bad names is told -/
theorem head_le {ks : List Str} {h n : Str} {t : List Str} (so : sortS ks = h :: t) (hn : n ∈ ks) : leS h n = true := by
  have pw : (sortS ks).Pairwise fun a b => leS a b = true := List.pairwise_mergeSort (le := leS) leS_trans leS_total ks
  rw [so] at pw
  have hm := (mem_sortS ks n).mpr hn
  rw [so] at hm
  rcases List.mem_cons.mp hm with rfl | hm
  · have := leS_total n n
    rw [Bool.or_self] at this
    exact this
  · exact (List.pairwise_cons.mp pw).1 n hm
/-- what is known of a dict with bad names -/
structure Bads (two : Bool) (m : Nat) (es : List (Str × RV)) (bs : List Str) : Prop where
  nd : (es.map (·.1)).Nodup
  sub : ∀ n ∈ bs, n ∈ es.map (·.1)
  good : ∀ n ∈ es.map (·.1), n ∉ bs → isNm n = true ∧ ∃ r, lkR es n = some r ∧ goodR two r = true ∧ rvLen r = m
  bad : ∀ n ∈ bs, (isNm n = false ∧ ∃ r, lkR es n = some r ∧ rvLen r = m) ∨ ((∃ h ∈ es.map (·.1), h ∉ bs ∧ leS h n = true) ∧ ∃ r, lkR es n = some r ∧ (goodR two r && decide (rvLen r = m)) = false)
theorem Bads.w0 {two : Bool} {m : Nat} {es : List (Str × RV)} {bs : List Str} (B : Bads two m es bs) {n : Str} (hn : n ∈ es.map (·.1)) : BF.w0 es = m := by
  unfold BF.w0
  cases e : sortS (es.map (·.1)) with
  | nil =>
    have := (mem_sortS _ _).mpr hn
    rw [e] at this
    cases this
  | cons a t =>
    have ha : a ∈ es.map (·.1) := (mem_sortS _ _).mp (by rw [e]; exact List.mem_cons_self)
    show rvLen ((lkR es a).getD .junk) = m
    by_cases c : a ∈ bs
    · rcases B.bad a c with ⟨_, r, e1, e2⟩ | ⟨⟨h, h1, h2, h3⟩, _⟩
      · rw [e1]
        exact e2
      · have := leS_anti _ _ h3 (head_le e h1)
        rw [this] at h2
        exact absurd c h2
    · obtain ⟨_, r, e1, _, e2⟩ := B.good a ha c
      rw [e1]
      exact e2
theorem Bads.told {two : Bool} {m : Nat} {es : List (Str × RV)} {z : Str} {zs : List Str} (B : Bads two m es (z :: zs)) : badF two es = some (leastS z zs) := by
  have hb := leastS_mem zs z
  have hk := B.sub _ hb
  have hw := B.w0 hk
  obtain ⟨i, hi, e⟩ := List.mem_iff_getElem.mp ((mem_sortS _ _).mpr hk)
  refine badF_some (i := i) (by rw [← e]; exact List.getElem?_eq_getElem hi) ?_ fun j hj x hx => ?_
  · rcases B.bad _ hb with ⟨h, _⟩ | ⟨_, r, e1, e2⟩
    · unfold goodN
      rw [h]
      rfl
    · rw [goodN_of e1, hw, e2, Bool.and_false]
  · obtain ⟨hj2, ex⟩ := List.getElem?_eq_some_iff.mp hx
    have hxk : x ∈ es.map (·.1) := (mem_sortS _ _).mp (List.mem_of_getElem? hx)
    have hnb : x ∉ z :: zs := fun h => by
      have l1 := leastS_le zs z x h
      have pw : (sortS (es.map (·.1))).Pairwise fun a b => leS a b = true := List.pairwise_mergeSort (le := leS) leS_trans leS_total _
      have l2 := List.pairwise_iff_getElem.mp pw j i hj2 hi hj
      rw [ex, e] at l2
      have := leS_anti _ _ l2 l1
      have q := (List.getElem_inj (nodup_sortS B.nd)).mp (ex.trans (this.trans e.symm))
      omega
    obtain ⟨h1, r, e1, e2, e3⟩ := B.good x hxk hnb
    rw [goodN_of e1, h1, e2, e3, hw, decide_eq_true rfl]
    rfl
end BF
namespace BF
open PySem PySem.Spec PyProof.Rows L2
/-- a list at b is changed -/
theorem RVr.chg {K : PySem.W.Frag} {H : Hp} {b : Addr} {xs ys : List V} {v : V} {o : RV} (h : RVr K H v o) (hb : H b = some (.lst xs)) (n : v ≠ .ref b) : RVr K (upd H b (.lst ys)) v o := by
  have f1 : ∀ a u, (∀ zs, u ≠ .lst zs) → H a = some u → upd H b (.lst ys) a = some u := fun a u no e => by rw [upd_ne (fun q => by rw [q, hb] at e; exact no _ (Option.some.inj e).symm)]; exact e
  have f2 : ∀ a zs, H a = some (.lst zs) → ∃ us, upd H b (.lst ys) a = some (.lst us) := fun a zs e => by
    by_cases q : a = b
    · exact ⟨ys, by rw [q, upd_same]⟩
    · exact ⟨zs, by rw [upd_ne q]; exact e⟩
  cases h with
  | no h e => exact .no (h.fw f1 f2) e
  | @lst p us os h e l s => exact .lst (by rw [upd_ne (fun q => n (by rw [q]))]; exact h) (Paired.imp (fun _ _ q => q.fw f1 f2) e) l s
theorem mem_putK {kvs : List (Key × V)} {k : Key} {v : V} {kv : Key × V} (h : kv ∈ putK kvs k v) : kv ∈ kvs ∨ kv.2 = v := by
  unfold putK at h
  split at h
  · obtain ⟨x, hx, e⟩ := List.mem_map.mp h
    split at e
    · exact .inr (by rw [← e])
    · exact .inl (by rw [← e]; exact hx)
  · rcases List.mem_append.mp h with h | h
    · exact .inl h
    · exact .inr (by rw [List.mem_singleton.mp h])
theorem paired_mem {α β : Type} {F G : α → β → Prop} : ∀ {xs : List α} {ys : List β}, Paired F xs ys → (∀ x ∈ xs, ∀ y, F x y → G x y) → Paired G xs ys
  | _, _, .nil, _ => .nil
  | _, _, .cons p t, h => .cons (h _ List.mem_cons_self _ p) (paired_mem t fun x hx => h x (List.mem_cons_of_mem _ hx))
end BF
set_option Elab.async false
set_option linter.all false
set_option maxRecDepth 100000
set_option maxHeartbeats 4000000
namespace BF
open PySem PySem.Spec PyProof.Rows L2
/-! ### rows by names -/
def rowAt (rs : List Row) (n : Str) : List Int := ((rs.find? fun r => decide (r.1 = n)).map (·.2)).getD []
theorem rowAt_mem : ∀ {rs : List Row} {r : Row}, (rs.map (·.1)).Nodup → r ∈ rs → rowAt rs r.1 = r.2
  | u :: us, r, nd, h => by
    have nd : (u.1 :: us.map (·.1)).Nodup := nd
    unfold rowAt
    rw [List.find?_cons]
    rcases List.mem_cons.mp h with q | q
    · rw [← q]
      simp
    · have hne : ¬ u.1 = r.1 := fun z => (List.nodup_cons.mp nd).1 (List.mem_map.mpr ⟨_, q, z.symm⟩)
      rw [decide_eq_false hne]
      exact rowAt_mem (List.nodup_cons.mp nd).2 q
theorem map_rowAt {rs : List Row} (nd : (rs.map (·.1)).Nodup) : (rs.map (·.1)).map (fun n => ((n, rowAt rs n) : Row)) = rs := by
  rw [List.map_map]
  refine (List.map_congr_left fun r hr => ?_).trans (List.map_id rs)
  show (r.1, rowAt rs r.1) = r
  rw [rowAt_mem nd hr]
theorem rowsOf_perm {rs us : List Row} (p : us.Perm rs) (nd : (rs.map (·.1)).Nodup) (so : sortS (rs.map (·.1)) = rs.map (·.1)) : rowsOf (us.map rvOf) = rs := by
  have hk : (us.map (·.1)).Perm (rs.map (·.1)) := p.map _
  have ndu : (us.map (·.1)).Nodup := hk.nodup_iff.mpr nd
  unfold rowsOf
  rw [rvOf_keys, sortS_of_perm hk, so, List.map_map]
  refine (List.map_congr_left fun r hr => ?_).trans (List.map_id rs)
  show (r.1, intsR (lkR (us.map rvOf) r.1)) = r
  rw [lk_rv ndu (p.mem_iff.mpr hr)]
  show (r.1, (r.2.map some).filterMap id) = r
  rw [fm_some]
theorem sorted_pw (xs : List Str) : (sortS xs).Pairwise fun a b => leS a b = true := List.pairwise_mergeSort (le := leS) leS_trans leS_total xs
theorem sortS_of_pw {xs : List Str} (h : xs.Pairwise fun a b => leS a b = true) : sortS xs = xs :=
  List.Perm.eq_of_pairwise (le := fun a b => leS a b = true) (fun a b _ _ x y => leS_anti a b x y) (sorted_pw xs) h (sortS_perm xs)
theorem sortS_drop {xs : List Str} (h : sortS xs = xs) (k : Nat) : sortS (xs.drop k) = xs.drop k := by
  refine sortS_of_pw ?_
  have := sorted_pw xs
  rw [h] at this
  exact this.sublist (List.drop_sublist k xs)
/-! ### a list of pairs of a name and a row -/
abbrev PTR (N : Addr → Prop) (H : Hp) : Addr → Row → Prop := fun q r => ∃ t, H q = some (.tup [.str r.1, .ref t]) ∧ N t ∧ H t = some (.lst (r.2.map V.int))
theorem ptr_kvs {K : PySem.W.Frag} {N : Addr → Prop} {H : Hp} : ∀ {qs : List Addr} {rs : List Row}, Paired (PTR N H) qs rs → ∃ kvs : List (Key × V), Paired (fun p kv => SqT K H p [kV kv.1, kv.2]) qs kvs ∧ Paired (RowK N H) kvs rs
  | _, _, .nil => ⟨[], .nil, .nil⟩
  | q :: qs, r :: rs, .cons p h => by
    obtain ⟨kvs, h1, h2⟩ := ptr_kvs (K := K) h
    obtain ⟨t, a, nt, b⟩ := p
    exact ⟨(.inr r.1, .ref t) :: kvs, .cons (SqT.of a) h1, .cons ⟨rfl, t, rfl, nt, b⟩ h2⟩
theorem mergeR_nd {N : Addr → Prop} {H : Hp} {kvs : List (Key × V)} {rs : List Row} (h : Paired (RowK N H) kvs rs) (nd : (rs.map (·.1)).Nodup) : mergeK [] kvs = kvs := by
  refine mergeK_app kvs [] ?_
  rw [List.nil_append, rowk_keys h]
  exact List.Pairwise.map _ (fun a b hne e => hne (Sum.inr.inj e)) nd
abbrev tListOf (K : PySem.W.Frag) (te : TE) : TE := tCB (fun xs H Q => ∃ p ys, xs = [V.ref p] ∧ (SqL K H p ys ∨ SqT K H p ys) ∧ ∀ (l : Addr), H l = none → Q (V.ref l) (upd H l (HO.lst ys))) (tCons te tNil)
/-- what a comprehension over the list at a asks, the answer at D told by Qd -/
abbrev LcS (K : PySem.W.Frag) (a : Addr) (te : TE) (σ : L2.St) (H : Hp) (Qd : Addr → Hp → Prop) : Prop := ∀ D, H D = none → ∃ W : Nat → Nat → Hp → Prop, (∃ m, W 0 m (upd H D (.lst []))) ∧ ∀ i m H, W i m H →
  ((Itl K a).stop i H ∧ Qd D H) ∨ ((Itl K a).go i H ∧ ∃ Nx : Hp → Prop, (∀ G, Nx G → ∃ l, l < m ∧ W (i + 1) l G) ∧ ∀ x G, (Itl K a).yld i H x G → gName 18 x (wipe σ [18]) G fun σ2 G2 => wipe σ2 [18] = wipe σ [18] ∧ tYes σ2 G2 fun b G3 =>
    if b = true then te σ2 G3 fun y G4 => ∃ acc, G4 D = some (.lst acc) ∧ acc.length < sizeLine ∧ Nx (upd G4 D (.lst (acc ++ [y]))) else Nx G3)
/-- [(n, list(rows[n])) for n in names] -/
theorem copy_lc {K : PySem.W.Frag} {x0 x1 x2 x3 x4 x5 x7 x8 x9 x10 x11 x12 x13 x14 x15 x16 x17 x18 : Option V} {H : Hp} {a rd : Addr} {ns : List Str} {rs : List Row} {N1 : Addr → Prop} (ha : H a = some (.lst (ns.map V.str))) (hr : RowsD N1 H rd rs) (nd : (rs.map (·.1)).Nodup) (hsub : ∀ n ∈ ns, n ∈ rs.map (·.1)) (hl : ns.length ≤ 100) {Qd : Addr → Hp → Prop}
    (k : ∀ D qs H', Same H H' → H' D = some (.lst (qs.map V.ref)) → Paired (PTR (fun a => H a = none) H') qs (ns.map fun n => ((n, rowAt rs n) : Row)) → Qd D H') :
    LcS K a (tTup (tCons (tVar 18) (tCons (tListOf K (tDGet (tVar 6) (tVar 18))) tNil))) [x0, x1, x2, x3, x4, x5, some (.ref rd), x7, x8, x9, x10, x11, x12, x13, x14, x15, x16, x17, x18] H Qd := by
  obtain ⟨_, kvs, hd, hp⟩ := hr
  intro D nD
  have aD : a ≠ D := ne_of_none ha nD
  refine lc_it walk_list (fun i H' => ∃ qs : List Addr, Same H H' ∧ H' D = some (.lst (qs.map V.ref)) ∧ Paired (PTR (fun a => H a = none ∧ a ≠ D) H') qs ((ns.take i).map fun n => ((n, rowAt rs n) : Row)))
    ⟨[], Same.new nD, upd_same, .nil⟩ (fun _ H' _ ⟨_, q, _⟩ => SqL.of (q _ _ ha)) ?_ ?_
  · rintro i v H2 H3 hi ⟨qs, s2, hD, hP⟩ ⟨rfl, hv⟩
    rw [List.length_map] at hi
    have hn : ns[i]? = some ns[i] := List.getElem?_eq_getElem hi
    have ev : v = V.str ns[i] := by
      rw [List.getElem?_map, hn] at hv
      exact (Option.some.inj hv).symm
    subst ev
    obtain ⟨r, hrm, er⟩ := List.mem_map.mp (hsub _ (List.getElem_mem hi))
    obtain ⟨q, hq, _, hq2⟩ := rowk_get hp nd hrm
    rw [er] at hq
    refine ⟨rfl, _, rfl, _, rfl, _, rfl, rd, .ref q, rfl, dget_s (.inl (s2 _ _ hd)) hq, q, _, rfl, .inl (SqL.of (s2 _ _ hq2)), fun l nl => ?_⟩
    have s3 := Same.new (o := .lst (r.2.map V.int)) nl
    refine ⟨(by show 2 ≤ sizeLine; rw [sizeLine_eq]; omega), fun t nt => ?_⟩
    have s4 := s3.trans (Same.new (o := .tup [V.str ns[i], V.ref l]) nt)
    have qlen : qs.length = i := by
      rw [hP.length, List.length_map, List.length_take]
      omega
    have hD4 := s4 _ _ hD
    refine ⟨_, hD4, small1000 (by rw [List.length_map]; omega), qs ++ [t], Same.put (s2.trans s4) nD, by rw [upd_same, List.map_append]; rfl, ?_⟩
    have up : ∀ u o, (∀ xs : List Addr, o ≠ .lst (xs.map V.ref) ∨ u ≠ D) → upd (upd H3 l (.lst (r.2.map V.int))) t (.tup [V.str ns[i], V.ref l]) u = some o → upd (upd (upd H3 l (.lst (r.2.map V.int))) t (.tup [V.str ns[i], V.ref l])) D (.lst (qs.map V.ref ++ [V.ref t])) u = some o := fun u o no h => by
      rw [upd_ne (fun e => by
        rw [e, hD4] at h
        rcases no qs with n | n
        · exact n (Option.some.inj h).symm
        · exact n e)]
      exact h
    rw [take_snoc (fun n => ((n, rowAt rs n) : Row)) hn]
    have lD : l ≠ D := fun e => by rw [e, hD] at nl; cases nl
    refine Paired.snoc ⟨l, up _ _ (fun xs => .inl (by simp)) upd_same, ⟨s2.free nl, lD⟩, up _ _ (fun xs => .inr lD) ?_⟩ (Paired.imp (fun _ _ ⟨t2, h1, n2, h2⟩ => ⟨t2, up _ _ (fun xs => .inl (by simp)) (s4 _ _ h1), n2, up _ _ (fun xs => .inr n2.2) (s4 _ _ h2)⟩) hP)
    rw [upd_ne (fun e => by rw [e, upd_same] at nt; cases nt), upd_same, ← er, rowAt_mem nd hrm]
  · rintro H2 ⟨qs, s2, hD, hP⟩
    rw [List.length_map, List.take_of_length_le (Nat.le_refl _)] at hP
    exact k D qs H2 s2 hD (Paired.imp (fun _ _ ⟨t, h1, n, h2⟩ => ⟨t, h1, n.1, h2⟩) hP)
/-- [(n, rows[n]) for n in names] -/
theorem same_lc {K : PySem.W.Frag} {x0 x1 x2 x3 x4 x5 x7 x8 x9 x10 x11 x12 x13 x14 x15 x16 x17 x18 : Option V} {H : Hp} {a rd : Addr} {ns : List Str} {rs : List Row} {N1 : Addr → Prop} (ha : H a = some (.lst (ns.map V.str))) (hr : RowsD N1 H rd rs) (nd : (rs.map (·.1)).Nodup) (hsub : ∀ n ∈ ns, n ∈ rs.map (·.1)) (hl : ns.length ≤ 100) {Qd : Addr → Hp → Prop}
    (k : ∀ D qs H', Same H H' → H' D = some (.lst (qs.map V.ref)) → Paired (PTR N1 H') qs (ns.map fun n => ((n, rowAt rs n) : Row)) → Qd D H') :
    LcS K a (tTup (tCons (tVar 18) (tCons (tDGet (tVar 6) (tVar 18)) tNil))) [x0, x1, x2, x3, x4, x5, some (.ref rd), x7, x8, x9, x10, x11, x12, x13, x14, x15, x16, x17, x18] H Qd := by
  obtain ⟨_, kvs, hd, hp⟩ := hr
  intro D nD
  refine lc_it walk_list (fun i H' => ∃ qs : List Addr, Same H H' ∧ H' D = some (.lst (qs.map V.ref)) ∧ Paired (PTR (fun a => N1 a ∧ H a ≠ none) H') qs ((ns.take i).map fun n => ((n, rowAt rs n) : Row)))
    ⟨[], Same.new nD, upd_same, .nil⟩ (fun _ H' _ ⟨_, q, _⟩ => SqL.of (q _ _ ha)) ?_ ?_
  · rintro i v H2 H3 hi ⟨qs, s2, hD, hP⟩ ⟨rfl, hv⟩
    rw [List.length_map] at hi
    have hn : ns[i]? = some ns[i] := List.getElem?_eq_getElem hi
    have ev : v = V.str ns[i] := by
      rw [List.getElem?_map, hn] at hv
      exact (Option.some.inj hv).symm
    subst ev
    obtain ⟨r, hrm, er⟩ := List.mem_map.mp (hsub _ (List.getElem_mem hi))
    obtain ⟨q, hq, nq, hq2⟩ := rowk_get hp nd hrm
    rw [er] at hq
    refine ⟨rfl, _, rfl, _, rfl, _, rfl, rd, .ref q, rfl, dget_s (.inl (s2 _ _ hd)) hq, (by show 2 ≤ sizeLine; rw [sizeLine_eq]; omega), fun t nt => ?_⟩
    have s4 := Same.new (o := .tup [V.str ns[i], V.ref q]) nt
    have qlen : qs.length = i := by
      rw [hP.length, List.length_map, List.length_take]
      omega
    have hD4 := s4 _ _ hD
    refine ⟨_, hD4, small1000 (by rw [List.length_map]; omega), qs ++ [t], Same.put (s2.trans s4) nD, by rw [upd_same, List.map_append]; rfl, ?_⟩
    have tD : t ≠ D := fun e => by rw [e, hD] at nt; cases nt
    have live : ∀ {b : Addr}, H b ≠ none → b ≠ D := fun h e => h (by rw [e]; exact nD)
    have qD : q ≠ D := live (by rw [hq2]; simp)
    have tup : ∀ u xs, H3 u = some (.tup xs) → u ≠ D := fun u xs h e => by rw [e, hD] at h; cases h
    rw [take_snoc (fun n => ((n, rowAt rs n) : Row)) hn]
    refine Paired.snoc ⟨q, by rw [upd_ne tD]; exact upd_same, ⟨nq, by rw [hq2]; simp⟩, ?_⟩ (Paired.imp (fun _ _ ⟨t2, h1, n2, h2⟩ => ⟨t2, by rw [upd_ne (tup _ _ h1)]; exact s4 _ _ h1, n2, by rw [upd_ne (live n2.2)]; exact s4 _ _ h2⟩) hP)
    have e4 := s4 _ _ (s2 _ _ hq2)
    have er2 : rowAt rs ns[i] = r.2 := by
      rw [← er]
      exact rowAt_mem nd hrm
    rw [upd_ne qD]
    show _ = some (HO.lst ((rowAt rs ns[i]).map V.int))
    rw [er2]
    exact e4
  · rintro H2 ⟨qs, s2, hD, hP⟩
    rw [List.length_map, List.take_of_length_le (Nat.le_refl _)] at hP
    exact k D qs H2 s2 hD (Paired.imp (fun _ _ ⟨t, h1, n, h2⟩ => ⟨t, h1, n.1, h2⟩) hP)
end BF
namespace BF
open PySem PySem.Spec PyProof.Rows L2
/-! ### lists of rows as data -/
theorem dp_rows {K : PySem.W.Frag} {H : Hp} : ∀ {ps : List Addr} {rs : List Row}, Paired (fun p r => H p = some (.lst (r.2.map V.int))) ps rs → DpAll K H (ps.map V.ref) (rs.map fun r => PyData.list (r.2.map PyData.int))
  | _, _, .nil => .nil
  | _, _, .cons p t => .cons (dp_ints p) (dp_rows t)
theorem lay_rows : ∀ rs : List Row, PyData.canLayAll0 (rs.map fun r => PyData.list (r.2.map PyData.int)) = true ∧ PyData.depthAll (rs.map fun r => PyData.list (r.2.map PyData.int)) ≤ 1
  | [] => by simp [PyData.canLayAll0, PyData.depthAll]
  | r :: rs => by
    obtain ⟨h1, h2⟩ := lay_rows rs
    refine ⟨by simp [PyData.canLayAll0, PyData.canLay0, lay_ints r.2, h1], ?_⟩
    show max (PyData.depth (.list (r.2.map PyData.int))) _ ≤ 1
    have : PyData.depth (.list (r.2.map PyData.int)) ≤ 1 := by simp [PyData.depth, depth_ints r.2]
    omega
theorem shaped_rows (rs : List Row) : SeqAt.shaped (.list (rs.map fun r => PyData.list (r.2.map PyData.int))) = true := by
  obtain ⟨h1, h2⟩ := lay_rows rs
  have h3 : PyData.depth (.list (rs.map fun r => PyData.list (r.2.map PyData.int))) ≤ 2 := by
    simp only [PyData.depth]
    omega
  unfold SeqAt.shaped
  have h4 : PyData.canLay0 (.list (rs.map fun r => PyData.list (r.2.map PyData.int))) = true := by simp only [PyData.canLay0, h1]
  simp only [h4, Bool.true_and, decide_eq_true_eq]
  omega
theorem eqv_rows (rs : List Row) : PyData.eqv (.list (rs.map fun r => PyData.list (r.2.map PyData.int))) (.list (rs.map fun r => PyData.list (r.2.map PyData.int))) = true := by
  show PyData.eqvAll _ _ = true
  induction rs with
  | nil => rfl
  | cons r rs ih =>
    show (PyData.eqv _ _ && PyData.eqvAll _ _) = true
    rw [ih, eqv_ints, decide_eq_true rfl]
    rfl
end BF
set_option Elab.async false
set_option linter.all false
set_option maxRecDepth 100000
set_option maxHeartbeats 4000000
/-! The rows of the law's end: n names, 24 ones in each row. -/
namespace BF
open PySem PySem.Spec PyProof.Rows L2
def wide (n : Nat) : List Row := (List.range n).map fun j => (SX.S [97 + j], List.replicate 24 1)
theorem wide_len (n : Nat) : (wide n).length = n := by
  unfold wide
  rw [List.length_map, List.length_range]
theorem wide_keys (n : Nat) : (wide n).map (·.1) = (List.range n).map fun j => SX.S [97 + j] := by
  unfold wide
  rw [List.map_map]
  rfl
theorem wide_nd : ∀ n, n < 27 → ((List.range n).map fun j => SX.S [97 + j]).Nodup := by decide +kernel
theorem wide_pw : ∀ n, n < 27 → ((List.range n).map fun j => SX.S [97 + j]).Pairwise fun a b => leS a b = true := by decide +kernel
theorem wide_nm : ∀ j, j < 26 → isNm (SX.S [97 + j]) = true := by decide +kernel
theorem wide_names {n : Nat} (h : n < 27) : ∀ r ∈ wide n, isNm r.1 = true := by
  intro r hr
  obtain ⟨j, hj, rfl⟩ := List.mem_map.mp hr
  have := List.mem_range.mp hj
  exact wide_nm j (by omega)
theorem wide_rows {n : Nat} : ∀ r ∈ wide n, r.2 = List.replicate 24 1 := by
  intro r hr
  obtain ⟨j, _, rfl⟩ := List.mem_map.mp hr
  rfl
theorem cut_one {xs : List V} : cutV xs (some 1) none = xs.drop 1 := by
  unfold cutV
  have e : ((1 : Nat) : Int) = 1 := rfl
  rw [← e, HT.sIx_none, HT.sIx_nat]
  by_cases h : 1 ≤ xs.length
  · rw [Nat.min_eq_left h, List.take_of_length_le (by rw [List.length_drop]; omega)]
  · rw [Nat.min_eq_right (by omega), List.drop_eq_nil_of_le (Nat.le_refl _), List.drop_eq_nil_of_le (by omega), List.take_nil]
/-- two ways that meet again -/
theorem fork {PP : Hp → Prop} {goal : Prop} {w c : Addr} {G : Hp} (k : ∀ H', KpS w c G H' → PP H') (h : (∀ H', KpS w c G H' → PP H') → goal) : goal := h k
theorem not_nm {rs : List Row} {x : Str} (h : ∀ r ∈ rs, isNm r.1 = true) (hx : isNm x = false) : x ∉ rs.map (·.1) := fun m => by
  obtain ⟨r, hr, e⟩ := List.mem_map.mp m
  have := h r hr
  rw [e, hx] at this
  cases this
theorem nm_blank (x : Str) : isNm (x ++ (" " : Str)) = false := by
  unfold isNm
  rw [Bool.and_eq_false_iff]
  refine .inr ?_
  rw [← Bool.not_eq_true, List.all_eq_true]
  intro h
  have e : (x ++ (" " : Str)).cps.toList = x.cps.toList ++ [32] := by
    show (x.cps ++ (" " : Str).cps).toList = _
    rw [Array.toList_append]
    congr 1
  have := h 32 (by rw [e]; exact List.mem_append_right _ List.mem_cons_self)
  revert this
  decide +kernel
abbrev LcN (n : Nat) (te : TE) (σ : L2.St) (H : Hp) (Qd : Addr → Hp → Prop) : Prop := ∀ D, H D = none → ∃ W : Nat → Nat → Hp → Prop, (∃ m, W 0 m (upd H D (.lst []))) ∧ ∀ i m H, W i m H →
  ((Itr 0 n).stop i H ∧ Qd D H) ∨ ((Itr 0 n).go i H ∧ ∃ Nx : Hp → Prop, (∀ G, Nx G → ∃ l, l < m ∧ W (i + 1) l G) ∧ ∀ x G, (Itr 0 n).yld i H x G → gName 9 x (wipe σ [9]) G fun σ2 G2 => wipe σ2 [9] = wipe σ [9] ∧ tYes σ2 G2 fun b G3 =>
    if b = true then te σ2 G3 fun y G4 => ∃ acc, G4 D = some (.lst acc) ∧ acc.length < sizeLine ∧ Nx (upd G4 D (.lst (acc ++ [y]))) else Nx G3)
theorem wide_lc {x0 x1 x2 x3 x4 x5 x6 x7 x8 x9 x10 x11 x12 x13 x14 x15 x16 x17 x18 : Option V} {H : Hp} {n : Nat} (hn : n ≤ 26) {Qd : Addr → Hp → Prop}
    (k : ∀ D qs H', Same H H' → H' D = some (.lst (qs.map V.ref)) → Paired (PTR (fun a => H a = none) H') qs (wide n) → Qd D H') :
    LcN n (tTup (tCons (tOp rIxS (tC (V.str (Str.ofString "abcdefghijklmnopqrstuvwxyz"))) (tVar 9)) (tCons (tOp rRep (tLst (tCons (tC (V.int 1)) tNil)) (tC (V.int 24))) tNil))) [x0, x1, x2, x3, x4, x5, x6, x7, x8, x9, x10, x11, x12, x13, x14, x15, x16, x17, x18] H Qd := by
  intro D nD
  refine lc_it walk_range (fun i H' => ∃ qs : List Addr, Same H H' ∧ H' D = some (.lst (qs.map V.ref)) ∧ Paired (PTR (fun a => H a = none ∧ a ≠ D) H') qs (wide i))
    ⟨[], Same.new nD, upd_same, .nil⟩ (fun _ _ _ _ => True.intro) ?_ ?_
  · rintro i v H2 H3 hi ⟨qs, s2, hD, hP⟩ ⟨rfl, rfl⟩
    have at_ : atI letters.cps.toList (0 + (i : Int)) = some (97 + i) := by
      rw [Int.zero_add, letters_list]
      exact atI_nat (by rw [List.getElem?_range' (by omega), Nat.one_mul])
    refine ⟨rfl, ?_⟩
    refine ⟨_, rfl, letters, _, _, rfl, rfl, (by rw [sizeLine_eq]; decide +kernel), at_, (by show 1 ≤ sizeLine; rw [sizeLine_eq]; omega), fun l nl => ?_⟩
    refine ⟨l, 24, _, rfl, rfl, upd_same, by omega, by omega, (by rw [sizeLine_eq]; decide), fun q nq => ?_⟩
    have ef : (List.replicate (Int.toNat 24) [V.int 1]).flatten = (List.replicate 24 (1 : Int)).map V.int := by
      rw [flat_one, List.map_replicate]
      rfl
    rw [ef]
    have s3 := (Same.new (o := .lst [V.int 1]) nl).trans (Same.new (o := .lst ((List.replicate 24 (1 : Int)).map V.int)) nq)
    have eq1 : upd (upd H3 l (.lst [V.int 1])) q (.lst ((List.replicate 24 (1 : Int)).map V.int)) q = some (.lst ((List.replicate 24 (1 : Int)).map V.int)) := upd_same
    have nq3 := (Same.new (o := .lst [V.int 1]) nl).free nq
    generalize upd (upd H3 l (.lst [V.int 1])) q (.lst ((List.replicate 24 (1 : Int)).map V.int)) = H4 at *
    refine ⟨(by show 2 ≤ sizeLine; rw [sizeLine_eq]; omega), fun t nt => ?_⟩
    have s4 := s3.trans (Same.new (o := .tup [V.str (SX.S [97 + i]), V.ref q]) nt)
    have qlen : qs.length = i := by rw [hP.length, wide_len]
    have hD4 := s4 _ _ hD
    have tD : t ≠ D := fun e => by rw [e, s3 _ _ hD] at nt; cases nt
    have qD : q ≠ D := fun e => by rw [e, hD] at nq3; cases nq3
    have tq : q ≠ t := fun e => by rw [← e, eq1] at nt; cases nt
    refine ⟨_, hD4, small1000 (by rw [List.length_map]; omega), qs ++ [t], Same.put (s2.trans s4) nD, by rw [upd_same, List.map_append]; rfl, ?_⟩
    have ew : wide (i + 1) = wide i ++ [(SX.S [97 + i], List.replicate 24 1)] := by
      unfold wide
      rw [List.range_succ, List.map_append]
      rfl
    rw [ew]
    refine Paired.snoc ⟨q, by rw [upd_ne tD]; exact upd_same, ⟨s2.free nq3, qD⟩, by rw [upd_ne qD, upd_ne tq]; exact eq1⟩ (Paired.imp (fun y r ⟨t2, h1, n2, h2⟩ => ⟨t2, ?_, n2, by rw [upd_ne n2.2]; exact s4 _ _ h2⟩) hP)
    rw [upd_ne (fun e => by rw [e, hD] at h1; cases h1)]
    exact s4 _ _ h1
  · rintro H2 ⟨qs, s2, hD, hP⟩
    exact k D qs H2 s2 hD (Paired.imp (fun _ _ ⟨t, h1, n, h2⟩ => ⟨t, h1, n.1, h2⟩) hP)
end BF
set_option Elab.async false
set_option linter.all false
set_option maxRecDepth 100000
set_option maxHeartbeats 4000000
/-! a lambda with parameters and captured names, handed to a def of two parameters that calls it -/
namespace BF
open PySem PySem.Spec PyProof.Rows L2
open LamX (Tabs TabB ExtN CodeO LamS lam_make2)
open NdefX (NF NScope CellsAt startF envF ncx inv_startN Caps cells_of slotAt)
/-- the lambda's words as those of a nested def, its body aside -/
abbrev lamF (q : Str) (params : Arguments) (scope : Scope) (cl : List (Str × Addr)) (c : Addr) : NF := ⟨"<lambda>", q, params, [], scope, cl, c⟩
/-- the context of its body -/
abbrev lamC (P : Program) (w : World) (K : PySem.W.Frag) (mg : Str → Option Value) (base : Heap) (N : List Str) (q : Str) (params : Arguments) (scope : Scope) (cl : List (Str × Addr)) (f c' : Addr) (A : Around) (outer : List Env) (s : Shared) (H : Hp) : Cx :=
  ncx C8.CX0 P w K mg base N (lamF q params scope cl c') f A outer s H C8.E0
section
variable {P : Program} {w : World} {K : PySem.W.Frag} {mg : Str → Option Value} {base : Heap}
theorem run_lam {N ps fr : List Str} {q : Str} {params : Arguments} {body : Expr} {scope : Scope} {cl : List (Str × Addr)} {pm ctv : Value} {f c' : Addr} {k : Nat} {A : Around} {outer : List Env} {s : Shared} {H : Hp} {us : List Value} {vs : List V} {ws : List (Option V)} {Q : VK} {tb : TE}
    (S : NScope N ps fr scope) (hbind : bindArgs (PySem.W.kla_fn "<lambda>" q params body scope cl pm (.ref c') ctv) ⟨us, []⟩ = pure (ps.zip us)) (hr : Room (k + 1) A) (e0 : Env0 P w K mg base A outer s H)
    (hf : s.heap.get? f = some (PySem.W.kla_obj "<lambda>" q params body scope cl pm c' ctv)) (hc : H c' = some (CodeO c' q)) (C : CellsAt cl fr ws s.heap H) (r : Vals vs us) (hl : vs.length = ps.length)
    (hbody : Room k (A.deeper (envF (lamF q params scope cl c') f s.heap.objs.size)) → PE (lamC P w K mg base N q params scope cl f c' A outer s H) body tb) (h : tb (startF N vs ws) H Q) :
    codeAny (model P w) A (.call (.ref f) ⟨us, []⟩) (CR C8.CX0 outer P w H s Q C8.E0) s := by
  have lim : s.heap.NoLimit := e0.mod.nolimit.keeps fun b o e => (e0.bs b o e).1
  refine PySem.W.kla_callFunE hr.depth hf rfl S.co S.gen rfl (NdefX.codeO_at e0.hok hc) ?_
  rw [hbind]
  refine wpAny_pure (wpAny_newFunctionEnv S.nocell (fun ⟨n, _⟩ hy => S.par n (List.of_mem_zip hy).1) (fun h₁ hns hsb => ⟨lim.fresh _ hsb, ?_⟩) S.kind)
  show codeAny _ _ (.expr body (envF (lamF q params scope cl c') f s.heap.objs.size)) _ _
  have kp : ∀ b o, s.heap.get? b = some o → h₁.get? b = some o := fun b o e => hsb.extBut b o (Nat.ne_of_lt (Heap.lt_size e)) (Heap.get?_push_of_some _ e)
  have J : Inv (lamC P w K mg base N q params scope cl f c' A outer s H) [] (startF N vs ws) H { s with heap := h₁, toks := s.toks + (ps.zip us).length } := inv_startN S hr.hd e0 hl r C hns kp
  refine PySem.W.kla_codeExpr (wpAny_mono ((hbody (hr.deeper _)).run [] _ _ H Q J h) (fun v s' hq => ?_) fun e s' hq => hq)
  obtain ⟨w', H', J', rv, q⟩ := hq
  exact ⟨w', H', J'.os, J'.bare, J'.base, J'.hok, rv, q⟩
end
section
variable {cl : List (Str × Addr)} {fr : List Str} {ws : List (Option V)} {fs : List Addr} {H H' : Hp} {h h' : Heap}
/-- what the cells held they hold still -/
theorem cells_un (C : CellsAt cl fr ws h H) (u : Un fs [] H H' h h') : CellsAt cl fr ws h' H' := by
  have kp : ∀ y c, cl.lookup y = some c → ∀ v, h.IsCell c v → h'.IsCell c v := fun y c e v ⟨o, ho, hd⟩ => by
    obtain ⟨sl, q⟩ := u.any ho (C.all y c e).1 (by simp)
    exact ⟨_, q, hd⟩
  refine ⟨C.len, fun y c e => ?_, C.inj, fun i y e => ?_⟩
  · obtain ⟨n, v, z⟩ := C.all y c e
    refine ⟨?_, v, kp y c e v z⟩
    obtain ⟨o, ho, _⟩ := z
    exact u.free c o ho n (by simp)
  · obtain ⟨c, hc, hv⟩ := C.has i y e
    refine ⟨c, hc, fun v ev => ?_⟩
    obtain ⟨u', r, z⟩ := hv v ev
    exact ⟨u', r, kp y c hc _ z⟩
end
/-- a(e, ..), a the slot j that holds the lambda at f: tl what it makes of the values -/
def tAct (j : Nat) (f c' : Addr) (q : Str) (ta : TA) (tl : List V → Hp → VK → Prop) : TE := fun σ H Q => σ[j]? = some (some (.ref f)) ∧ ta σ H fun vs H1 => H1 c' = some (CodeO c' q) ∧ tl vs H1 Q
section
variable {X : Cx} {pins : List (Addr × Obj)} {σ : L2.St} {H : Hp} {s : Shared}
theorem pe_act2 {Ng : List Str} {qg : Str} {sg : Scope} {g f c' : Addr} {cdg pm ctv : Value} {N ps fr : List Str} {q : Str} {params : Arguments} {body : Expr} {scope : Scope} {cl : List (Str × Addr)} {ws : List (Option V)} {k j : Nat} {a : Str} {tb : TE} {e : Expr} {es : List Expr} {ta : TA} {p1 p2 : Pos}
    (hf : s.heap.get? f = some (PySem.W.kla_obj "<lambda>" q params body scope cl pm c' ctv)) (hfn : H f = none) (hfr : f ∉ frs X.stack) (C : CellsAt cl fr ws s.heap H) (S : NScope N ps fr scope)
    (hbind : ∀ us : List Value, us.length = ps.length → bindArgs (PySem.W.kla_fn "<lambda>" q params body scope cl pm (.ref c') ctv) ⟨us, []⟩ = pure (ps.zip us))
    (hr : Room (k + 1) (X.A.deeper (envOfC qg sg s.heap.objs.size g cdg)))
    (hbody : ∀ (A : Around) (outer : List Env) (s : Shared) (H : Hp), Room k (A.deeper (envF (lamF q params scope cl c') f s.heap.objs.size)) → PE (lamC X.prog X.w X.K X.mg X.base N q params scope cl f c' A outer s H) body tb)
    (hN : Ng[j]? = some a) (hv : Vis sg a) (ha : PA ((cxOf C8.CX0 X.prog X.w X.K X.mg X.base Ng qg sg g cdg X.A X.stack s H C8.E0).nox) (e :: es) ta)
    (hd : (a == ("__debug__" : Str)) = false := by decide) (hcd : (a == ("__classdict__" : Str)) = false := by decide)
    (he : starEach (e :: es) ((cxOf C8.CX0 X.prog X.w X.K X.mg X.base Ng qg sg g cdg X.A X.stack s H C8.E0).nox).env = (false, eval e ((cxOf C8.CX0 X.prog X.w X.K X.mg X.base Ng qg sg g cdg X.A X.stack s H C8.E0).nox).env) :: starEach es ((cxOf C8.CX0 X.prog X.w X.K X.mg X.base Ng qg sg g cdg X.A X.stack s H C8.E0).nox).env := by rfl)
    (hpl : (backTo p2 (starEach es ((cxOf C8.CX0 X.prog X.w X.K X.mg X.base Ng qg sg g cdg X.A X.stack s H C8.E0).nox).env)).any (·.1) = false := by rfl) :
    PE ((cxOf C8.CX0 X.prog X.w X.K X.mg X.base Ng qg sg g cdg X.A X.stack s H C8.E0).nox) (.Call (.Name a p1) (e :: es) [] p2) (tAct j f c' q ta fun vs H1 Q => vs.length = ps.length ∧ tb (startF N vs ws) H1 Q) := by
  refine ⟨fun pinsZ sZ σZ HZ Q IZ h => ?_⟩
  obtain ⟨hs, ht⟩ := h
  refine wpAny_Call_Name_kw (thn ((pe_var (pos := p1) (i := j) hN hv hd hcd).run pinsZ sZ σZ HZ (fun v H1 => v = .ref f ∧ H1 = HZ) IZ ⟨.ref f, hs, rfl, rfl⟩) fun u s1 ⟨v, H1, I1, r1, q1⟩ => ?_)
  obtain ⟨ev, eH⟩ := q1
  subst ev
  rw [eH] at I1
  obtain rfl : u = Value.ref f := r1
  have kept : ∀ {pins2 : List (Addr × Obj)} {σ2 : L2.St} {H2 : Hp} {s2 : Shared}, Inv ((cxOf C8.CX0 X.prog X.w X.K X.mg X.base Ng qg sg g cdg X.A X.stack s H C8.E0).nox) pins2 σ2 H2 s2 → s2.heap.get? f = some (PySem.W.kla_obj "<lambda>" q params body scope cl pm c' ctv) :=
    fun I2 => I2.base.keep f _ hf hfn hfr (fun z => nomatch (show f ∈ ([] : List Addr) from z))
  refine PySem.W.callWith_F (first := []) ⟨_, _, _, _, kept I1⟩ (thn (ha.run p2 pinsZ s1 σZ HZ _ I1 ht) fun us s2 ⟨vs, H2, I2, r, hc, hl, q2⟩ => ⟨⟨_, _, _, _, kept I2⟩, ?_⟩) he hpl
  show wpAny _ _ (call (.ref f) us) _ _ _
  have C2 : CellsAt cl fr ws s2.heap H2 := cells_un C (show Un (frs X.stack) [] H H2 s.heap s2.heap from I2.base)
  have rc := run_lam (A := X.A.deeper (envOfC qg sg s.heap.objs.size g cdg)) S (hbind us (by rw [← r.length]; exact hl)) hr I2.env0 (kept I2) hc C2 r hl (fun hr2 => hbody _ _ s2 H2 hr2) q2
  refine wpAny_call (codeAny_mono rc fun r s' hq => ?_)
  cases r with
  | error e => exact (show False from hq).elim
  | ok fl =>
    cases fl with
    | ret u => exact I2.after hq
    | next => exact False.elim hq
    | brk => exact False.elim hq
    | cont => exact False.elim hq
end
/-- the def that calls what it got second: TT what it makes of the first value and of the lambda's reading -/
def GivesL (X : Cx) (Ng : List Str) (x : Str) (sg : Scope) (g : Addr) (cdg : Value) (bg : List Stmt) (kR j : Nat) (a : Str) (q : Str) (TT : V → (List V → Hp → VK → Prop) → Hp → VK → Prop) : Prop :=
  ∀ (u : V) (f c' : Addr) (s : Shared) (H : Hp) (Q : VK) (tl : List V → Hp → VK → Prop),
    (∀ {e : Expr} {es : List Expr} {ta : TA} {p1 p2 : Pos}, PA ((cxOf C8.CX0 X.prog X.w X.K X.mg X.base Ng x sg g cdg X.A X.stack s H C8.E0).nox) (e :: es) ta →
      starEach (e :: es) ((cxOf C8.CX0 X.prog X.w X.K X.mg X.base Ng x sg g cdg X.A X.stack s H C8.E0).nox).env = (false, eval e ((cxOf C8.CX0 X.prog X.w X.K X.mg X.base Ng x sg g cdg X.A X.stack s H C8.E0).nox).env) :: starEach es ((cxOf C8.CX0 X.prog X.w X.K X.mg X.base Ng x sg g cdg X.A X.stack s H C8.E0).nox).env →
      (backTo p2 (starEach es ((cxOf C8.CX0 X.prog X.w X.K X.mg X.base Ng x sg g cdg X.A X.stack s H C8.E0).nox).env)).any (·.1) = false →
      PE ((cxOf C8.CX0 X.prog X.w X.K X.mg X.base Ng x sg g cdg X.A X.stack s H C8.E0).nox) (.Call (.Name a p1) (e :: es) [] p2) (tAct j f c' q ta tl)) →
    Room kR (X.A.deeper (envOfC x sg s.heap.objs.size g cdg)) → H c' = some (CodeO c' q) → TT u tl H Q →
    ∃ t, PSs (cxOf C8.CX0 X.prog X.w X.K X.mg X.base Ng x sg g cdg X.A X.stack s H C8.E0).nox bg t ∧ t { nx := fun _ H' => Q .non H', rt := Q } (L2.start Ng [u, .ref f]) H
/-- x(e, lambda ..): the first value, the lambda made, the def called -/
def tLam2 (T : List (Addr × Str)) (N ps : List Str) (js : List Nat) (TT : V → (List V → Hp → VK → Prop) → Hp → VK → Prop) (te tb : TE) : TE := fun σ H Q => te σ H fun u H1 => Tabs T H1 ∧ ∀ H2, ExtN H1 H2 → Tabs T H2 → TT u (fun vs H' Q' => vs.length = ps.length ∧ tb (startF N vs (js.map (slotAt σ))) H' Q') H2 Q
section
variable {X : Cx}
theorem pe_lam2 {T : List (Addr × Str)} {TT : V → (List V → Hp → VK → Prop) → Hp → VK → Prop} {x a a0 : Str} {g c P : Addr} {k : Nat} {pg : Arguments} {bg : List Stmt} {sg : Scope} {dV kV doc pm cdv ct oc : Value} {an od : Option Addr} {osl : Array (Option Value)} {Ng N ps fr : List Str} {js : List Nat}
    {params : Arguments} {body e : Expr} {scope : Scope} {te tb : TE} {p lpos pos : Pos} (hg : Gl X x) (hm : X.mg x = some (.ref g)) (hk : PySem.W.keepIn X.K (.ref g) = true)
    (lk : X.K.lookup g = some ⟨oc, od, .func (PySem.W.fnOf x x pg bg sg dV kV doc pm an cdv ct), osl⟩) (hcg : PySem.W.codeIn X.K cdv x = true) (hb : L2.Binds X.K (PySem.W.fnOf x x pg bg sg dV kV doc pm an cdv ct) [a0, a] []) (Sg : FnScope Ng [a0, a] sg) (hNg : Ng[1]? = some a) (hva : Vis sg a)
    (hG : GivesL X Ng x sg g cdv bg (k + 2) 1 a (X.env.qual ++ "<lambda>") TT)
    (TB : TabB X.base X.mg c P) (hcode : X.env.code = .ref c) (hmT : (P, X.env.qual ++ "<lambda>") ∈ T) (hu : ∀ p ∈ T, p.1 = P → p.2 = X.env.qual ++ "<lambda>") (hr : Room (k + 3) X.A)
    (hfree : ∀ y ∈ scope.names, y.2 = .free → X.env.scope.names.lookup y.1 = some .cell ∨ X.env.scope.names.lookup y.1 = some .free) (hfr : ∀ y ∈ fr, (y, NameKind.free) ∈ scope.names) (hjs : js.map (fun j => X.N[j]?) = fr.map some) (S : NScope N ps fr scope) (hdef : defaultsOf params X.env = ([], []))
    (hbind : ∀ (q : Str) (cl : List (Str × Addr)) (pm cv ctv : Value) (us : List Value), us.length = ps.length → bindArgs (PySem.W.kla_fn "<lambda>" q params body scope cl pm cv ctv) ⟨us, []⟩ = pure (ps.zip us))
    (he : PE X e te)
    (hbody : ∀ (A : Around) (outer : List Env) (s : Shared) (H : Hp) (f c' : Addr) (cl : List (Str × Addr)), Room k (A.deeper (envF (lamF (X.env.qual ++ "<lambda>") params scope cl c') f s.heap.objs.size)) → PE (lamC X.prog X.w X.K X.mg X.base N (X.env.qual ++ "<lambda>") params scope cl f c' A outer s H) body tb)
    (hst : starEach (e :: [.Lambda params body scope lpos]) X.env = (false, eval e X.env) :: starEach [.Lambda params body scope lpos] X.env := by rfl) (hpl : (backTo pos (starEach [.Lambda params body scope lpos] X.env)).any (·.1) = false := by rfl)
    (hdb : (x == ("__debug__" : Str)) = false := by decide) (hd : (a == ("__debug__" : Str)) = false := by decide) (hcd : (a == ("__classdict__" : Str)) = false := by decide) :
    PE X (.Call (.Name x p) [e, .Lambda params body scope lpos] [] pos) (tLam2 T N ps js TT te tb) := by
  refine ⟨fun pins s σ H Q I h => ?_⟩
  refine wpAny_Call_Name_kw (ld_glob I hg hm ?_ hdb)
  refine PySem.W.callWith_K (h₀ := X.base) I.ok.mod.kin hk ?_ hst hpl
  rw [hst]
  show wpAny _ _ (spliced ((false, eval e X.env) :: backTo pos (starEach [.Lambda params body scope lpos] X.env))) _ _ s
  refine Calls.spliced_cons (thn (he.run pins s σ H _ I h) fun u s1 ⟨v, H1, I1, rv, hT, h⟩ => ?_)
  show wpAny _ _ (spliced ((false, eval (.Lambda params body scope lpos) X.env) :: backTo pos (starEach [] X.env))) _ _ s1
  refine Calls.spliced_cons (lam_make2 I1 TB hcode hmT hu hT hdef (fun y hy e => (hfree y hy e).elim (fun z => I1.ok.has _ (.inl z)) fun z => I1.ok.has _ (.inr z)) fun f c' pm' ctv H2 s2 I2 eN T2 hf hfn hfrs hco => ?_)
  refine Calls.spliced_nil ⟨I2.kIn, ?_⟩
  have C := cells_of I2 (Caps.made I2.ok hfree hfr hjs)
  have rc : codeAny (model X.prog X.w) X.A (.call (.ref g) ⟨[u, .ref f], []⟩) (CR C8.CX0 X.stack X.prog X.w H2 s2 Q C8.E0) s2 := by
    refine LamX.run_ofS (N := Ng) (ps := [a0, a]) (us := [u, .ref f]) (vs := [v, .ref f]) lk hcg Sg hr I2.env0 (hb s2 [u, .ref f] I2.kIn rfl) (.cons rv (.cons rfl .nil)) rfl fun hr' => ?_
    obtain ⟨t', ht', hq'⟩ := hG v f c' s2 H2 Q _ (fun {e es ta p1 p2} ha he hpl => pe_act2 (j := 1) hf hfn hfrs C S (hbind _ _ _ _ _) (hr'.mono (by omega)) (fun A outer s H hr2 => hbody A outer s H f c' _ hr2) hNg hva ha hd hcd he hpl) hr' hco (h H2 eN T2)
    exact ⟨t', ht'.nox, hq'⟩
  refine wpAny_call (codeAny_mono rc fun r s' hq => ?_)
  cases r with
  | error e => exact (show False from hq).elim
  | ok fl =>
    cases fl with
    | ret u => exact I2.after hq
    | next => exact False.elim hq
    | brk => exact False.elim hq
    | cont => exact False.elim hq
end
end BF
set_option Elab.async false
set_option linter.all false
set_option maxRecDepth 100000
set_option maxHeartbeats 4000000
/-! heaps with tables of code objects; first wrong entries of any kind; rooms -/
namespace BF
open PySem PySem.Spec PyProof.Rows L2
open LamX (Tabs TabS TabB ExtN CodeO)
/-! ### a def that makes a lambda: its code object is known -/
theorem cal0c {P : Program} {w : World} {K : PySem.W.Frag} {mg : Str → Option Value} {base : Heap} {x : Str} {st : Stmt} {f c : Addr} {fd : FuncData} {N ps : List Str} {k : Nat} {sp : Sp} (F : C8.Def K mg x st f fd) (b : Binds K fd ps []) (hc : fd.code = .ref c) (S : FnScope N ps (C8.fnScope st))
    (len : ∀ vs H Q E, sp vs H Q E → vs.length = ps.length)
    (hbody : ∀ (A : Around) (outer : List Env) (s : Shared) (H : Hp) (vs : List V) (Q : VK) (E : XK), Room k (A.deeper (envOfC x (C8.fnScope st) s.heap.objs.size f (.ref c))) → sp vs H Q E →
      ∃ t, PSs ((cxOf C8.CX0 P w K mg base N x (C8.fnScope st) f (.ref c) A outer s H E).nox) (C8.fnBody st) t ∧ t { nx := fun _ H' => Q .non H', rt := Q } (L2.start N vs) H) : C8.Cal P w K mg base (k + 1) x sp [] := by
  obtain ⟨oc, od, dV, kV, doc, pm, an, cdv, ct, osl, e, lk, hcd⟩ := F.fn.ex
  subst e
  have e2 : cdv = .ref c := hc
  subst e2
  exact ⟨f, _, ps, [], fn_of lk hcd S len fun A outer s H vs Q E hr hsp => (hbody A outer s H vs Q E hr hsp).imp fun t h => ⟨h.1.nox, h.2⟩, F.mgf, F.kp, b, .nil⟩
/-! ### tables aside -/
def noT : HO → Bool
  | .tbl _ => false
  | _ => true
theorem noT_ne {o : HO} (h : noT o = true) : ∀ ps, o ≠ .tbl ps := fun ps e => by rw [e] at h; cases h
/-- all but the tables stand, the tables are still tables -/
structure SmT (T : List (Addr × Str)) (H H' : Hp) : Prop where
  keep : ∀ b o, noT o = true → H b = some o → H' b = some o
  tabs : Tabs T H → Tabs T H'
/-- all but the tables and the state at w stand -/
structure KpT (T : List (Addr × Str)) (w c : Addr) (H H' : Hp) : Prop where
  keep : ∀ b o, b ≠ w → noT o = true → H b = some o → H' b = some o
  st : StAt H w c → StAt H' w c
  tabs : StAt H w c → Tabs T H → Tabs T H'
/-- not tracked, but perhaps as a table -/
def Fre (H : Hp) (p : Addr) : Prop := ∀ o, noT o = true → H p ≠ some o
/-- what may be stored to -/
def plainO : HO → Bool
  | .tbl _ => false
  | .ext _ => false
  | _ => true
section
variable {T : List (Addr × Str)} {H H' H1 H2 : Hp} {w c p : Addr} {o u : HO}
theorem SmT.of (s : Same H H') : SmT T H H' := ⟨fun b o _ e => s b o e, fun t => t.ext s⟩
theorem SmT.refl (T : List (Addr × Str)) (H : Hp) : SmT T H H := .of (Same.refl H)
theorem SmT.trans (a : SmT T H H1) (b : SmT T H1 H2) : SmT T H H2 := ⟨fun x o n e => b.keep x o n (a.keep x o n e), fun t => b.tabs (a.tabs t)⟩
theorem SmT.ext (e : ExtN H H') (t : Tabs T H') : SmT T H H' := ⟨fun b o n h => e b o h (noT_ne n), fun _ => t⟩
theorem Fre.of (h : H p = none) : Fre H p := fun o _ e => by rw [h] at e; cases e
theorem SmT.free (s : SmT T H H') (h : H' p = none) : Fre H p := fun o n e => by rw [s.keep p o n e] at h; cases h
theorem Fre.ne {b : Addr} (h : Fre H p) (e : H b = some o) (n : noT o = true := by rfl) : b ≠ p := fun z => h o n (by rw [← z]; exact e)
theorem tabs_upd (t : Tabs T H) (hp : ∀ u, H p = some u → plainO u = true) : Tabs T (L2.upd H p o) := fun q hq => by
  obtain ⟨ps, h1, h2, h3⟩ := t q hq
  have n1 : q.1 ≠ p := fun e => by
    have := hp _ (by rw [← e]; exact h1)
    cases this
  refine ⟨ps, by rw [upd_ne n1]; exact h1, h2, fun pos cv hc => ?_⟩
  obtain ⟨c, e1, e2⟩ := h3 pos cv hc
  have n2 : c ≠ p := fun e => by
    have := hp _ (by rw [← e]; exact e2)
    cases this
  exact ⟨c, e1, by rw [upd_ne n2]; exact e2⟩
theorem SmT.new (s : SmT T H H1) (h : H1 p = none) : SmT T H (L2.upd H1 p o) :=
  ⟨fun b u n e => by rw [upd_ne ((s.free h).ne e n)]; exact s.keep b u n e, fun t => tabs_upd (s.tabs t) fun u e => by rw [h] at e; cases e⟩
theorem SmT.chg (s : SmT T H H1) (h : Fre H p) (e : H1 p = some u) (pl : plainO u = true := by rfl) : SmT T H (L2.upd H1 p o) :=
  ⟨fun b v n q => by rw [upd_ne (h.ne q n)]; exact s.keep b v n q, fun t => tabs_upd (s.tabs t) fun v q => by rw [e] at q; cases q; exact pl⟩
theorem StAt.neF (h : StAt H w c) (hp : Fre H p) : p ≠ w := fun e => by
  obtain ⟨⟨i, x, y, z, v, q⟩, _⟩ := h
  exact hp _ rfl (by rw [e]; exact q)
theorem StAt.ncF (h : StAt H w c) (hp : Fre H p) : p ≠ c := fun e => by
  obtain ⟨_, ns, q, _⟩ := h
  exact hp _ rfl (by rw [e]; exact q)
theorem StAt.smT (h : StAt H w c) (s : SmT T H H') : StAt H' w c := by
  obtain ⟨⟨i, x, y, z, v, q⟩, ns, q2, hl⟩ := h
  exact ⟨⟨i, x, y, z, v, s.keep _ _ rfl q⟩, ns, s.keep _ _ rfl q2, hl⟩
theorem KpT.refl (T : List (Addr × Str)) (w c : Addr) (H : Hp) : KpT T w c H H := ⟨fun _ _ _ _ h => h, id, fun _ => id⟩
theorem KpT.trans (a : KpT T w c H H1) (b : KpT T w c H1 H2) : KpT T w c H H2 := ⟨fun x o n m h => b.keep x o n m (a.keep x o n m h), fun h => b.st (a.st h), fun h t => b.tabs (a.st h) (a.tabs h t)⟩
theorem KpT.of (k : KpS w c H H') : KpT T w c H H' := ⟨fun b o n _ e => k.keep b o n e, k.st, fun h t q hq => by
  obtain ⟨ps, h1, h2, h3⟩ := t q hq
  have n1 : q.1 ≠ w := fun e => by
    obtain ⟨⟨i, x, y, z, v, e2⟩, _⟩ := h
    rw [e, e2] at h1
    cases h1
  refine ⟨ps, k.keep _ _ n1 h1, h2, fun pos cv hc => ?_⟩
  obtain ⟨d, e1, e2⟩ := h3 pos cv hc
  have n2 : d ≠ w := fun e => by
    obtain ⟨⟨i, x, y, z, v, e3⟩, _⟩ := h
    rw [e, e3] at e2
    unfold CodeO at e2
    cases e2
  exact ⟨d, e1, k.keep _ _ n2 e2⟩⟩
theorem KpT.sm (s : SmT T H H') : KpT T w c H H' := ⟨fun b o _ n e => s.keep b o n e, fun h => h.smT s, fun _ t => s.tabs t⟩
theorem KpT.same (s : Same H H') : KpT T w c H H' := .sm (.of s)
theorem KpT.get (k : KpT T w c H H') (hw : StAt H w c) (h : H p = some o) (ho : isSt o = false := by rfl) (n : noT o = true := by rfl) : H' p = some o := k.keep p o (hw.neo h ho) n h
theorem KpT.free (k : KpT T w c H H') (hw : StAt H w c) (h : H' p = none) : Fre H p := fun o n e => by
  have ne : p ≠ w := (k.st hw).ne h
  rw [k.keep p o ne n e] at h
  cases h
/-- a new thing, or one of those that were free at the beginning is changed -/
theorem KpT.putF (k : KpT T w c H H1) (hw : StAt H w c) (h : Fre H p) (pl : ∀ u, H1 p = some u → plainO u = true) : KpT T w c H (L2.upd H1 p o) :=
  ⟨fun b v n m e => by rw [upd_ne (h.ne e m)]; exact k.keep b v n m e, fun q => by
    obtain ⟨⟨i, x, y, z, v, q1⟩, ns, q2, hl⟩ := k.st q
    exact ⟨⟨i, x, y, z, v, by rw [upd_ne (hw.neF h).symm]; exact q1⟩, ns, by rw [upd_ne (hw.ncF h).symm]; exact q2, hl⟩, fun q t => tabs_upd (k.tabs q t) pl⟩
theorem KpT.new (k : KpT T w c H H1) (hw : StAt H w c) (h : H1 p = none) : KpT T w c H (L2.upd H1 p o) := k.putF hw (k.free hw h) fun u e => by rw [h] at e; cases e
theorem KpT.chg (k : KpT T w c H H1) (hw : StAt H w c) (h : Fre H p) (e : H1 p = some u) (pl : plainO u = true := by rfl) : KpT T w c H (L2.upd H1 p o) := k.putF hw h fun v q => by rw [e] at q; cases q; exact pl
end
/-! ### what is passed: lists of texts, rooms -/
/-- the types of values, tables aside -/
theorem _root_.L2.TyX.fwT {K : PySem.W.Frag} {H H' : Hp} {v : V} {t : Value} (h : TyX K H v t) (k : ∀ b o, (∀ xs, o ≠ .lst xs) → noT o = true → H b = some o → H' b = some o) (kl : ∀ b xs, H b = some (.lst xs) → ∃ ys, H' b = some (.lst ys)) : TyX K H' v t := by
  cases h with
  | base b =>
    cases b with
    | non => exact .base .non
    | bl x => exact .base (.bl x)
    | int i => exact .base (.int i)
    | str x => exact .base (.str x)
    | flt x => exact .base (.flt x)
    | lst e =>
      obtain ⟨ys, e2⟩ := kl _ _ e
      exact .base (.lst e2)
    | frz e => exact .base (.frz (k _ _ (by intros; simp) rfl e))
    | tup e => exact .base (.tup (k _ _ (by intros; simp) rfl e))
    | dK e => exact .base (.dK (k _ _ (by intros; simp) rfl e))
    | dT e => exact .base (.dT (k _ _ (by intros; simp) rfl e))
    | ins e cl ha hn htk hm => exact .base (.ins (k _ _ (by intros; simp) rfl e) cl ha hn htk hm)
  | byt b => exact .byt b
  | set e => exact .set (k _ _ (by intros; simp) rfl e)
  | kList e c => exact .kList e c
  | kTuple e c => exact .kTuple e c
  | kDict e c => exact .kDict e c
  | fTuple e => exact .fTuple (k _ _ (by intros; simp) rfl e)
  | fDict e => exact .fDict (k _ _ (by intros; simp) rfl e)
/-- a list of texts or of other things, or surely no list -/
inductive LV where
  | lst (os : List (Option Str))
  | junk
inductive LVr (K : PySem.W.Frag) (H : Hp) : V → LV → Prop
  | no {x : V} {t : Value} (h : TyX K H x t) (k : PySem.W.kitOne K t (.type "list") = some false) : LVr K H x .junk
  | lst {p : Addr} {xs : List V} {os : List (Option Str)} (h : H p = some (.lst xs)) (e : Paired (IsS K H) xs os) (l : os.length ≤ 63) (z : ∀ x, some x ∈ os → x.length ≤ 1000) (n : isSt (.lst xs) = false) : LVr K H (.ref p) (.lst os)
/-- a pair of such a list and perhaps an integer, or surely no pair -/
inductive PV where
  | pair (l : LV) (n : Option Int)
  | junk
inductive PVr (K : PySem.W.Frag) (H : Hp) : V → PV → Prop
  | no {x : V} {t : Value} (h : TyX K H x t) (k : PySem.W.kitOne K t (.type "tuple") = some false) : PVr K H x .junk
  | long {p : Addr} {xs : List V} (h : H p = some (.tup xs)) (n : xs.length ≠ 2) : PVr K H (.ref p) .junk
  | pair {p : Addr} {x y : V} {l : LV} {o : Option Int} (h : H p = some (.tup [x, y])) (hx : LVr K H x l) (hy : EV K H y o) : PVr K H (.ref p) (.pair l o)
section
variable {K : PySem.W.Frag} {T : List (Addr × Str)} {H H' : Hp} {w c : Addr} {v : V} {t : Value}
theorem SmT.tyx (s : SmT T H H') (h : TyX K H v t) : TyX K H' v t := h.fwT (fun b o _ n e => s.keep b o n e) fun b xs e => ⟨xs, s.keep _ _ rfl e⟩
theorem KpT.tyx (k : KpT T w c H H') (hw : StAt H w c) (h : TyX K H v t) : TyX K H' v t := h.fwT (fun b o no n e => k.keep b o (fun q => by
    obtain ⟨⟨i, x, y, z, u, z1⟩, _⟩ := hw
    rw [q, z1] at e
    exact no _ (Option.some.inj e).symm) n e) fun b xs e => by
    by_cases q : b = w
    · obtain ⟨⟨i, x, y, z, u, z1⟩, _⟩ := k.st hw
      exact ⟨_, by rw [q]; exact z1⟩
    · exact ⟨xs, k.keep b _ q rfl e⟩
theorem IsS.sm {o : Option Str} (h : IsS K H v o) (s : SmT T H H') : IsS K H' v o := by
  cases h with
  | str z => exact .str z
  | no h e => exact .no (s.tyx h) e
theorem IsS.kt {o : Option Str} (h : IsS K H v o) (k : KpT T w c H H') (hw : StAt H w c) : IsS K H' v o := by
  cases h with
  | str z => exact .str z
  | no h e => exact .no (k.tyx hw h) e
theorem EV.sm {o : Option Int} (h : EV K H v o) (s : SmT T H H') : EV K H' v o := by
  cases h with
  | int i => exact .int i
  | bl b => exact .bl b
  | no h e => exact .no (s.tyx h) e
theorem EV.kt {o : Option Int} (h : EV K H v o) (k : KpT T w c H H') (hw : StAt H w c) : EV K H' v o := by
  cases h with
  | int i => exact .int i
  | bl b => exact .bl b
  | no h e => exact .no (k.tyx hw h) e
theorem LVr.sm {o : LV} (h : LVr K H v o) (s : SmT T H H') : LVr K H' v o := by
  cases h with
  | no h e => exact .no (s.tyx h) e
  | lst h e l z n => exact .lst (s.keep _ _ rfl h) (Paired.imp (fun _ _ q => q.sm s) e) l z n
theorem LVr.kt {o : LV} (h : LVr K H v o) (k : KpT T w c H H') (hw : StAt H w c) : LVr K H' v o := by
  cases h with
  | no h e => exact .no (k.tyx hw h) e
  | lst h e l z n => exact .lst (k.get hw h n) (Paired.imp (fun _ _ q => q.kt k hw) e) l z n
theorem PVr.sm {o : PV} (h : PVr K H v o) (s : SmT T H H') : PVr K H' v o := by
  cases h with
  | no h e => exact .no (s.tyx h) e
  | long h n => exact .long (s.keep _ _ rfl h) n
  | pair h hx hy => exact .pair (s.keep _ _ rfl h) (hx.sm s) (hy.sm s)
theorem PVr.kt {o : PV} (h : PVr K H v o) (k : KpT T w c H H') (hw : StAt H w c) : PVr K H' v o := by
  cases h with
  | no h e => exact .no (k.tyx hw h) e
  | long h n => exact .long (k.get hw h) n
  | pair h hx hy => exact .pair (k.get hw h) (hx.kt k hw) (hy.kt k hw)
theorem iss_strs : ∀ xs : List Str, Paired (IsS K H) (xs.map V.str) (xs.map some)
  | [] => .nil
  | x :: r => .cons (.str x) (iss_strs r)
end
/-! ### the first entry that does not fit, or stands ahead, too -/
def fitO (good : Str → Bool) : Option Str → Bool
  | some x => good x
  | none => false
def okO (good : Str → Bool) (os : List (Option Str)) (k : Nat) : Bool := match os[k]? with
  | some o => fitO good o && !decide (o ∈ os.take k)
  | none => true
def fwO (good : Str → Bool) (os : List (Option Str)) : Option Nat := (List.range os.length).find? fun k => !okO good os k
theorem fwO_none {good : Str → Bool} {os : List (Option Str)} (h : ∀ k, k < os.length → okO good os k = true) : fwO good os = none := by
  unfold fwO
  rw [List.find?_eq_none]
  intro k hk
  rw [h k (List.mem_range.mp hk)]
  simp
theorem fwO_some {good : Str → Bool} {os : List (Option Str)} {k : Nat} (h1 : k < os.length) (h2 : okO good os k = false) (h3 : ∀ j, j < k → okO good os j = true) : fwO good os = some k := by
  unfold fwO
  rw [List.find?_range_eq_some]
  exact ⟨by rw [h2]; rfl, List.mem_range.mpr h1, fun j hj => by rw [h3 j hj]; rfl⟩
theorem fwO_ok {good : Str → Bool} {os : List (Option Str)} (h : fwO good os = none) {k : Nat} (hk : k < os.length) : okO good os k = true := by
  unfold fwO at h
  rw [List.find?_eq_none] at h
  simpa using h k (List.mem_range.mpr hk)
def fwVO (good : Str → Bool) (os : List (Option Str)) : V := match fwO good os with
  | none => .non
  | some k => .int (k : Nat)
/-- all fit, none stands twice: so they are different texts that fit -/
theorem fwO_texts {good : Str → Bool} {os : List (Option Str)} (h : fwO good os = none) : ∃ xs : List Str, os = xs.map some ∧ xs.Nodup ∧ ∀ x ∈ xs, good x = true := by
  have hk : ∀ (k : Nat) (o : Option Str), os[k]? = some o → fitO good o = true ∧ o ∉ os.take k := fun k o e => by
    have q := fwO_ok h (List.getElem?_eq_some_iff.mp e).1
    unfold okO at q
    rw [e] at q
    simp only [Bool.and_eq_true, Bool.not_eq_true', decide_eq_false_iff_not] at q
    exact q
  have e : os = (os.filterMap id).map some := by
    have all : ∀ o ∈ os, ∃ x, o = some x := fun o ho => by
      obtain ⟨k, hk2⟩ := List.mem_iff_getElem?.mp ho
      cases o with
      | none => cases (hk k none hk2).1
      | some x => exact ⟨x, rfl⟩
    clear hk h
    induction os with
    | nil => rfl
    | cons o r ih =>
      obtain ⟨x, rfl⟩ := all o List.mem_cons_self
      show some x :: r = some x :: (r.filterMap id).map some
      rw [← ih fun o ho => all o (List.mem_cons_of_mem _ ho)]
  refine ⟨os.filterMap id, e, ?_, fun x hx => ?_⟩
  · have nd : os.Nodup := by
      rw [List.nodup_iff_pairwise_ne, List.pairwise_iff_getElem]
      intro i j hi hj hij z
      have := (hk j os[j] (List.getElem?_eq_getElem hj)).2
      exact this (by rw [← z]; exact List.mem_take_iff_getElem.mpr ⟨i, by omega, rfl⟩)
    rw [e] at nd
    exact (List.pairwise_map.mp nd).imp fun h e => h (congrArg some e)
  · have hm : some x ∈ os := by rw [e]; exact List.mem_map.mpr ⟨x, hx, rfl⟩
    obtain ⟨k, hk2⟩ := List.mem_iff_getElem?.mp hm
    exact (hk k _ hk2).1
theorem fwO_of {good : Str → Bool} {xs : List Str} (nd : xs.Nodup) (hg : ∀ x ∈ xs, good x = true) : fwO good (xs.map some) = none := fwO_none fun k hk => by
  rw [List.length_map] at hk
  unfold okO
  rw [List.getElem?_map, List.getElem?_eq_getElem hk]
  show (fitO good (some xs[k]) && !decide (some xs[k] ∈ (xs.map some).take k)) = true
  rw [show fitO good (some xs[k]) = true from hg _ (List.getElem_mem hk), Bool.true_and, ← List.map_take]
  rw [decide_eq_false]
  · rfl
  · intro h
    obtain ⟨y, hy, e⟩ := List.mem_map.mp h
    have e : y = xs[k] := Option.some.inj e
    obtain ⟨j, hj, e2⟩ := List.mem_take_iff_getElem.mp hy
    have := (List.getElem_inj nd).mp (e2.trans e)
    omega
/-- what a def makes that is handed a list and a test -/
def TTfw (K : PySem.W.Frag) (good : Str → Bool) : V → (List V → Hp → VK → Prop) → Hp → VK → Prop := fun u tl H Q => ∃ (a : Addr) (vs : List V) (os : List (Option Str)), u = .ref a ∧ H a = some (.lst vs) ∧ Paired (IsS K H) vs os ∧ os.length ≤ 1000 ∧ (∀ x, some x ∈ os → x.length ≤ 1000) ∧
  (∀ (v : V) (o : Option Str) (H' : Hp) (Q' : VK), Same H H' → IsS K H' v o → o ∈ os → (∀ H'', Same H' H'' → Q' (.bl (fitO good o)) H'') → tl [v] H' Q') ∧ ∀ H', Same H H' → Q (fwVO good os) H'
/-- is_name of a value of any kind -/
def spIsNameO (K : PySem.W.Frag) : Sp := fun vs H Q _ => ∃ (v : V) (o : Option Str), vs = [v] ∧ IsS K H v o ∧ (∀ x, o = some x → x.length ≤ 1000) ∧ ∀ H', Same H H' → Q (.bl (fitO isNm o)) H'
/-- first_wrong(entries, is_name) -/
def spFirstO (K : PySem.W.Frag) (f : Addr) : Sp := fun vs H Q _ => ∃ (a : Addr) (xs : List V) (os : List (Option Str)), vs = [.ref a, .ref f] ∧ H a = some (.lst xs) ∧ Paired (IsS K H) xs os ∧ os.length ≤ 1000 ∧ (∀ x, some x ∈ os → x.length ≤ 1000) ∧ ∀ H', Same H H' → Q (fwVO isNm os) H'
def goodL (things : List Str) : LV → Bool
  | .lst os => (fwO (fun x => decide (x ∈ things)) os).isNone
  | .junk => false
/-- is_lot -/
def spIsLot (K : PySem.W.Frag) (T : List (Addr × Str)) : Sp := fun vs H Q _ => ∃ (v : V) (lv : LV) (a : Addr) (things : List Str), vs = [v, .ref a] ∧ LVr K H v lv ∧ H a = some (.lst (things.map V.str)) ∧ Tabs T H ∧ ∀ H', SmT T H H' → Q (.bl (goodL things lv)) H'
/-- a list in another order -/
def spMixed : Sp := fun vs H Q _ => ∃ (w c a : Addr) (xs : List V), vs = [.ref w, .ref a] ∧ StAt H w c ∧ H a = some (.lst xs) ∧ isSt (.lst xs) = false ∧ xs.length ≤ 1000 ∧ ∀ p ys H', H p = none → KpS w c H H' → H' p = some (.lst ys) → ys.Perm xs → Q (.ref p) H'
end BF
set_option Elab.async false
set_option linter.all false
set_option maxRecDepth 100000
set_option maxHeartbeats 4000000
/-! things in rooms: what is due -/
namespace BF
open PySem PySem.Spec PyProof.Rows L2
open LamX (Tabs TabS TabB ExtN CodeO)
/-- the first wrong thing of a list of any kind -/
def thF (os : List (Option Str)) : Option Int := if 24 < os.length then some (-1) else (fwO isNm os).map fun k => ((k : Nat) : Int)
def spST (K : PySem.W.Frag) (C : Addr) : Sp := fun vs H Q E => ∃ (a : Addr) (xs : List V) (os : List (Option Str)), vs = [.ref a, .int 24] ∧ H a = some (.lst xs) ∧ Paired (IsS K H) xs os ∧ os.length ≤ 1000 ∧ (∀ x, some x ∈ os → x.length ≤ 1000) ∧
  (∀ k, thF os = some k → ∀ d H', Same H H' → H' d = some (.xd [("index", .int k)]) → E (.ref C) (some d) H') ∧
  (∀ ys, thF os = none → os = ys.map some → ∀ p H', H p = none → Same H H' → H' p = some (.lst ((sortS ys).map V.str)) → Q (.ref p) H')
theorem paired_strs {K : PySem.W.Frag} {H : Hp} : ∀ {xs : List V} {ys : List Str}, Paired (IsS K H) xs (ys.map some) → xs = ys.map V.str
  | _, [], .nil => rfl
  | _, y :: r, .cons p t => by
    cases p with
    | str z => rw [List.map_cons, paired_strs t]
/-! ### rooms -/
abbrev Rm := List Str × Int
abbrev RoomK (N : Addr → Prop) (H : Hp) : V → Rm → Prop := fun v r => ∃ t q, v = .ref t ∧ N t ∧ H t = some (.tup [.ref q, .int r.2]) ∧ N q ∧ H q = some (.lst (r.1.map V.str))
structure RoomsD (N : Addr → Prop) (H : Hp) (p : Addr) (rs : List Rm) : Prop where
  at_ : N p
  ex : ∃ vs, H p = some (.lst vs) ∧ Paired (RoomK N H) vs rs
theorem roomK_mv {N : Addr → Prop} {H H' : Hp} {vs : List V} {rs : List Rm} (h : Paired (RoomK N H) vs rs) (k : ∀ a o, N a → noT o = true → H a = some o → H' a = some o) : Paired (RoomK N H') vs rs :=
  Paired.imp (fun _ _ ⟨t, q, e1, nt, e2, nq, e3⟩ => ⟨t, q, e1, nt, k _ _ nt rfl e2, nq, k _ _ nq rfl e3⟩) h
theorem roomK_wk {N M : Addr → Prop} {H : Hp} {vs : List V} {rs : List Rm} (h : Paired (RoomK N H) vs rs) (k : ∀ a, N a → M a) : Paired (RoomK M H) vs rs :=
  Paired.imp (fun _ _ ⟨t, q, e1, nt, e2, nq, e3⟩ => ⟨t, q, e1, k _ nt, e2, k _ nq, e3⟩) h
theorem RoomsD.mv {N : Addr → Prop} {H H' : Hp} {p : Addr} {rs : List Rm} (h : RoomsD N H p rs) (k : ∀ a o, N a → noT o = true → H a = some o → H' a = some o) : RoomsD N H' p rs := by
  obtain ⟨np, vs, e, q⟩ := h
  exact ⟨np, vs, k _ _ np rfl e, roomK_mv q k⟩
theorem RoomsD.wk {N M : Addr → Prop} {H : Hp} {p : Addr} {rs : List Rm} (h : RoomsD N H p rs) (k : ∀ a, N a → M a) : RoomsD M H p rs := by
  obtain ⟨np, vs, e, q⟩ := h
  exact ⟨k _ np, vs, e, roomK_wk q k⟩
theorem RoomsD.same {N : Addr → Prop} {H H' : Hp} {p : Addr} {rs : List Rm} (h : RoomsD N H p rs) (s : Same H H') : RoomsD N H' p rs := h.mv fun a o _ _ e => s a o e
theorem RoomsD.sm {T : List (Addr × Str)} {N : Addr → Prop} {H H' : Hp} {p : Addr} {rs : List Rm} (h : RoomsD N H p rs) (s : SmT T H H') : RoomsD N H' p rs := h.mv fun a o _ n e => s.keep a o n e
theorem rooms_refs {N : Addr → Prop} {H : Hp} : ∀ {vs : List V} {rs : List Rm}, Paired (RoomK N H) vs rs → ∃ ts : List Addr, vs = ts.map V.ref
  | _, _, .nil => ⟨[], rfl⟩
  | _, _, .cons ⟨t, _, e, _⟩ r => by
    obtain ⟨ts, e2⟩ := rooms_refs r
    exact ⟨t :: ts, by rw [e, e2]; rfl⟩
theorem isSt_refs (ts : List Addr) : isSt (.lst (ts.map V.ref)) = false := by
  match ts with
  | [] => rfl
  | [a] => rfl
  | a :: b :: r => rfl
/-- both have things that the other one lacks, and things in common -/
def crossedB (a b : List Str) : Bool := let n := (b.filter fun x => decide (x ∈ a)).length; decide (0 < n) && (!decide (n = a.length) && !decide (n = b.length))
def xr (rs : List Rm) (i j : Nat) : Bool := match rs[i]?, rs[j]? with
  | some a, some b => crossedB a.1 b.1
  | _, _ => false
/-- the first pair that crosses -/
structure CrossAt (rs : List Rm) (i j : Nat) : Prop where
  lt : i < j
  len : j < rs.length
  x : xr rs i j = true
  fst : ∀ x y, x < y → y < rs.length → (x < i ∨ x = i ∧ y < j) → xr rs x y = false
def NoX (rs : List Rm) : Prop := ∀ x y, x < y → y < rs.length → xr rs x y = false
theorem CrossAt.uniq {rs : List Rm} {i j i' j' : Nat} (a : CrossAt rs i j) (b : CrossAt rs i' j') : i = i' ∧ j = j' := by
  by_cases h : i' < i ∨ i' = i ∧ j' < j
  · have := a.fst i' j' b.lt b.len h
    rw [b.x] at this
    cases this
  · by_cases h2 : i < i' ∨ i = i' ∧ j < j'
    · have := b.fst i j a.lt a.len h2
      rw [a.x] at this
      cases this
    · omega
theorem CrossAt.no {rs : List Rm} {i j : Nat} (a : CrossAt rs i j) (n : NoX rs) : False := by
  have := n i j a.lt a.len
  rw [a.x] at this
  cases this
/-- a room as it is passed -/
def pvOf (r : Rm) : PV := .pair (.lst (r.1.map some)) (some r.2)
def goodP (things : List Str) : PV → Bool
  | .pair l n => goodL things l && (match n with
    | some i => decide (0 ≤ i)
    | none => false)
  | .junk => false
def badP (things : List Str) (ps : List PV) : Option Nat := (List.range ps.length).find? fun k => match ps[k]? with
  | some p => !goodP things p
  | none => false
theorem badP_some {things : List Str} {ps : List PV} {k : Nat} {p : PV} (h : ps[k]? = some p) (hb : goodP things p = false) (hok : ∀ j, j < k → ∀ q, ps[j]? = some q → goodP things q = true) : badP things ps = some k := by
  unfold badP
  have hk := (List.getElem?_eq_some_iff.mp h).1
  rw [List.find?_range_eq_some]
  refine ⟨by rw [h]; show (!goodP things p) = true; rw [hb]; rfl, List.mem_range.mpr hk, fun j hj => ?_⟩
  have hj2 : ps[j]? = some ps[j] := List.getElem?_eq_getElem (by omega)
  rw [hj2]
  show (!!goodP things ps[j]) = true
  rw [hok j hj _ hj2]
  rfl
theorem badP_none {things : List Str} {ps : List PV} (h : ∀ p ∈ ps, goodP things p = true) : badP things ps = none := by
  unfold badP
  rw [List.find?_eq_none]
  intro k hk
  have hk := List.mem_range.mp hk
  rw [List.getElem?_eq_getElem hk]
  show ¬ (!goodP things ps[k]) = true
  rw [h _ (List.getElem_mem hk)]
  decide
/-- rooms that are right -/
structure RmOk (things : List Str) (r : Rm) : Prop where
  nd : r.1.Nodup
  sub : ∀ x ∈ r.1, x ∈ things
  pos : 0 ≤ r.2
theorem good_room {things : List Str} {r : Rm} (h : RmOk things r) : goodP things (pvOf r) = true := by
  show ((fwO (fun x => decide (x ∈ things)) (r.1.map some)).isNone && decide (0 ≤ r.2)) = true
  rw [fwO_of h.nd fun x hx => decide_eq_true (h.sub x hx), decide_eq_true h.pos]
  rfl
theorem room_good {things : List Str} {p : PV} (h : goodP things p = true) : ∃ r, p = pvOf r ∧ RmOk things r := by
  match p, h with
  | .pair (.lst os) (some i), h =>
    have h : ((fwO (fun x => decide (x ∈ things)) os).isNone && decide (0 ≤ i)) = true := h
    rw [Bool.and_eq_true, Option.isNone_iff_eq_none, decide_eq_true_eq] at h
    obtain ⟨xs, e, nd, hs⟩ := fwO_texts h.1
    exact ⟨(xs, i), by rw [e]; rfl, nd, fun x hx => of_decide_eq_true (hs x hx), h.2⟩
  | .pair (.lst os) none, h =>
    have h : ((fwO (fun x => decide (x ∈ things)) os).isNone && false) = true := h
    rw [Bool.and_false] at h
    cases h
  | .pair .junk n, h => cases h
  | .junk, h => cases h
theorem rooms_good {things : List Str} : ∀ {ps : List PV}, (∀ p ∈ ps, goodP things p = true) → ∃ rs : List Rm, ps = rs.map pvOf ∧ ∀ r ∈ rs, RmOk things r
  | [], _ => ⟨[], rfl, fun _ h => by cases h⟩
  | p :: r, h => by
    obtain ⟨x, e, hx⟩ := room_good (h p List.mem_cons_self)
    obtain ⟨xs, e2, h2⟩ := rooms_good fun q hq => h q (List.mem_cons_of_mem _ hq)
    refine ⟨x :: xs, by rw [e, e2]; rfl, fun y hy => ?_⟩
    rcases List.mem_cons.mp hy with rfl | hy
    · exact hx
    · exact h2 y hy
theorem map_some_inj : ∀ {a b : List Str}, a.map some = b.map some → a = b
  | [], [], _ => rfl
  | [], _ :: _, h => by cases h
  | _ :: _, [], h => by cases h
  | x :: a, y :: b, h => by
    have h3 : some x = some y ∧ a.map some = b.map some := List.cons.inj h
    rw [Option.some.inj h3.1, map_some_inj h3.2]
theorem pvOf_inj {r s : Rm} (h : pvOf r = pvOf s) : r = s := by
  obtain ⟨a, i⟩ := r
  obtain ⟨b, j⟩ := s
  have h1 : LV.lst (a.map some) = LV.lst (b.map some) ∧ some i = some j := PV.pair.inj h
  rw [map_some_inj (LV.lst.inj h1.1), Option.some.inj h1.2]
theorem pv_inv {K : PySem.W.Frag} {H : Hp} {v : V} {r : Rm} (h : PVr K H v (pvOf r)) : ∃ t q, v = .ref t ∧ H t = some (.tup [.ref q, .int r.2]) ∧ H q = some (.lst (r.1.map V.str)) ∧ r.1.length ≤ 63 := by
  unfold pvOf at h
  cases h with
  | pair h hx hy =>
    cases hy with
    | int i =>
      cases hx with
      | lst hp he hl hz n =>
        have e := paired_strs he
        subst e
        exact ⟨_, _, rfl, h, hp, by rw [List.length_map] at hl; exact hl⟩
theorem pv_room {K : PySem.W.Frag} {N : Addr → Prop} {H : Hp} {v : V} {r : Rm} (h : RoomK N H v r) (hl : r.1.length ≤ 63) (hx : ∀ x ∈ r.1, x.length ≤ 1000) : PVr K H v (pvOf r) := by
  obtain ⟨t, q, rfl, _, h1, _, h2⟩ := h
  refine .pair h1 (.lst h2 (iss_strs _) (by rw [List.length_map]; exact hl) (fun x h => ?_) (isSt_strs _)) (.int _)
  obtain ⟨y, hy, e⟩ := List.mem_map.mp h
  cases e
  exact hx _ hy
def srtR (r : Rm) : Rm := (sortS r.1, r.2)
/-! ### promises -/
def spShared : Sp := fun vs H Q _ => ∃ (a b : Addr) (xs ys : List Str), vs = [.ref a, .ref b] ∧ H a = some (.lst (xs.map V.str)) ∧ H b = some (.lst (ys.map V.str)) ∧ ys.length ≤ 1000 ∧ ∀ H', Same H H' → Q (.int ((ys.filter fun y => decide (y ∈ xs)).length : Nat)) H'
def spCrossed : Sp := fun vs H Q _ => ∃ (a b : Addr) (xs ys : List Str), vs = [.ref a, .ref b] ∧ H a = some (.lst (xs.map V.str)) ∧ H b = some (.lst (ys.map V.str)) ∧ ys.length ≤ 1000 ∧ ∀ H', Same H H' → Q (.bl (crossedB xs ys)) H'
def spIsRoom (K : PySem.W.Frag) (T : List (Addr × Str)) : Sp := fun vs H Q _ => ∃ (v : V) (pv : PV) (a : Addr) (things : List Str), vs = [v, .ref a] ∧ PVr K H v pv ∧ H a = some (.lst (things.map V.str)) ∧ Tabs T H ∧ ∀ H', SmT T H H' → Q (.bl (goodP things pv)) H'
def spCkR (K : PySem.W.Frag) (T : List (Addr × Str)) (CR CX : Addr) : Sp := fun vs H Q E => ∃ (r a : Addr) (xs : List V) (ps : List PV) (things : List Str), vs = [.ref r, .ref a] ∧ H r = some (.lst xs) ∧ Paired (PVr K H) xs ps ∧ ps.length ≤ 63 ∧ H a = some (.lst (things.map V.str)) ∧ Tabs T H ∧
  (60 < ps.length → ∀ d H', SmT T H H' → H' d = some (.xd [("index", .int (-1))]) → E (.ref CR) (some d) H') ∧
  (ps.length ≤ 60 → ∀ k : Nat, badP things ps = some k → ∀ d H', SmT T H H' → H' d = some (.xd [("index", .int k)]) → E (.ref CR) (some d) H') ∧
  (ps.length ≤ 60 → ∀ (rs : List Rm) (i j : Nat), ps = rs.map pvOf → (∀ q ∈ rs, RmOk things q) → CrossAt rs i j → ∀ d H', SmT T H H' → H' d = some (.xd [("other", .int j), ("one", .int i)]) → E (.ref CX) (some d) H') ∧
  (ps.length ≤ 60 → ∀ rs : List Rm, ps = rs.map pvOf → (∀ q ∈ rs, RmOk things q) → NoX rs → ∀ p H', SmT T H H' → RoomsD (Fre H) H' p (rs.map srtR) → Q (.ref p) H')
/-! ### errors with two fields -/
section
variable {P : Program} {w : World} {K : PySem.W.Frag} {mg : Str → Option Value} {base : Heap}
def spErr2 (C : Addr) (f1 f2 : Str) : Sp := fun vs H Q _ => ∃ (a : Addr) (v z : V), vs = [.ref a, v, z] ∧ H a = some (exo a C none) ∧ ∀ dx, H dx = none → dx ≠ a → Q .non (upd (upd (upd H dx (exd dx [(f1, v)])) a (exo a C (some dx))) dx (exd dx [(f2, z), (f1, v)]))
theorem ok_err2 {C f : Addr} {fd : FuncData} {st : Stmt} {qual f1 f2 p1 p2 : Str} {q1 q2 q3 q4 u1 u2 u3 u4 : Pos} (F : C8.Fun K "__init__" qual st f fd) (S : FnScope ["self", p1, p2] ["self", p1, p2] (C8.fnScope st))
    (hb : C8.fnBody st = [.Assign [.Attribute (.Name "self" q1) f1 q2] (.Name p1 q3) q4, .Assign [.Attribute (.Name "self" u1) f2 u2] (.Name p2 u3) u4]) (ox : OexC K C) (n1 : PySem.W.findIn K (.ref C) f1 = some none) (n2 : PySem.W.findIn K (.ref C) f2 = some none)
    (v1 : (C8.fnScope st).names.lookup p1 = some .local) (v2 : (C8.fnScope st).names.lookup p2 = some .local) (v0 : (C8.fnScope st).names.lookup ("self" : Str) = some .local)
    (d1 : (p1 == ("__debug__" : Str)) = false) (c1 : (p1 == ("__classdict__" : Str)) = false) (d2 : (p2 == ("__debug__" : Str)) = false) (c2 : (p2 == ("__classdict__" : Str)) = false)
    (w1 : ∀ env, swapsWith (.Name p1 q3) (some (.Attribute (.Name "self" q1) f1 q2)) q4.line env = pure false) (w2 : ∀ env, swapsWith (.Name p2 u3) (some (.Attribute (.Name "self" u1) f2 u2)) u4.line env = pure false) : FnOk P w K mg base C8.CX0 1 f fd ["self", p1, p2] (spErr2 C f1 f2) := by
  refine C8.fn0 F S (fun vs H Q E h => ?_) (fun cdv A outer s H vs Q E hr h => ?_)
  · obtain ⟨a, v, z, rfl, _⟩ := h
    rfl
  · obtain ⟨a, v, z, rfl, ha, k⟩ := h
    rw [hb]
    refine ⟨_, pss_cons (ps_ost (pe_var (i := 0) rfl (.inl v0)) (pe_var (i := 1) rfl (.inl v1) d1 c1) (w1 _)) (pss_one (ps_ost (pe_var (i := 0) rfl (.inl v0)) (pe_var (i := 2) rfl (.inl v2) d2 c2) (w2 _))), ?_⟩
    refine ⟨v, rfl, _, rfl, a, C, rfl, ox, n1, .inl ⟨ha, fun dx hdx ne => ?_⟩⟩
    exact ⟨z, rfl, _, rfl, a, C, rfl, ox, n2, .inr ⟨dx, [(f1, v)], upd_same, Eq.trans (upd_ne ne) upd_same, by show 1 ≤ 900; decide, k dx hdx ne⟩⟩
end
section
variable {X : Cx}
/-- X(e, e2), both kept in fields -/
def tErr2 (C : Addr) (f1 f2 : Str) (ta : TA) : L2.St → Hp → XK → Prop := fun σ H Q => ta σ H fun vs H1 => ∃ v z, vs = [v, z] ∧ ∀ d H', H1 d = none → Same H1 H' → H' d = some (.xd [(f2, z), (f1, v)]) → Q (.ref C) (some d) H'
theorem pmk_err2 {x f1 f2 p1 p2 : Str} {C fI : Addr} {fd : FuncData} {e e2 : Expr} {ta : TA} {p pos : Pos} (T : OexC X.K C) (iC : PySem.W.findIn X.K (.ref C) "__init__" = some (some (.ref fI))) (tI : PySem.W.isFn X.K (.ref fI) = true)
    (F1 : FnOk X.prog X.w X.K X.mg X.base C8.CX0 1 fI fd ["self", p1, p2] (spErr2 C f1 f2)) (hr : Room 2 X.A) (hb : Binds X.K fd ["self", p1, p2] []) (hg : Gl X x) (hm : X.mg x = some (.ref C)) (ha : PA X [e, e2] ta)
    (hdb : (x == ("__debug__" : Str)) = false := by decide) (he : starEach (e :: [e2]) X.env = (false, eval e X.env) :: starEach [e2] X.env := by rfl) (hpl : (backTo pos (starEach [e2] X.env)).any (·.1) = false := by rfl) :
    PMk X (.Call (.Name x p) [e, e2] [] pos) (tErr2 C f1 f2 ta) := by
  intro pins s σ H Q I h
  let R0 : List V → Hp → Prop := fun vs H1 => ∃ v z, vs = [v, z] ∧ ∀ d H', H1 d = none → Same H1 H' → H' d = some (.xd [(f2, z), (f1, v)]) → Q (.ref C) (some d) H'
  refine pmk_oex T iC (beq_iff_eq.mp tI) F1 hr hb .nil C8.pass0 hg hm (ta := fun σ H R => ta σ H R0 ∧ ∀ vs H1, R0 vs H1 → R vs H1) ?_ hdb he hpl pins s σ H Q I ⟨h, ?_⟩
  · exact ⟨fun pos pins s σ H R I h => thn (ha.run pos pins s σ H _ I h.1) fun us s1 ⟨vs, H1, I1, r1, q⟩ => ⟨vs, H1, I1, r1, h.2 _ _ q⟩⟩
  · rintro vs H1 ⟨v, z, rfl, k⟩
    refine ⟨by show 2 ≤ 1000; decide, fun a na => ⟨a, v, z, rfl, upd_same, fun dx hdx ne => ⟨rfl, dx, [(f2, z), (f1, v)], Eq.trans (upd_ne ne.symm) upd_same, upd_same, ?_, ?_⟩⟩⟩
    · rw [upd_ne ne] at hdx
      exact hdx
    · have hd1 : H1 dx = none := by
        rw [upd_ne ne] at hdx
        exact hdx
      refine k dx _ hd1 (fun b o q => ?_) upd_same
      have nb := ne_of_none q hd1
      have na2 := ne_of_none q na
      rw [upd_ne nb, del_ne na2, upd_ne nb, upd_ne na2, upd_ne nb, upd_ne na2]
      exact q
end
end BF
set_option Elab.async false
set_option linter.all false
set_option maxRecDepth 100000
set_option maxHeartbeats 4000000
/-! rooms as data; the object that holds things in rooms -/
namespace BF
open PySem PySem.Spec PyProof.Rows L2
open LamX (Tabs TabS TabB ExtN CodeO)
def roomD (r : Rm) : PyData := .tuple [.list (r.1.map PyData.str), .int r.2]
theorem eqv_rooms (rs us : List Rm) : PyData.eqv (.list (rs.map roomD)) (.list (us.map roomD)) = decide (rs = us) := PySem.W.Datum.eqv (α := List (List Str × Int)) rs us
theorem dp_room {K : PySem.W.Frag} {N : Addr → Prop} {H : Hp} : ∀ {vs : List V} {rs : List Rm}, Paired (RoomK N H) vs rs → DpAll K H vs (rs.map roomD)
  | _, _, .nil => .nil
  | _, _, .cons ⟨t, q, e, _, h1, _, h2⟩ r => by
    subst e
    exact .cons (.tup (SqT.of h1) (.cons (dp_strs h2) (.cons (.int _) .nil))) (dp_room r)
theorem dp_rooms {K : PySem.W.Frag} {N : Addr → Prop} {H : Hp} {p : Addr} {rs : List Rm} (h : RoomsD N H p rs) : Dp K H (.ref p) (.list (rs.map roomD)) := by
  obtain ⟨_, vs, e, q⟩ := h
  exact .lst (SqL.of e) (dp_room q)
def OkR (r : Rm) : Prop := ∀ x ∈ r.1, PyData.strOk x = true
theorem lay_rooms : ∀ rs : List Rm, (∀ r ∈ rs, OkR r) → PyData.canLayAll0 (rs.map roomD) = true ∧ PyData.depthAll (rs.map roomD) ≤ 2
  | [], _ => by simp [PyData.canLayAll0, PyData.depthAll]
  | r :: rs, h => by
    obtain ⟨h1, h2⟩ := lay_rooms rs fun q hq => h q (List.mem_cons_of_mem _ hq)
    obtain ⟨h3, h4⟩ := lay_strs r.1 (h r List.mem_cons_self)
    refine ⟨by simp [PyData.canLayAll0, PyData.canLay0, roomD, h1, h3], ?_⟩
    show max (PyData.depth (roomD r)) _ ≤ 2
    have : PyData.depth (roomD r) ≤ 2 := by simp [roomD, PyData.depth, PyData.depthAll, h4]
    omega
theorem shaped_rooms {rs : List Rm} (h : ∀ r ∈ rs, OkR r) : SeqAt.shaped (.list (rs.map roomD)) = true := by
  obtain ⟨h1, h2⟩ := lay_rooms rs h
  have h3 : PyData.depth (.list (rs.map roomD)) ≤ 3 := by
    simp only [PyData.depth]
    omega
  unfold SeqAt.shaped
  have h4 : PyData.canLay0 (.list (rs.map roomD)) = true := by simp only [PyData.canLay0, h1]
  simp only [h4, Bool.true_and, decide_eq_true_eq]
  omega
/-! ### the object -/
theorem ct_ne : ¬ (("_things" : Str) = "_rooms") := by decide +kernel
def cf (t r : Addr) : List (Str × V) := putF "_rooms" (.ref r) (putF "_things" (.ref t) [])
theorem cf_things (t r : Addr) : (cf t r).lookup ("_things" : Str) = some (.ref t) := by
  unfold cf
  rw [lookup_putF, if_neg ct_ne, lookup_putF, if_pos rfl]
theorem cf_rooms (t r : Addr) : (cf t r).lookup ("_rooms" : Str) = some (.ref r) := by
  unfold cf
  rw [lookup_putF, if_pos rfl]
theorem cf_no (t r : Addr) {m : Str} (h1 : ¬ m = "_rooms") (h2 : ¬ m = "_things") : (cf t r).lookup m = none := by
  unfold cf
  rw [lookup_putF, if_neg h1, lookup_putF, if_neg h2]
  rfl
structure CountsO (C : Addr) (N : Addr → Prop) (H : Hp) (x : Addr) (ts : List Str) (rs : List Rm) : Prop where
  at_ : N x
  ex : ∃ dx t r, H x = some (.ins C dx (cf t r)) ∧ N t ∧ H t = some (.lst (ts.map V.str)) ∧ RoomsD N H r rs
theorem CountsO.mv {C : Addr} {N : Addr → Prop} {H H' : Hp} {x : Addr} {ts : List Str} {rs : List Rm} (h : CountsO C N H x ts rs) (k : ∀ a o, N a → noT o = true → H a = some o → H' a = some o) : CountsO C N H' x ts rs := by
  obtain ⟨nx, dx, t, r, e, nt, e2, e3⟩ := h
  exact ⟨nx, dx, t, r, k _ _ nx rfl e, nt, k _ _ nt rfl e2, e3.mv k⟩
theorem CountsO.wk {C : Addr} {N M : Addr → Prop} {H : Hp} {x : Addr} {ts : List Str} {rs : List Rm} (h : CountsO C N H x ts rs) (k : ∀ a, N a → M a) : CountsO C M H x ts rs := by
  obtain ⟨nx, dx, t, r, e, nt, e2, e3⟩ := h
  exact ⟨k _ nx, dx, t, r, e, k _ nt, e2, e3.wk k⟩
theorem CountsO.sm {T : List (Addr × Str)} {C : Addr} {N : Addr → Prop} {H H' : Hp} {x : Addr} {ts : List Str} {rs : List Rm} (h : CountsO C N H x ts rs) (s : SmT T H H') : CountsO C N H' x ts rs := h.mv fun a o _ n e => s.keep a o n e
/-- all but x and the tables stand -/
structure FrT (T : List (Addr × Str)) (x : Addr) (H H' : Hp) : Prop where
  keep : ∀ b o, b ≠ x → noT o = true → H b = some o → H' b = some o
  tabs : Tabs T H → Tabs T H'
theorem FrT.of {T : List (Addr × Str)} {x : Addr} {H H' : Hp} (s : SmT T H H') : FrT T x H H' := ⟨fun b o _ n e => s.keep b o n e, s.tabs⟩
/-- __init__: the things are sorted, the rooms are judged with them -/
def spCI (K : PySem.W.Frag) (T : List (Addr × Str)) (C CT CR CX : Addr) : Sp := fun vs H Q E => ∃ (x dx a r : Addr) (xs ys : List V) (os : List (Option Str)) (ps : List PV), vs = [.ref x, .ref a, .ref r] ∧ H x = some (.ins C dx []) ∧ H a = some (.lst xs) ∧ Paired (IsS K H) xs os ∧ os.length ≤ 1000 ∧ (∀ z, some z ∈ os → z.length ≤ 1000) ∧
  H r = some (.lst ys) ∧ Paired (PVr K H) ys ps ∧ ps.length ≤ 63 ∧ Tabs T H ∧
  (∀ k, thF os = some k → ∀ d H', FrT T x H H' → H' d = some (.xd [("index", .int k)]) → E (.ref CT) (some d) H') ∧
  ∀ zs : List Str, thF os = none → os = zs.map some →
    (60 < ps.length → ∀ d H', FrT T x H H' → H' d = some (.xd [("index", .int (-1))]) → E (.ref CR) (some d) H') ∧
    (ps.length ≤ 60 → ∀ k : Nat, badP (sortS zs) ps = some k → ∀ d H', FrT T x H H' → H' d = some (.xd [("index", .int k)]) → E (.ref CR) (some d) H') ∧
    (ps.length ≤ 60 → ∀ (rs : List Rm) (i j : Nat), ps = rs.map pvOf → (∀ q ∈ rs, RmOk (sortS zs) q) → CrossAt rs i j → ∀ d H', FrT T x H H' → H' d = some (.xd [("other", .int j), ("one", .int i)]) → E (.ref CX) (some d) H') ∧
    (ps.length ≤ 60 → ∀ rs : List Rm, ps = rs.map pvOf → (∀ q ∈ rs, RmOk (sortS zs) q) → NoX rs → ∀ H', FrT T x H H' → CountsO C (fun b => b = x ∨ Fre H b) H' x (sortS zs) (rs.map srtR) → Q .non H')
def spCTh (C : Addr) : Sp := fun vs H Q _ => ∃ (x : Addr) (ts : List Str) (rs : List Rm) (N : Addr → Prop), vs = [.ref x] ∧ CountsO C N H x ts rs ∧ ∀ p H', H p = none → Same H H' → H' p = some (.lst (ts.map V.str)) → Q (.ref p) H'
def spCRs (C : Addr) : Sp := fun vs H Q _ => ∃ (x : Addr) (ts : List Str) (rs : List Rm) (N : Addr → Prop), vs = [.ref x] ∧ CountsO C N H x ts rs ∧ rs.length ≤ 63 ∧ ∀ p H', Same H H' → RoomsD (fun a => H a = none) H' p rs → Q (.ref p) H'
def spCEq (K : PySem.W.Frag) (C : Addr) : Sp := fun vs H Q _ => ∃ (x : Addr) (y : V) (ts : List Str) (rs : List Rm) (N : Addr → Prop), vs = [.ref x, y] ∧ CountsO C N H x ts rs ∧ (∀ z ∈ ts, PyData.strOk z = true) ∧ (∀ r ∈ rs, OkR r) ∧
  ((∃ (z : Addr) (us : List Str) (qs : List Rm) (M : Addr → Prop), y = .ref z ∧ CountsO C M H z us qs ∧ (∀ z ∈ us, PyData.strOk z = true) ∧ (∀ r ∈ qs, OkR r) ∧ Q (.bl (decide (ts = us) && decide (rs = qs))) H) ∨
   (∃ t, TyX K H y t ∧ PySem.W.kitOne K t (.ref C) = some false ∧ Q (.bl false) H))
/-! ### an object's fields change, all else stands -/
section
variable {K : PySem.W.Frag} {H H' : Hp} {x C dx : Addr} {fs gs : List (Str × V)} {v : V}
theorem _root_.L2.TyX.fwI {t : Value} (h : TyX K H v t) (hx : H x = some (.ins C dx fs)) (hx' : H' x = some (.ins C dx gs)) (k : ∀ b o, b ≠ x → H b = some o → H' b = some o) : TyX K H' v t := by
  have kk : ∀ b o, (∀ c d f, o ≠ .ins c d f) → H b = some o → H' b = some o := fun b o no e => k b o (fun q => by rw [q, hx] at e; exact no _ _ _ (Option.some.inj e).symm) e
  cases h with
  | base b =>
    cases b with
    | non => exact .base .non
    | bl x => exact .base (.bl x)
    | int i => exact .base (.int i)
    | str x => exact .base (.str x)
    | flt x => exact .base (.flt x)
    | lst e => exact .base (.lst (kk _ _ (by intros; simp) e))
    | frz e => exact .base (.frz (kk _ _ (by intros; simp) e))
    | tup e => exact .base (.tup (kk _ _ (by intros; simp) e))
    | dK e => exact .base (.dK (kk _ _ (by intros; simp) e))
    | dT e => exact .base (.dT (kk _ _ (by intros; simp) e))
    | @ins a C2 d2 f2 e cl ha hn htk hm =>
      by_cases q : a = x
      · subst q
        rw [hx] at e
        cases e
        exact .base (.ins hx' cl ha hn htk hm)
      · exact .base (.ins (k _ _ q e) cl ha hn htk hm)
  | byt b => exact .byt b
  | set e => exact .set (kk _ _ (by intros; simp) e)
  | kList e c => exact .kList e c
  | kTuple e c => exact .kTuple e c
  | kDict e c => exact .kDict e c
  | fTuple e => exact .fTuple (kk _ _ (by intros; simp) e)
  | fDict e => exact .fDict (kk _ _ (by intros; simp) e)
theorem IsS.fwI {o : Option Str} (h : IsS K H v o) (hx : H x = some (.ins C dx fs)) (hx' : H' x = some (.ins C dx gs)) (k : ∀ b o, b ≠ x → H b = some o → H' b = some o) : IsS K H' v o := by
  cases h with
  | str z => exact .str z
  | no h e => exact .no (h.fwI hx hx' k) e
theorem EV.fwI {o : Option Int} (h : EV K H v o) (hx : H x = some (.ins C dx fs)) (hx' : H' x = some (.ins C dx gs)) (k : ∀ b o, b ≠ x → H b = some o → H' b = some o) : EV K H' v o := by
  cases h with
  | int i => exact .int i
  | bl b => exact .bl b
  | no h e => exact .no (h.fwI hx hx' k) e
theorem LVr.fwI {o : LV} (h : LVr K H v o) (hx : H x = some (.ins C dx fs)) (hx' : H' x = some (.ins C dx gs)) (k : ∀ b o, b ≠ x → H b = some o → H' b = some o) : LVr K H' v o := by
  cases h with
  | no h e => exact .no (h.fwI hx hx' k) e
  | lst h e l z n => exact .lst (k _ _ (fun q => by rw [q, hx] at h; cases h) h) (Paired.imp (fun _ _ q => q.fwI hx hx' k) e) l z n
theorem PVr.fwI {o : PV} (h : PVr K H v o) (hx : H x = some (.ins C dx fs)) (hx' : H' x = some (.ins C dx gs)) (k : ∀ b o, b ≠ x → H b = some o → H' b = some o) : PVr K H' v o := by
  cases h with
  | no h e => exact .no (h.fwI hx hx' k) e
  | long h n => exact .long (k _ _ (fun q => by rw [q, hx] at h; cases h) h) n
  | pair h hx2 hy => exact .pair (k _ _ (fun q => by rw [q, hx] at h; cases h) h) (hx2.fwI hx hx' k) (hy.fwI hx hx' k)
end
/-- what the law tells of making the object -/
def spTold47 (K : PySem.W.Frag) (T : List (Addr × Str)) (C : Addr) : Sp := fun vs H Q _ => ∃ (a r : Addr) (xs ys : List V) (os : List (Option Str)) (ps : List PV), vs = [.ref a, .ref r] ∧ H a = some (.lst xs) ∧ Paired (IsS K H) xs os ∧ os.length ≤ 1000 ∧ (∀ z, some z ∈ os → z.length ≤ 1000) ∧
  H r = some (.lst ys) ∧ Paired (PVr K H) ys ps ∧ ps.length ≤ 63 ∧ Tabs T H ∧
  (∀ k, thF os = some k → ∀ p H', SmT T H H' → H' p = some (.tup [.str "things", .int k]) → Q (.ref p) H') ∧
  ∀ zs : List Str, thF os = none → os = zs.map some →
    (60 < ps.length → ∀ p H', SmT T H H' → H' p = some (.tup [.str "rooms", .int (-1)]) → Q (.ref p) H') ∧
    (ps.length ≤ 60 → ∀ k : Nat, badP (sortS zs) ps = some k → ∀ p H', SmT T H H' → H' p = some (.tup [.str "rooms", .int k]) → Q (.ref p) H') ∧
    (ps.length ≤ 60 → ∀ (rs : List Rm) (i j : Nat), ps = rs.map pvOf → (∀ q ∈ rs, RmOk (sortS zs) q) → CrossAt rs i j → ∀ p H', SmT T H H' → H' p = some (.tup [.str "crossed", .int i, .int j]) → Q (.ref p) H') ∧
    (ps.length ≤ 60 → ∀ rs : List Rm, ps = rs.map pvOf → (∀ q ∈ rs, RmOk (sortS zs) q) → NoX rs → ∀ p x H', SmT T H H' → H' p = some (.tup [.str "made", .ref x]) → CountsO C (Fre H) H' x (sortS zs) (rs.map srtR) → Q (.ref p) H')
/-! ### rooms apart or within one another -/
def NX (a b : Rm) : Prop := (∀ x ∈ a.1, x ∉ b.1) ∨ (∀ x ∈ a.1, x ∈ b.1) ∨ ∀ x ∈ b.1, x ∈ a.1
theorem NX.symm {a b : Rm} (h : NX a b) : NX b a := by
  rcases h with h | h | h
  · exact .inl fun x hx hy => h x hy hx
  · exact .inr (.inr h)
  · exact .inr (.inl h)
structure Lam (xs : List Str) (rs : List Rm) : Prop where
  ok : ∀ r ∈ rs, RmOk xs r
  pw : rs.Pairwise NX
theorem Lam.nil (xs : List Str) : Lam xs [] := ⟨fun _ h => (by cases h), .nil⟩
theorem RmOk.sub' {xs ys : List Str} {r : Rm} (h : RmOk xs r) (s : ∀ x ∈ xs, x ∈ ys) : RmOk ys r := ⟨h.nd, fun x hx => s x (h.sub x hx), h.pos⟩
/-- rooms of apart things side by side -/
theorem Lam.app {xs ys : List Str} {rs us : List Rm} (h : Lam xs rs) (k : Lam ys us) (d : ∀ x ∈ xs, x ∉ ys) : Lam (xs ++ ys) (rs ++ us) := by
  refine ⟨fun r hr => ?_, List.pairwise_append.mpr ⟨h.pw, k.pw, fun a ha b hb => .inl fun x hx hy => d x ((h.ok a ha).sub x hx) ((k.ok b hb).sub x hy)⟩⟩
  rcases List.mem_append.mp hr with q | q
  · exact (h.ok r q).sub' fun x hx => List.mem_append_left _ hx
  · exact (k.ok r q).sub' fun x hx => List.mem_append_right _ hx
/-- a room around rooms -/
theorem Lam.around {xs : List Str} {us : List Rm} {n : Int} (k : Lam xs us) (nd : xs.Nodup) (hn : 0 ≤ n) : Lam xs ((xs, n) :: us) :=
  ⟨fun r hr => by
    rcases List.mem_cons.mp hr with rfl | hr
    · exact ⟨nd, fun x hx => hx, hn⟩
    · exact k.ok r hr, List.pairwise_cons.mpr ⟨fun b hb => .inr (.inr fun x hx => (k.ok b hb).sub x hx), k.pw⟩⟩
theorem Lam.perm {xs ys : List Str} {rs : List Rm} (h : Lam xs rs) (p : xs.Perm ys) : Lam ys rs := ⟨fun r hr => (h.ok r hr).sub' fun x hx => p.subset hx, h.pw⟩
def spRoomsR (d : Nat) : Sp := fun vs H Q _ => ∃ (w c a : Addr) (xs : List Str), vs = [.ref w, .ref a, .int d] ∧ StAt H w c ∧ H a = some (.lst (xs.map V.str)) ∧ xs.Nodup ∧ xs.length ≤ 9 ∧ (∀ x ∈ xs, PyData.strOk x = true) ∧ d ≤ 2 ∧
  ∀ p rs H', KpS w c H H' → RoomsD (fun b => H b = none) H' p rs → Lam xs rs → rs.length ≤ (d + 1) * xs.length → Q (.ref p) H'
def spRec : Nat → Sp
  | 0 => fun _ _ _ _ => False
  | d + 1 => spRoomsR d
theorem cut_lo {xs : List V} (n : Nat) : cutV xs none (some (n : Int)) = xs.take n := by
  unfold cutV
  rw [HT.sIx_none, HT.sIx_nat, Nat.sub_zero, List.drop_zero]
  by_cases h : n ≤ xs.length
  · rw [Nat.min_eq_left h]
  · rw [Nat.min_eq_right (by omega), List.take_of_length_le (Nat.le_refl _), List.take_of_length_le (by omega)]
theorem cut_hi {xs : List V} (n : Nat) : cutV xs (some (n : Int)) none = xs.drop n := by
  unfold cutV
  rw [HT.sIx_none, HT.sIx_nat]
  by_cases h : n ≤ xs.length
  · rw [Nat.min_eq_left h, List.take_of_length_le (by rw [List.length_drop]; omega)]
  · rw [Nat.min_eq_right (by omega), List.drop_eq_nil_of_le (Nat.le_refl _), List.drop_eq_nil_of_le (by omega), List.take_nil]
theorem rooms_live {H H' : Hp} {p : Addr} {vs : List V} {rs : List Rm} {N : Addr → Prop} (h : Paired (RoomK N H) vs rs) (np : H p = none) (k : ∀ a o, N a → noT o = true → H a = some o → H' a = some o) : Paired (RoomK (fun a => N a ∧ a ≠ p) H') vs rs :=
  Paired.imp (fun _ _ ⟨t, q, e1, nt, e2, nq, e3⟩ => ⟨t, q, e1, ⟨nt, fun e => by rw [e, np] at e2; cases e2⟩, k _ _ nt rfl e2, ⟨nq, fun e => by rw [e, np] at e3; cases e3⟩, k _ _ nq rfl e3⟩) h
/-! ### the law's own look at crossing rooms -/
theorem common_len {a b : List Str} (na : a.Nodup) (nb : b.Nodup) : (a.filter fun x => decide (x ∈ b)).length = (b.filter fun x => decide (x ∈ a)).length :=
  ((List.perm_ext_iff_of_nodup (na.filter _) (nb.filter _)).mpr fun x => by simp only [List.mem_filter, decide_eq_true_eq]; exact And.comm).length_eq
theorem crossed_law {a b : List Str} (na : a.Nodup) (nb : b.Nodup) : (decide (0 < (a.filter fun x => decide (x ∈ b)).length) && (decide ((a.filter fun x => decide (x ∈ b)).length < a.length) && decide ((a.filter fun x => decide (x ∈ b)).length < b.length))) = crossedB a b := by
  have h1 := List.length_filter_le (fun x => decide (x ∈ b)) a
  have h2 := List.length_filter_le (fun x => decide (x ∈ a)) b
  unfold crossedB
  show _ = (decide (0 < (b.filter fun x => decide (x ∈ a)).length) && (!decide ((b.filter fun x => decide (x ∈ a)).length = a.length) && !decide ((b.filter fun x => decide (x ∈ a)).length = b.length)))
  rw [common_len na nb] at h1 ⊢
  generalize (b.filter fun x => decide (x ∈ a)).length = n at *
  congr 1
  congr 1
  · rw [← decide_not]
    exact decide_eq_decide.mpr ⟨fun h => by omega, fun h => by omega⟩
  · rw [← decide_not]
    exact decide_eq_decide.mpr ⟨fun h => by omega, fun h => by omega⟩
/-- rooms apart or within one another do not cross -/
theorem nx_crossed {a b : Rm} (h : NX a b) (na : a.1.Nodup) (nb : b.1.Nodup) : crossedB a.1 b.1 = false := by
  unfold crossedB
  show (decide (0 < (b.1.filter fun x => decide (x ∈ a.1)).length) && (!decide ((b.1.filter fun x => decide (x ∈ a.1)).length = a.1.length) && !decide ((b.1.filter fun x => decide (x ∈ a.1)).length = b.1.length))) = false
  rcases h with h | h | h
  · have : (b.1.filter fun x => decide (x ∈ a.1)) = [] := List.filter_eq_nil_iff.mpr fun x hx => by simpa using fun q => h x q hx
    rw [this]
    rfl
  · have : (a.1.filter fun x => decide (x ∈ b.1)) = a.1 := List.filter_eq_self.mpr fun x hx => decide_eq_true (h x hx)
    rw [← common_len na nb, this, decide_eq_true (rfl : a.1.length = a.1.length)]
    simp
  · have : (b.1.filter fun x => decide (x ∈ a.1)) = b.1 := List.filter_eq_self.mpr fun x hx => decide_eq_true (h x hx)
    rw [this, decide_eq_true (rfl : b.1.length = b.1.length)]
    simp
theorem lam_nox {rs : List Rm} (pw : rs.Pairwise NX) (nd : ∀ r ∈ rs, r.1.Nodup) : NoX rs := fun x y hxy hy => by
  have hx : x < rs.length := by omega
  unfold xr
  rw [List.getElem?_eq_getElem hx, List.getElem?_eq_getElem hy]
  exact nx_crossed (List.pairwise_iff_getElem.mp pw x y hx hy hxy) (nd _ (List.getElem_mem hx)) (nd _ (List.getElem_mem hy))
def spCrossL : Sp := fun vs H Q _ => ∃ (r : Addr) (rs : List Rm) (N : Addr → Prop), vs = [.ref r] ∧ RoomsD N H r rs ∧ rs.length ≤ 63 ∧ (∀ q ∈ rs, q.1.Nodup ∧ q.1.length ≤ 63) ∧
  (∀ i j, CrossAt rs i j → ∀ p H', Same H H' → H' p = some (.tup [.str "crossed", .int i, .int j]) → Q (.ref p) H') ∧ (NoX rs → ∀ H', Same H H' → Q .non H')
/-! ### a room that is none -/
def BadRm (K : PySem.W.Frag) (things : List Str) (v : V) (H : Hp) : Prop := ∃ pv, PVr K H v pv ∧ goodP things pv = false
theorem BadRm.st {K : PySem.W.Frag} {things : List Str} : ∀ v H H', Same H H' → BadRm K things v H → BadRm K things v H' := fun _ _ _ s ⟨pv, h, g⟩ => ⟨pv, h.sm (T := []) (.of s), g⟩
section
variable {K : PySem.W.Frag} {things : List Str} {H : Hp} {v x y : V} {t : Value} {p : Addr}
theorem br_no (h : TyX K H v t) (k : PySem.W.kitOne K t (.type "tuple") = some false) : BadRm K things v H := ⟨.junk, .no h k, rfl⟩
theorem br_long {xs : List V} (h : H p = some (.tup xs)) (n : xs.length ≠ 2) : BadRm K things (.ref p) H := ⟨.junk, .long h n, rfl⟩
theorem br_two {o : Option Int} {l : LV} (h : H p = some (.tup [x, y])) (hx : LVr K H x l) (hy : EV K H y o) (g : goodL things l = false ∨ (∀ i, o = some i → i < 0)) : BadRm K things (.ref p) H := by
  refine ⟨.pair l o, .pair h hx hy, ?_⟩
  show (goodL things l && _) = false
  rcases g with g | g
  · rw [g, Bool.false_and]
  · cases o with
    | none => exact Bool.and_false _
    | some i =>
      have := g i rfl
      show (goodL things l && decide (0 ≤ i)) = false
      rw [decide_eq_false (by omega), Bool.and_false]
theorem lv_strs {q : Addr} {ys : List Str} (h : H q = some (.lst (ys.map V.str))) (hl : ys.length ≤ 63) (hz : ∀ y ∈ ys, y.length ≤ 1000) : LVr K H (.ref q) (.lst (ys.map some)) := .lst h (iss_strs ys) (by rw [List.length_map]; exact hl) (fun x hx => by
  obtain ⟨y, hy, e⟩ := List.mem_map.mp hx
  cases e
  exact hz _ hy) (isSt_strs ys)
theorem goodL_twice {x : Str} : goodL things (.lst ([x, x].map some)) = false := by
  cases e : goodL things (.lst ([x, x].map some)) with
  | false => rfl
  | true =>
    have e : (fwO (fun z => decide (z ∈ things)) ([x, x].map some)).isNone = true := e
    rw [Option.isNone_iff_eq_none] at e
    obtain ⟨ys, h1, h2, _⟩ := fwO_texts e
    rw [← map_some_inj h1] at h2
    exact absurd List.mem_cons_self (List.nodup_cons.mp h2).1
theorem goodL_stranger {x : Str} (h : x ∉ things) : goodL things (.lst ([x].map some)) = false := by
  cases e : goodL things (.lst ([x].map some)) with
  | false => rfl
  | true =>
    have e : (fwO (fun z => decide (z ∈ things)) ([x].map some)).isNone = true := e
    rw [Option.isNone_iff_eq_none] at e
    obtain ⟨ys, h1, _, h3⟩ := fwO_texts e
    rw [← map_some_inj h1] at h3
    exact absurd (of_decide_eq_true (h3 x List.mem_cons_self)) h
theorem goodL_none : goodL things (.lst [none]) = false := by
  cases e : goodL things (.lst [none]) with
  | false => rfl
  | true =>
    have e : (fwO (fun z => decide (z ∈ things)) [none]).isNone = true := e
    rw [Option.isNone_iff_eq_none] at e
    obtain ⟨ys, h1, _, _⟩ := fwO_texts e
    cases ys with
    | nil => cases h1
    | cons y r => cases h1
end
/-- .. whatever the list at p holds -/
def BadRm1 (K : PySem.W.Frag) (things : List Str) (p : Addr) (v : V) (H : Hp) : Prop := ∀ zs, BadRm K things v (upd H p (.lst zs))
theorem same_upd {H H' : Hp} {p : Addr} {o : HO} (s : Same H H') : Same (upd H p o) (upd H' p o) := fun b u e => by
  by_cases q : b = p
  · subst q
    rw [upd_same] at e ⊢
    exact e
  · rw [upd_ne q] at e ⊢
    exact s b u e
theorem BadRm1.st {K : PySem.W.Frag} {things : List Str} {p : Addr} : ∀ v H H', Same H H' → BadRm1 K things p v H → BadRm1 K things p v H' := fun v _ _ s h zs => BadRm.st v _ _ (same_upd s) (h zs)
theorem KpS.upd2 {H H' : Hp} {w c p : Addr} {o : HO} (k : KpS w c H H') (pw : p ≠ w) (pc : p ≠ c) : KpS w c (upd H p o) (upd H' p o) := by
  refine ⟨fun b u n e => ?_, fun h => ?_⟩
  · by_cases q : b = p
    · subst q
      rw [upd_same] at e ⊢
      exact e
    · rw [upd_ne q] at e ⊢
      exact k.keep b u n e
  · obtain ⟨⟨i, x, y, z, v, q⟩, ns, q2, hl⟩ := h
    rw [upd_ne pw.symm] at q
    rw [upd_ne pc.symm] at q2
    obtain ⟨⟨i, x, y, z, v, q⟩, ns, q2, hl⟩ := k.st ⟨⟨i, x, y, z, v, q⟩, ns, q2, hl⟩
    exact ⟨⟨i, x, y, z, v, by rw [upd_ne pw.symm]; exact q⟩, ns, by rw [upd_ne pc.symm]; exact q2, hl⟩
theorem at_upd {H : Hp} {t p : Addr} {o u : HO} {zs : List V} (nt : H t = none) (hp : H p = some u) : upd (upd H t o) p (.lst zs) t = some o := by
  rw [upd_ne (fun e => by rw [e, hp] at nt; cases nt), upd_same]
theorem at_upd2 {H : Hp} {t p l : Addr} {o u z : HO} {zs : List V} (nt : H t = none) (hp : H p = some u) (hl : H l = some z) (lp : l ≠ p) : upd (upd H t o) p (.lst zs) l = some z := by
  rw [upd_ne lp, upd_ne (fun e => by rw [e, nt] at hl; cases hl)]
  exact hl
theorem duo {H : Hp} {p u t : Addr} {o1 : HO} {us : List V} {v w : V} (hp : H p = some (.lst us)) (nu : H u = none) (nt : upd H u o1 t = none) : Same H (upd (upd H u o1) t (.tup [v, w])) ∧
    ∀ zs, upd (upd (upd H u o1) t (.tup [v, w])) p (.lst zs) t = some (.tup [v, w]) ∧ upd (upd (upd H u o1) t (.tup [v, w])) p (.lst zs) u = some o1 ∧ ∀ b z, b ≠ p → H b = some z → upd (upd (upd H u o1) t (.tup [v, w])) p (.lst zs) b = some z := by
  have tu : t ≠ u := fun e => by rw [e, upd_same] at nt; cases nt
  have nt0 : H t = none := by rw [upd_ne tu] at nt; exact nt
  have up : u ≠ p := fun e => by rw [e, hp] at nu; cases nu
  have tp : t ≠ p := fun e => by rw [e, hp] at nt0; cases nt0
  refine ⟨fun b z e => ?_, fun zs => ⟨by rw [upd_ne tp, upd_same], by rw [upd_ne up, upd_ne tu.symm, upd_same], fun b z n e => ?_⟩⟩
  · rw [upd_ne (ne_of_none e nt0), upd_ne (ne_of_none e nu)]
    exact e
  · rw [upd_ne n, upd_ne (ne_of_none e nt0), upd_ne (ne_of_none e nu)]
    exact e
def spWrongR (K : PySem.W.Frag) : Sp := fun vs H Q _ => ∃ (w c a p : Addr) (x : Str) (r : List Str) (us : List V), vs = [.ref w, .ref a] ∧ StAt H w c ∧ H a = some (.lst ((x :: r).map V.str)) ∧ (∀ y ∈ x :: r, NmK y) ∧ H p = some (.lst us) ∧ p ≠ w ∧ p ≠ c ∧ a ≠ p ∧
  ∀ v H', KpS w c H H' → BadRm1 K (x :: r) p v H' → Q v H'
end BF
set_option Elab.async false
set_option linter.all false
set_option maxRecDepth 100000
set_option maxHeartbeats 4000000
/-! what is told, case by case -/
namespace BF
open PySem PySem.Spec PyProof.Rows L2
open LamX (Tabs TabS TabB ExtN CodeO)
/-- what is handed over: things and rooms of any kind -/
structure Hand (K : PySem.W.Frag) (T : List (Addr × Str)) (H : Hp) (a r : Addr) (os : List (Option Str)) (ps : List PV) : Prop where
  th : ∃ xs, H a = some (.lst xs) ∧ Paired (IsS K H) xs os
  tl : os.length ≤ 1000
  tz : ∀ z, some z ∈ os → z.length ≤ 1000
  rm : ∃ ys, H r = some (.lst ys) ∧ Paired (PVr K H) ys ps
  rl : ps.length ≤ 63
  tb : Tabs T H
section
variable {K : PySem.W.Frag} {T : List (Addr × Str)} {C a r : Addr} {H : Hp} {Q : VK} {E : XK} {os : List (Option Str)} {ps : List PV} {zs : List Str}
theorem told_things {k : Int} (h : Hand K T H a r os ps) (hf : thF os = some k) (q : ∀ p H', SmT T H H' → H' p = some (.tup [.str "things", .int k]) → Q (.ref p) H') : spTold47 K T C [.ref a, .ref r] H Q E := by
  obtain ⟨⟨xs, ha, he⟩, tl, tz, ⟨ys, hr, hp⟩, rl, tb⟩ := h
  refine ⟨a, r, xs, ys, os, ps, rfl, ha, he, tl, tz, hr, hp, rl, tb, fun k' hk => ?_, fun zs h0 => (by rw [hf] at h0; cases h0)⟩
  rw [hf] at hk
  cases hk
  exact q
theorem told_all (h : Hand K T H a r os ps) (h0 : thF os = none) (ez : os = zs.map some)
    (k1 : 60 < ps.length → ∀ p H', SmT T H H' → H' p = some (.tup [.str "rooms", .int (-1)]) → Q (.ref p) H')
    (k2 : ps.length ≤ 60 → ∀ k : Nat, badP (sortS zs) ps = some k → ∀ p H', SmT T H H' → H' p = some (.tup [.str "rooms", .int k]) → Q (.ref p) H')
    (k3 : ps.length ≤ 60 → ∀ (rs : List Rm) (i j : Nat), ps = rs.map pvOf → (∀ q ∈ rs, RmOk (sortS zs) q) → CrossAt rs i j → ∀ p H', SmT T H H' → H' p = some (.tup [.str "crossed", .int i, .int j]) → Q (.ref p) H')
    (k4 : ps.length ≤ 60 → ∀ rs : List Rm, ps = rs.map pvOf → (∀ q ∈ rs, RmOk (sortS zs) q) → NoX rs → ∀ p x H', SmT T H H' → H' p = some (.tup [.str "made", .ref x]) → CountsO C (Fre H) H' x (sortS zs) (rs.map srtR) → Q (.ref p) H') : spTold47 K T C [.ref a, .ref r] H Q E := by
  obtain ⟨⟨xs, ha, he⟩, tl, tz, ⟨ys, hr, hp⟩, rl, tb⟩ := h
  refine ⟨a, r, xs, ys, os, ps, rfl, ha, he, tl, tz, hr, hp, rl, tb, fun k' hk => (by rw [h0] at hk; cases hk), fun zs' _ ez' => ?_⟩
  have e : zs' = zs := map_some_inj (ez'.symm.trans ez)
  subst e
  exact ⟨k1, k2, k3, k4⟩
theorem told_many (h : Hand K T H a r os ps) (h0 : thF os = none) (ez : os = zs.map some) (hm : 60 < ps.length) (q : ∀ p H', SmT T H H' → H' p = some (.tup [.str "rooms", .int (-1)]) → Q (.ref p) H') : spTold47 K T C [.ref a, .ref r] H Q E :=
  told_all h h0 ez (fun _ => q) (fun h => absurd h (by omega)) (fun h => absurd h (by omega)) fun h => absurd h (by omega)
theorem badP_pv {things : List Str} {rs : List Rm} (h : ∀ q ∈ rs, RmOk things q) : badP things (rs.map pvOf) = none := badP_none fun p hp => by
  obtain ⟨q, hq, rfl⟩ := List.mem_map.mp hp
  exact good_room (h q hq)
theorem told_bad {n : Nat} (h : Hand K T H a r os ps) (h0 : thF os = none) (ez : os = zs.map some) (hl : ps.length ≤ 60) (hb : badP (sortS zs) ps = some n) (q : ∀ p H', SmT T H H' → H' p = some (.tup [.str "rooms", .int n]) → Q (.ref p) H') : spTold47 K T C [.ref a, .ref r] H Q E := by
  refine told_all h h0 ez (fun h => absurd h (by omega)) (fun _ k hk => ?_) (fun _ rs i j e1 e2 => ?_) fun _ rs e1 e2 => ?_
  · rw [hb] at hk
    cases hk
    exact q
  · rw [e1, badP_pv e2] at hb
    cases hb
  · rw [e1, badP_pv e2] at hb
    cases hb
theorem pvs_inj : ∀ {rs us : List Rm}, rs.map pvOf = us.map pvOf → us = rs
  | [], [], _ => rfl
  | [], _ :: _, h => by cases h
  | _ :: _, [], h => by cases h
  | x :: a, y :: b, h => by
    have h3 : pvOf x = pvOf y ∧ a.map pvOf = b.map pvOf := List.cons.inj h
    rw [pvOf_inj h3.1, pvs_inj h3.2]
theorem told_cross {rs : List Rm} {i j : Nat} (h : Hand K T H a r os (rs.map pvOf)) (h0 : thF os = none) (ez : os = zs.map some) (hl : rs.length ≤ 60) (ok : ∀ q ∈ rs, RmOk (sortS zs) q) (hx : CrossAt rs i j) (q : ∀ p H', SmT T H H' → H' p = some (.tup [.str "crossed", .int i, .int j]) → Q (.ref p) H') : spTold47 K T C [.ref a, .ref r] H Q E := by
  refine told_all h h0 ez (fun h => absurd h (by rw [List.length_map]; omega)) (fun _ k hk => (by rw [badP_pv ok] at hk; cases hk)) (fun _ us i' j' e1 _ hx' => ?_) fun _ us e1 _ hn => ?_
  · have e : us = rs := pvs_inj e1
    subst e
    obtain ⟨rfl, rfl⟩ := hx.uniq hx'
    exact q
  · have e : us = rs := pvs_inj e1
    subst e
    exact (hx.no hn).elim
theorem told_made {rs : List Rm} (h : Hand K T H a r os (rs.map pvOf)) (h0 : thF os = none) (ez : os = zs.map some) (hl : rs.length ≤ 60) (ok : ∀ q ∈ rs, RmOk (sortS zs) q) (hn : NoX rs) (q : ∀ p x H', SmT T H H' → H' p = some (.tup [.str "made", .ref x]) → CountsO C (Fre H) H' x (sortS zs) (rs.map srtR) → Q (.ref p) H') : spTold47 K T C [.ref a, .ref r] H Q E := by
  refine told_all h h0 ez (fun h => absurd h (by rw [List.length_map]; omega)) (fun _ k hk => (by rw [badP_pv ok] at hk; cases hk)) (fun _ us i' j' e1 _ hx' => ?_) fun _ us e1 _ _ => ?_
  · have e : us = rs := pvs_inj e1
    subst e
    exact (hx'.no hn).elim
  · have e : us = rs := pvs_inj e1
    subst e
    exact q
end
/-- things that are right -/
theorem thF_ok {xs : List Str} (hl : xs.length ≤ 24) (nd : xs.Nodup) (nm : ∀ x ∈ xs, isNm x = true) : thF (xs.map some) = none := by
  unfold thF
  rw [if_neg (by rw [List.length_map]; omega), fwO_of nd nm]
  rfl
theorem pv_rooms {K : PySem.W.Frag} {N : Addr → Prop} {H : Hp} : ∀ {vs : List V} {rs : List Rm}, Paired (RoomK N H) vs rs → (∀ r ∈ rs, r.1.length ≤ 63 ∧ ∀ x ∈ r.1, x.length ≤ 1000) → Paired (PVr K H) vs (rs.map pvOf)
  | _, _, .nil, _ => .nil
  | _, _, .cons p t, h => .cons (pv_room p (h _ List.mem_cons_self).1 (h _ List.mem_cons_self).2) (pv_rooms t fun r hr => h r (List.mem_cons_of_mem _ hr))
/-- tuples of a text and an integer -/
theorem dp_ti {K : PySem.W.Frag} {H : Hp} {p : Addr} {x : Str} {i : Int} (h : H p = some (.tup [.str x, .int i])) : Dp K H (.ref p) (.tuple [.str x, .int i]) := .tup (SqT.of h) (.cons (.str _) (.cons (.int _) .nil))
theorem dp_tii {K : PySem.W.Frag} {H : Hp} {p : Addr} {x : Str} {i j : Int} (h : H p = some (.tup [.str x, .int i, .int j])) : Dp K H (.ref p) (.tuple [.str x, .int i, .int j]) := .tup (SqT.of h) (.cons (.str _) (.cons (.int _) (.cons (.int _) .nil)))
theorem eqv_ti (x : Str) (i : Int) : PyData.eqv (.tuple [.str x, .int i]) (.tuple [.str x, .int i]) = true := by simp [PyData.eqv, PyData.eqvAll]
theorem eqv_tii (x : Str) (i j : Int) : PyData.eqv (.tuple [.str x, .int i, .int j]) (.tuple [.str x, .int i, .int j]) = true := by simp [PyData.eqv, PyData.eqvAll]
theorem shaped_ti {x : Str} {i : Int} (h : PyData.strOk x = true) : SeqAt.shaped (.tuple [.str x, .int i]) = true := by
  simp [SeqAt.shaped, PyData.canLay0, PyData.canLayAll0, PyData.depth, PyData.depthAll, h]
theorem shaped_tii {x : Str} {i j : Int} (h : PyData.strOk x = true) : SeqAt.shaped (.tuple [.str x, .int i, .int j]) = true := by
  simp [SeqAt.shaped, PyData.canLay0, PyData.canLayAll0, PyData.depth, PyData.depthAll, h]
/-- a thing that is wrong behind some first things -/
def WrV (K : PySem.W.Frag) (x : Str) (v : V) (H : Hp) : Prop := ∃ o, IsS K H v o ∧ (fitO isNm o = false ∨ o = some x) ∧ ∀ z, o = some z → z.length ≤ 1000
theorem WrV.st {K : PySem.W.Frag} {x : Str} : ∀ v H H', Same H H' → WrV K x v H → WrV K x v H' := fun _ _ _ s ⟨o, h, g, z⟩ => ⟨o, h.same s, g, z⟩
theorem thF_at {xs ys : List Str} {o : Option Str} {x : Str} (hl : xs.length + ys.length ≤ 20) (nd : xs.Nodup) (nm : ∀ y ∈ xs, isNm y = true) (hx : x ∈ xs) (ho : fitO isNm o = false ∨ o = some x) : thF (xs.map some ++ [o] ++ ys.map some) = some (xs.length : Nat) := by
  have hlen : (xs.map some ++ [o] ++ ys.map some).length = xs.length + 1 + ys.length := by simp; omega
  unfold thF
  rw [if_neg (by omega)]
  have e : fwO isNm (xs.map some ++ [o] ++ ys.map some) = some xs.length := by
    refine fwO_some (by omega) ?_ fun j hj => ?_
    · unfold okO
      rw [show (xs.map some ++ [o] ++ ys.map some)[xs.length]? = some o by rw [List.append_assoc, List.getElem?_append_right (by rw [List.length_map]; exact Nat.le_refl _), List.length_map, Nat.sub_self]; rfl]
      show (fitO isNm o && !decide (o ∈ (xs.map some ++ [o] ++ ys.map some).take xs.length)) = false
      rcases ho with h | h
      · rw [h, Bool.false_and]
      · rw [List.append_assoc, List.take_append_of_le_length (by rw [List.length_map]; exact Nat.le_refl _), List.take_of_length_le (by rw [List.length_map]; exact Nat.le_refl _), decide_eq_true (by rw [h]; exact List.mem_map.mpr ⟨x, hx, rfl⟩)]
        simp
    · have h1 := fwO_ok (fwO_of nd nm) (k := j) (by rw [List.length_map]; exact hj)
      unfold okO at h1 ⊢
      rw [show (xs.map some ++ [o] ++ ys.map some)[j]? = (xs.map some)[j]? by rw [List.append_assoc, List.getElem?_append_left (by rw [List.length_map]; exact hj)], List.append_assoc, List.take_append_of_le_length (by rw [List.length_map]; omega)]
      exact h1
  rw [e]
  rfl
/-- what the law's refusals are told of -/
def spRefused (T : List (Addr × Str)) : Sp := fun vs H Q _ => ∃ (w c a r : Addr) (x : Str) (tl : List Str) (rs : List Rm), vs = [.ref w, .ref a, .ref r] ∧ StAt H w c ∧ Tabs T H ∧ H a = some (.lst ((x :: tl).map V.str)) ∧ (x :: tl).Nodup ∧ sortS (x :: tl) = x :: tl ∧ (∀ y ∈ x :: tl, NmK y) ∧ tl.length ≤ 8 ∧
  RoomsD (fun b => b ≠ w) H r rs ∧ Lam (x :: tl) rs ∧ rs.length ≤ 40 ∧ (∀ q ∈ rs, q.1.length ≤ 63) ∧ ∀ H', KpT T w c H H' → Q (.bl true) H'
theorem paired_take {α β : Type} {F : α → β → Prop} : ∀ {xs : List α} {ys : List β} (n : Nat), Paired F xs ys → Paired F (xs.take n) (ys.take n)
  | _, _, 0, _ => by rw [List.take_zero, List.take_zero]; exact .nil
  | _, _, n + 1, .nil => by rw [List.take_nil, List.take_nil]; exact .nil
  | _, _, n + 1, .cons p t => .cons p (paired_take n t)
theorem paired_drop {α β : Type} {F : α → β → Prop} : ∀ {xs : List α} {ys : List β} (n : Nat), Paired F xs ys → Paired F (xs.drop n) (ys.drop n)
  | _, _, 0, h => h
  | _, _, n + 1, .nil => by rw [List.drop_nil, List.drop_nil]; exact .nil
  | _, _, n + 1, .cons p t => paired_drop n t
theorem paired_rep {α β : Type} {F : α → β → Prop} {a : α} {b : β} (h : F a b) : ∀ n : Nat, Paired F (List.replicate n a) (List.replicate n b)
  | 0 => .nil
  | n + 1 => .cons h (paired_rep h n)
/-- the same empty room many times -/
def noRs (n : Nat) : List Rm := List.replicate n ([], 0)
theorem noRs_at {K : PySem.W.Frag} {H : Hp} {e t q : Addr} {n : Nat} (he : H e = some (.lst [])) (ht : H t = some (.tup [.ref e, .int 0])) (hq : H q = some (.lst (List.replicate n (.ref t)))) : ∃ ys, H q = some (.lst ys) ∧ Paired (PVr K H) ys ((noRs n).map pvOf) :=
  ⟨_, hq, pv_rooms (N := fun _ => True) (rs := noRs n) (paired_rep (F := RoomK (fun _ => True) H) (b := (([], 0) : Rm)) ⟨t, e, rfl, True.intro, ht, True.intro, he⟩ n) fun r hr => by
    rw [(List.mem_replicate.mp hr).2]
    exact ⟨Nat.zero_le _, fun x hx => by cases hx⟩⟩
theorem noRs_len {n : Nat} : (noRs n).length = n := List.length_replicate
theorem noRs_ok {ts : List Str} {n : Nat} : ∀ q ∈ noRs n, RmOk ts q := fun q hq => by
  rw [(List.mem_replicate.mp hq).2]
  exact ⟨.nil, fun x hx => (by cases hx), Int.le_refl _⟩
theorem noRs_no {n : Nat} : NoX (noRs n) := lam_nox (List.pairwise_replicate.mpr (.inr (.inl fun x hx => by cases hx))) fun r hr => by
  rw [(List.mem_replicate.mp hr).2]
  exact .nil
theorem dp_at0 {K : PySem.W.Frag} {H : Hp} {x : Str} : Dp K H (.str x) (.str x) := .str x
theorem eqv_str (x : Str) : PyData.eqv (.str x) (.str x) = true := by simp [PyData.eqv]
theorem shaped_str {x : Str} (h : PyData.strOk x = true) : SeqAt.shaped (.str x) = true := by
  simp [SeqAt.shaped, PyData.canLay0, PyData.depth, h]
end BF
set_option Elab.async false
set_option linter.all false
set_option maxRecDepth 100000
set_option maxHeartbeats 4000000
namespace BF47
open BF
open PySem PySem.Spec PyProof.Rows L2
open C8 (Cal CalAt Met Mak cal0 met0 mak0 fn0 pe_c pe_mk pe_mt pe_mt0 pe_gc fnScope fnBody fnArgs fnScope_by)
open SX
def topS (i : Nat) : Stmt := PySem.Challenge.pw_bothfree_k47_rooms_made_and_refused.main.body.getD i (.Pass ⟨0, 0, 0, 0⟩)
abbrev s_BadThings__init : Stmt := inClass (topS 2) 0
abbrev N_BadThings__init : List Str := ["self", "index"]
theorem sc_BadThings__init : FnScope N_BadThings__init ["self", "index"] (fnScope s_BadThings__init) := fnScope_by (by decide +kernel)
abbrev s_BadRooms__init : Stmt := inClass (topS 3) 0
abbrev N_BadRooms__init : List Str := ["self", "index"]
theorem sc_BadRooms__init : FnScope N_BadRooms__init ["self", "index"] (fnScope s_BadRooms__init) := fnScope_by (by decide +kernel)
abbrev s_CrossedRooms__init : Stmt := inClass (topS 4) 0
abbrev N_CrossedRooms__init : List Str := ["self", "one", "other"]
theorem sc_CrossedRooms__init : FnScope N_CrossedRooms__init ["self", "one", "other"] (fnScope s_CrossedRooms__init) := fnScope_by (by decide +kernel)
abbrev s_is_integer : Stmt := topS 8
abbrev N_is_integer : List Str := ["value"]
theorem sc_is_integer : FnScope N_is_integer ["value"] (fnScope s_is_integer) := fnScope_by (by decide +kernel)
abbrev s_is_name : Stmt := topS 9
abbrev N_is_name : List Str := ["value", "letter"]
theorem sc_is_name : FnScope N_is_name ["value"] (fnScope s_is_name) := fnScope_by (by decide +kernel)
abbrev s_first_wrong : Stmt := topS 10
abbrev N_first_wrong : List Str := ["entries", "fits", "seen", "at", "entry"]
theorem sc_first_wrong : FnScope N_first_wrong ["entries", "fits"] (fnScope s_first_wrong) := fnScope_by (by decide +kernel)
abbrev s_sorted_things : Stmt := topS 11
abbrev N_sorted_things : List Str := ["things", "most", "wrong"]
theorem sc_sorted_things : FnScope N_sorted_things ["things", "most"] (fnScope s_sorted_things) := fnScope_by (by decide +kernel)
abbrev s_is_lot : Stmt := topS 12
abbrev N_is_lot : List Str := ["value", "things"]
theorem sc_is_lot : FnScope N_is_lot ["value", "things"] (fnScope s_is_lot) := fnScope_by (by decide +kernel)
abbrev s_Counts__init : Stmt := inClass (topS 15) 0
abbrev N_Counts__init : List Str := ["self", "things", "rooms"]
theorem sc_Counts__init : FnScope N_Counts__init ["self", "things", "rooms"] (fnScope s_Counts__init) := fnScope_by (by decide +kernel)
abbrev s_Counts_things : Stmt := inClass (topS 15) 1
abbrev N_Counts_things : List Str := ["self"]
theorem sc_Counts_things : FnScope N_Counts_things ["self"] (fnScope s_Counts_things) := fnScope_by (by decide +kernel)
abbrev s_Counts_rooms : Stmt := inClass (topS 15) 2
abbrev N_Counts_rooms : List Str := ["self", "lot", "number"]
theorem sc_Counts_rooms : FnScope N_Counts_rooms ["self"] (fnScope s_Counts_rooms) := fnScope_by (by decide +kernel)
abbrev s_Counts__eq : Stmt := inClass (topS 15) 3
abbrev N_Counts__eq : List Str := ["self", "other"]
theorem sc_Counts__eq : FnScope N_Counts__eq ["self", "other"] (fnScope s_Counts__eq) := fnScope_by (by decide +kernel)
abbrev s_checked_rooms : Stmt := topS 16
abbrev N_checked_rooms : List Str := ["rooms", "things", "index", "room", "one", "lot", "_", "other", "number"]
theorem sc_checked_rooms : FnScope N_checked_rooms ["rooms", "things"] (fnScope s_checked_rooms) := fnScope_by (by decide +kernel)
abbrev s_are_crossed : Stmt := topS 17
abbrev N_are_crossed : List Str := ["lot", "other", "shared"]
theorem sc_are_crossed : FnScope N_are_crossed ["lot", "other"] (fnScope s_are_crossed) := fnScope_by (by decide +kernel)
abbrev s_is_room : Stmt := topS 18
abbrev N_is_room : List Str := ["value", "things"]
theorem sc_is_room : FnScope N_is_room ["value", "things"] (fnScope s_is_room) := fnScope_by (by decide +kernel)
abbrev s_shared : Stmt := topS 19
abbrev N_shared : List Str := ["room", "lot", "thing"]
theorem sc_shared : FnScope N_shared ["room", "lot"] (fnScope s_shared) := fnScope_by (by decide +kernel)
abbrev s_law_state : Stmt := topS 21
abbrev N_law_state : List Str := ["script"]
theorem sc_law_state : FnScope N_law_state ["script"] (fnScope s_law_state) := fnScope_by (by decide +kernel)
abbrev s_law_draw : Stmt := topS 22
abbrev N_law_draw : List Str := ["state", "many", "digit", "cell", "number"]
theorem sc_law_draw : FnScope N_law_draw ["state", "many"] (fnScope s_law_draw) := fnScope_by (by decide +kernel)
abbrev s_law_names : Stmt := topS 23
abbrev N_law_names : List Str := ["state", "many", "found", "k", "name"]
theorem sc_law_names : FnScope N_law_names ["state", "many"] (fnScope s_law_names) := fnScope_by (by decide +kernel)
abbrev s_law_mixed : Stmt := topS 24
abbrev N_law_mixed : List Str := ["state", "items", "rest", "found", "k"]
theorem sc_law_mixed : FnScope N_law_mixed ["state", "items"] (fnScope s_law_mixed) := fnScope_by (by decide +kernel)
abbrev s_law_rooms : Stmt := topS 25
abbrev N_law_rooms : List Str := ["state", "things", "deep", "found", "rest", "size", "lot"]
theorem sc_law_rooms : FnScope N_law_rooms ["state", "things", "deep"] (fnScope s_law_rooms) := fnScope_by (by decide +kernel)
abbrev s_law_told : Stmt := topS 30
abbrev N_law_told : List Str := ["things", "rooms", "found", "e"]
theorem sc_law_told : FnScope N_law_told ["things", "rooms"] (fnScope s_law_told) := fnScope_by (by decide +kernel)
abbrev s_law_crossed : Stmt := topS 31
abbrev N_law_crossed : List Str := ["rooms", "k", "j", "one", "other", "both", "thing"]
theorem sc_law_crossed : FnScope N_law_crossed ["rooms"] (fnScope s_law_crossed) := fnScope_by (by decide +kernel)
abbrev s_law_wrong_room : Stmt := topS 32
abbrev N_law_wrong_room : List Str := ["state", "things", "lot", "some"]
theorem sc_law_wrong_room : FnScope N_law_wrong_room ["state", "things"] (fnScope s_law_wrong_room) := fnScope_by (by decide +kernel)
abbrev s_law_refused : Stmt := topS 33
abbrev N_law_refused : List Str := ["state", "things", "rooms", "some", "at", "wrong", "place"]
theorem sc_law_refused : FnScope N_law_refused ["state", "things", "rooms"] (fnScope s_law_refused) := fnScope_by (by decide +kernel)
abbrev s_law : Stmt := topS 34
abbrev N_law : List Str := ["script", "state", "turn", "things", "mixed", "rooms", "passed", "made", "due", "k", "told", "again", "some", "crossed", "many", "lot", "number", "room"]
theorem sc_law : FnScope N_law ["script"] (fnScope s_law) := fnScope_by (by decide +kernel)
structure Ad where
  C_LotError : Addr
  C_BadThings : Addr
  C_BadRooms : Addr
  C_CrossedRooms : Addr
  C_Counts : Addr
  f_BadThings__init : Addr
  fd_BadThings__init : FuncData
  f_BadRooms__init : Addr
  fd_BadRooms__init : FuncData
  f_CrossedRooms__init : Addr
  fd_CrossedRooms__init : FuncData
  f_is_integer : Addr
  fd_is_integer : FuncData
  f_is_name : Addr
  fd_is_name : FuncData
  f_first_wrong : Addr
  fd_first_wrong : FuncData
  f_sorted_things : Addr
  fd_sorted_things : FuncData
  f_is_lot : Addr
  fd_is_lot : FuncData
  f_Counts__init : Addr
  fd_Counts__init : FuncData
  f_Counts_things : Addr
  fd_Counts_things : FuncData
  f_Counts_rooms : Addr
  fd_Counts_rooms : FuncData
  f_Counts__eq : Addr
  fd_Counts__eq : FuncData
  f_checked_rooms : Addr
  fd_checked_rooms : FuncData
  f_are_crossed : Addr
  fd_are_crossed : FuncData
  f_is_room : Addr
  fd_is_room : FuncData
  f_shared : Addr
  fd_shared : FuncData
  f_law_state : Addr
  fd_law_state : FuncData
  f_law_draw : Addr
  fd_law_draw : FuncData
  f_law_names : Addr
  fd_law_names : FuncData
  f_law_mixed : Addr
  fd_law_mixed : FuncData
  f_law_rooms : Addr
  fd_law_rooms : FuncData
  f_law_told : Addr
  fd_law_told : FuncData
  f_law_crossed : Addr
  fd_law_crossed : FuncData
  f_law_wrong_room : Addr
  fd_law_wrong_room : FuncData
  f_law_refused : Addr
  fd_law_refused : FuncData
  f_law : Addr
  fd_law : FuncData
structure Txt (K : PySem.W.Frag) (mg : Str → Option Value) (A : Ad) : Prop where
  gC_LotError : mg "LotError" = some (.ref A.C_LotError)
  gC_BadThings : mg "BadThings" = some (.ref A.C_BadThings)
  gC_BadRooms : mg "BadRooms" = some (.ref A.C_BadRooms)
  gC_CrossedRooms : mg "CrossedRooms" = some (.ref A.C_CrossedRooms)
  gC_Counts : mg "Counts" = some (.ref A.C_Counts)
  u_BadThings__init : C8.Fun K "__init__" "BadThings.__init__" s_BadThings__init A.f_BadThings__init A.fd_BadThings__init
  fi_BadThings__init : PySem.W.findIn K (.ref A.C_BadThings) "__init__" = some (some (.ref A.f_BadThings__init))
  fn_BadThings__init : PySem.W.isFn K (.ref A.f_BadThings__init) = true
  kp_BadThings__init : PySem.W.keepIn K (.ref A.f_BadThings__init) = true
  b_BadThings__init : Binds K A.fd_BadThings__init ["self", "index"] []
  u_BadRooms__init : C8.Fun K "__init__" "BadRooms.__init__" s_BadRooms__init A.f_BadRooms__init A.fd_BadRooms__init
  fi_BadRooms__init : PySem.W.findIn K (.ref A.C_BadRooms) "__init__" = some (some (.ref A.f_BadRooms__init))
  fn_BadRooms__init : PySem.W.isFn K (.ref A.f_BadRooms__init) = true
  kp_BadRooms__init : PySem.W.keepIn K (.ref A.f_BadRooms__init) = true
  b_BadRooms__init : Binds K A.fd_BadRooms__init ["self", "index"] []
  u_CrossedRooms__init : C8.Fun K "__init__" "CrossedRooms.__init__" s_CrossedRooms__init A.f_CrossedRooms__init A.fd_CrossedRooms__init
  fi_CrossedRooms__init : PySem.W.findIn K (.ref A.C_CrossedRooms) "__init__" = some (some (.ref A.f_CrossedRooms__init))
  fn_CrossedRooms__init : PySem.W.isFn K (.ref A.f_CrossedRooms__init) = true
  kp_CrossedRooms__init : PySem.W.keepIn K (.ref A.f_CrossedRooms__init) = true
  b_CrossedRooms__init : Binds K A.fd_CrossedRooms__init ["self", "one", "other"] []
  d_is_integer : C8.Def K mg "is_integer" s_is_integer A.f_is_integer A.fd_is_integer
  b_is_integer : Binds K A.fd_is_integer ["value"] []
  d_is_name : C8.Def K mg "is_name" s_is_name A.f_is_name A.fd_is_name
  b_is_name : Binds K A.fd_is_name ["value"] []
  d_first_wrong : C8.Def K mg "first_wrong" s_first_wrong A.f_first_wrong A.fd_first_wrong
  b_first_wrong : Binds K A.fd_first_wrong ["entries", "fits"] []
  d_sorted_things : C8.Def K mg "sorted_things" s_sorted_things A.f_sorted_things A.fd_sorted_things
  b_sorted_things : Binds K A.fd_sorted_things ["things", "most"] []
  d_is_lot : C8.Def K mg "is_lot" s_is_lot A.f_is_lot A.fd_is_lot
  b_is_lot : Binds K A.fd_is_lot ["value", "things"] []
  u_Counts__init : C8.Fun K "__init__" "Counts.__init__" s_Counts__init A.f_Counts__init A.fd_Counts__init
  fi_Counts__init : PySem.W.findIn K (.ref A.C_Counts) "__init__" = some (some (.ref A.f_Counts__init))
  fn_Counts__init : PySem.W.isFn K (.ref A.f_Counts__init) = true
  kp_Counts__init : PySem.W.keepIn K (.ref A.f_Counts__init) = true
  b_Counts__init : Binds K A.fd_Counts__init ["self", "things", "rooms"] []
  u_Counts_things : C8.Fun K "things" "Counts.things" s_Counts_things A.f_Counts_things A.fd_Counts_things
  fi_Counts_things : PySem.W.findIn K (.ref A.C_Counts) "things" = some (some (.ref A.f_Counts_things))
  fn_Counts_things : PySem.W.isFn K (.ref A.f_Counts_things) = true
  kp_Counts_things : PySem.W.keepIn K (.ref A.f_Counts_things) = true
  b_Counts_things : Binds K A.fd_Counts_things ["self"] []
  u_Counts_rooms : C8.Fun K "rooms" "Counts.rooms" s_Counts_rooms A.f_Counts_rooms A.fd_Counts_rooms
  fi_Counts_rooms : PySem.W.findIn K (.ref A.C_Counts) "rooms" = some (some (.ref A.f_Counts_rooms))
  fn_Counts_rooms : PySem.W.isFn K (.ref A.f_Counts_rooms) = true
  kp_Counts_rooms : PySem.W.keepIn K (.ref A.f_Counts_rooms) = true
  b_Counts_rooms : Binds K A.fd_Counts_rooms ["self"] []
  u_Counts__eq : C8.Fun K "__eq__" "Counts.__eq__" s_Counts__eq A.f_Counts__eq A.fd_Counts__eq
  fi_Counts__eq : PySem.W.findIn K (.ref A.C_Counts) "__eq__" = some (some (.ref A.f_Counts__eq))
  fn_Counts__eq : PySem.W.isFn K (.ref A.f_Counts__eq) = true
  kp_Counts__eq : PySem.W.keepIn K (.ref A.f_Counts__eq) = true
  b_Counts__eq : Binds K A.fd_Counts__eq ["self", "other"] []
  d_checked_rooms : C8.Def K mg "_checked_rooms" s_checked_rooms A.f_checked_rooms A.fd_checked_rooms
  b_checked_rooms : Binds K A.fd_checked_rooms ["rooms", "things"] []
  d_are_crossed : C8.Def K mg "are_crossed" s_are_crossed A.f_are_crossed A.fd_are_crossed
  b_are_crossed : Binds K A.fd_are_crossed ["lot", "other"] []
  d_is_room : C8.Def K mg "_is_room" s_is_room A.f_is_room A.fd_is_room
  b_is_room : Binds K A.fd_is_room ["value", "things"] []
  d_shared : C8.Def K mg "_shared" s_shared A.f_shared A.fd_shared
  b_shared : Binds K A.fd_shared ["room", "lot"] []
  d_law_state : C8.Def K mg "_law_state" s_law_state A.f_law_state A.fd_law_state
  b_law_state : Binds K A.fd_law_state ["script"] []
  d_law_draw : C8.Def K mg "_law_draw" s_law_draw A.f_law_draw A.fd_law_draw
  b_law_draw : Binds K A.fd_law_draw ["state", "many"] []
  d_law_names : C8.Def K mg "_law_names" s_law_names A.f_law_names A.fd_law_names
  b_law_names : Binds K A.fd_law_names ["state", "many"] []
  d_law_mixed : C8.Def K mg "_law_mixed" s_law_mixed A.f_law_mixed A.fd_law_mixed
  b_law_mixed : Binds K A.fd_law_mixed ["state", "items"] []
  d_law_rooms : C8.Def K mg "_law_rooms" s_law_rooms A.f_law_rooms A.fd_law_rooms
  b_law_rooms : Binds K A.fd_law_rooms ["state", "things", "deep"] []
  d_law_told : C8.Def K mg "_law_told" s_law_told A.f_law_told A.fd_law_told
  b_law_told : Binds K A.fd_law_told ["things", "rooms"] []
  d_law_crossed : C8.Def K mg "_law_crossed" s_law_crossed A.f_law_crossed A.fd_law_crossed
  b_law_crossed : Binds K A.fd_law_crossed ["rooms"] []
  d_law_wrong_room : C8.Def K mg "_law_wrong_room" s_law_wrong_room A.f_law_wrong_room A.fd_law_wrong_room
  b_law_wrong_room : Binds K A.fd_law_wrong_room ["state", "things"] []
  d_law_refused : C8.Def K mg "_law_refused" s_law_refused A.f_law_refused A.fd_law_refused
  b_law_refused : Binds K A.fd_law_refused ["state", "things", "rooms"] []
  d_law : C8.Def K mg "law" s_law A.f_law A.fd_law
  b_law : Binds K A.fd_law ["script"] []
  cl_Counts : Cls K A.C_Counts
  mk_Counts : PySem.W.makesIn K A.C_Counts = true
  kc_Counts : PySem.W.keepIn K (.ref A.C_Counts) = true
  na_Counts__things : NoAttr K A.C_Counts "_things"
  na_Counts__rooms : NoAttr K A.C_Counts "_rooms"
  wc_Counts : PySem.W.findIn K (.ref A.C_Counts) "__class__" = some (some (.builtin "object.__class__"))
  wg_Counts : PySem.W.specialIn K (.builtin "object.__class__") "__get__" = some (some (.builtin "getset_descriptor.__get__"))
  wt_Counts : PySem.W.takesIn K (.builtin "object.__class__") = some true
  wm_Counts : PySem.W.mroIn K A.C_Counts (.type "object") = some true
  wk_Counts : PySem.W.kitOne K (.ref A.C_Counts) (.ref A.C_Counts) = some true
  nc_Counts : NeC K A.C_Counts A.f_Counts__eq
  ox_BadThings : OexC K A.C_BadThings
  xf_BadThings : XfC K A.C_BadThings
  nx_BadThings_index : PySem.W.findIn K (.ref A.C_BadThings) "index" = some none
  ox_BadRooms : OexC K A.C_BadRooms
  xf_BadRooms : XfC K A.C_BadRooms
  nx_BadRooms_index : PySem.W.findIn K (.ref A.C_BadRooms) "index" = some none
  ox_CrossedRooms : OexC K A.C_CrossedRooms
  xf_CrossedRooms : XfC K A.C_CrossedRooms
  nx_CrossedRooms_one : PySem.W.findIn K (.ref A.C_CrossedRooms) "one" = some none
  nx_CrossedRooms_other : PySem.W.findIn K (.ref A.C_CrossedRooms) "other" = some none
  xm_BadThings_BadThings : PySem.W.exmOne K (.ref A.C_BadThings) (.ref A.C_BadThings) = some true
  xm_BadRooms_BadThings : PySem.W.exmOne K (.ref A.C_BadRooms) (.ref A.C_BadThings) = some false
  xm_BadRooms_BadRooms : PySem.W.exmOne K (.ref A.C_BadRooms) (.ref A.C_BadRooms) = some true
  xm_CrossedRooms_BadThings : PySem.W.exmOne K (.ref A.C_CrossedRooms) (.ref A.C_BadThings) = some false
  xm_CrossedRooms_BadRooms : PySem.W.exmOne K (.ref A.C_CrossedRooms) (.ref A.C_BadRooms) = some false
  xm_CrossedRooms_CrossedRooms : PySem.W.exmOne K (.ref A.C_CrossedRooms) (.ref A.C_CrossedRooms) = some true
  ky_int_Counts : PySem.W.kitOne K (.type "int") (.ref A.C_Counts) = some false
  ky_list_Counts : PySem.W.kitOne K (.type "list") (.ref A.C_Counts) = some false
  nf_int_Counts : PySem.W.notFirst K A.C_Counts (.type "int") = true
  nf_list_Counts : PySem.W.notFirst K A.C_Counts (.type "list") = true
  z_all : mg "all" = none
  z_bool : mg "bool" = none
  z_enumerate : mg "enumerate" = none
  z_int : mg "int" = none
  z_isinstance : mg "isinstance" = none
  z_len : mg "len" = none
  z_list : mg "list" = none
  z_min : mg "min" = none
  z_range : mg "range" = none
  z_set : mg "set" = none
  z_sorted : mg "sorted" = none
  z_str : mg "str" = none
  z_tuple : mg "tuple" = none
  g_LONGEST_NAME : ∃ t, mg "LONGEST_NAME" = some (.int 8 t)
  g_MOST_THINGS : ∃ t, mg "MOST_THINGS" = some (.int 24 t)
  g_MOST_ROOMS : ∃ t, mg "MOST_ROOMS" = some (.int 60 t)
section
variable {P : Program} {w : World} {K : PySem.W.Frag} {mg : Str → Option Value} {base : Heap} {A : Ad}
theorem cal_law_state (T : Txt K mg A) : Cal P w K mg base 1 "_law_state" (spState K) [] := by
  refine cal0 T.d_law_state T.b_law_state .nil sc_law_state (fun vs H Q E h => ?_) (fun cdv B outer s H vs Q E hr h => ?_)
  · obtain ⟨a, ns, rfl, _⟩ := h
    rfl
  · obtain ⟨a, ns, rfl, ha, hn, k⟩ := h
    refine ⟨_, (pss_one (ps_ret (pe_lst (pa_cons (pe_callTy (listK K) (by rfl) T.z_list (by decide +kernel) (pa_cons (pv 0) pa_nil)) (pa_cons pe_int (pa_cons pe_int (pa_cons pe_int (pa_cons pe_int (pa_cons pe_int pa_nil))))))))), ?_⟩
    (repeat (first | refine ⟨_, rfl, ?_⟩ | refine ⟨rfl, ?_⟩ | refine ⟨_, _, rfl, rfl, ?_⟩ | refine iteT ?_ | refine iteF ?_ | refine ⟨(by show (0 : Int) < _; omega), ?_⟩ | refine ⟨(⟨by omega, by omega⟩ : CDiv _ _), ?_⟩ | refine ⟨(⟨by decide, by decide, by decide⟩ : CPow _ _), ?_⟩ | refine ⟨(.inl ⟨by omega, by omega⟩ : CMul _ _), ?_⟩ | refine ⟨(.inr ⟨by omega, by omega⟩ : CMul _ _), ?_⟩ | refine Or.inl ⟨_, rfl, ?_⟩ | refine Or.inr ⟨_, rfl, ?_⟩ | refine ⟨_, _, _, _, true, rfl, .ty _, .base (.str _), kit_ty (by decide +kernel), ?_⟩ | refine ⟨_, _, rfl, ⟨by rw [sizeLine_eq]; omega, rfl⟩, ?_⟩ | refine ⟨_, _, rfl, .inl ⟨_, SqL.of (by assumption), rfl⟩, ?_⟩ | refine ⟨_, _, rfl, .inr ⟨_, SqT.of (by assumption), rfl⟩, ?_⟩))
    refine ⟨a, _, rfl, .inl ha, fun c nc => ?_⟩
    (repeat (first | refine ⟨_, rfl, ?_⟩ | refine ⟨rfl, ?_⟩ | refine ⟨_, _, rfl, rfl, ?_⟩ | refine iteT ?_ | refine iteF ?_ | refine ⟨(by show (0 : Int) < _; omega), ?_⟩ | refine ⟨(⟨by omega, by omega⟩ : CDiv _ _), ?_⟩ | refine ⟨(⟨by decide, by decide, by decide⟩ : CPow _ _), ?_⟩ | refine ⟨(.inl ⟨by omega, by omega⟩ : CMul _ _), ?_⟩ | refine ⟨(.inr ⟨by omega, by omega⟩ : CMul _ _), ?_⟩ | refine Or.inl ⟨_, rfl, ?_⟩ | refine Or.inr ⟨_, rfl, ?_⟩ | refine ⟨_, _, _, _, true, rfl, .ty _, .base (.str _), kit_ty (by decide +kernel), ?_⟩ | refine ⟨_, _, rfl, ⟨by rw [sizeLine_eq]; omega, rfl⟩, ?_⟩ | refine ⟨_, _, rfl, .inl ⟨_, SqL.of (by assumption), rfl⟩, ?_⟩ | refine ⟨_, _, rfl, .inr ⟨_, SqT.of (by assumption), rfl⟩, ?_⟩))
    refine ⟨(by show 6 ≤ sizeLine; rw [sizeLine_eq]; omega), fun w nw => ?_⟩
    have nw0 : H w = none := (Same.new nc).free nw
    have cw : c ≠ w := fun e => by rw [← e, upd_same] at nw; cases nw
    exact k w c _ nw0 nc ((Same.new nc).trans (Same.new nw)) ⟨⟨0, 0, 0, 0, 0, upd_same⟩, ns, by rw [upd_ne cw]; exact upd_same, by omega⟩
theorem cal_law_draw (T : Txt K mg A) : Cal P w K mg base 1 "_law_draw" spDrawS [] := by
  refine cal0 T.d_law_draw T.b_law_draw .nil sc_law_draw (fun vs H Q E h => ?_) (fun cdv B outer s H vs Q E hr h => ?_)
  · obtain ⟨x, c, m, rfl, _⟩ := h
    rfl
  · obtain ⟨wl, c, m, rfl, hS, h1, h2, k⟩ := h
    refine ⟨_, (pss_cons (ps_if (PW.pt (pw_and (pt_cmpR op_gt (pe_ix (ixLK K) (pv 0) pe_int (fun _ _ => rfl)) pe_int (nomark _)) (pw_and1 (pt_cmpR op_lt (pe_ix (ixLK K) (pv 0) pe_int (fun _ _ => rfl)) pe_int (nomark _))))) (pss_cons (ps_set (i := 2) sc_law_draw.nd rfl (by first | exact Or.inl rfl | exact Or.inr rfl) (pe_op op_mod (pe_callTy call_int1 (by rfl) T.z_int (by decide +kernel) (pa_cons (pe_ix (ixLK K) (pv 0) pe_int (fun _ _ => rfl)) pa_nil)) (pv 1)))
 (pss_cons (ps_asg (pe_op op_fdiv (pe_ix (ixLK K) (pv 0) pe_int (fun _ _ => rfl)) (pv 1)) (pg_sub (pv 0) pe_int set_list))
 (pss_cons (ps_asg (pe_op op_add (pe_ix (ixLK K) (pv 0) pe_int (fun _ _ => rfl)) pe_int) (pg_sub (pv 0) pe_int set_list))
 (pss_one (ps_ret (pv 2)))))) pss_nil)
 (pss_cons (ps_asg (pe_op op_add (pe_ix (ixLK K) (pv 0) pe_int (fun _ _ => rfl)) pe_int) (pg_sub (pv 0) pe_int set_list))
 (pss_cons (ps_if (pt_cmpR op_lt (pe_ix (ixLK K) (pv 0) pe_int (fun _ _ => rfl)) (pe_callB (lenK K) (by rfl) T.z_len (by decide +kernel) (pa_cons (pe_ix (ixLK K) (pv 0) pe_int (fun _ _ => rfl)) pa_nil)) (nomark _)) (pss_cons (ps_set (i := 3) sc_law_draw.nd rfl (by first | exact Or.inl rfl | exact Or.inr rfl) (pe_ix (ixLK K) (pe_ix (ixLK K) (pv 0) pe_int (fun _ _ => rfl)) (pe_ix (ixLK K) (pv 0) pe_int (fun _ _ => rfl)) (fun _ _ => rfl)))
 (pss_cons (ps_asg (pe_op op_add (pe_ix (ixLK K) (pv 0) pe_int (fun _ _ => rfl)) pe_int) (pg_sub (pv 0) pe_int set_list))
 (pss_cons (ps_asg (pe_op op_mod (pe_op op_add (pe_op op_mul (pe_ix (ixLK K) (pv 0) pe_int (fun _ _ => rfl)) pe_int) (pe_callTy call_int1 (by rfl) T.z_int (by decide +kernel) (pa_cons (pv 3) pa_nil))) (pe_op op_pow pe_int pe_int)) (pg_sub (pv 0) pe_int set_list))
 (pss_one (ps_if (pt_cmpR op_ge (pv 3) (pe_op op_pow pe_int pe_int) (nomark _)) (pss_cons (ps_asg (pe_op op_fdiv (pv 3) (pv 1)) (pg_sub (pv 0) pe_int set_list))
 (pss_cons (ps_asg pe_int (pg_sub (pv 0) pe_int set_list))
 (pss_one (ps_ret (pe_op op_mod (pe_callTy call_int1 (by rfl) T.z_int (by decide +kernel) (pa_cons (pv 3) pa_nil)) (pv 1)))))) pss_nil))))) pss_nil)
 (pss_cons (ps_set (i := 4) sc_law_draw.nd rfl (by first | exact Or.inl rfl | exact Or.inr rfl) (pe_op op_mod (pe_op op_mul (pe_op op_add (pe_op op_add (pe_op op_mul (pe_callTy call_int1 (by rfl) T.z_int (by decide +kernel) (pa_cons (pe_ix (ixLK K) (pv 0) pe_int (fun _ _ => rfl)) pa_nil)) pe_int) (pe_op op_mul pe_int (pe_ix (ixLK K) (pv 0) pe_int (fun _ _ => rfl)))) pe_int) pe_int) pe_int))
 (pss_cons (ps_set (i := 4) sc_law_draw.nd rfl (by first | exact Or.inl rfl | exact Or.inr rfl) (pe_op op_mod (pe_op op_mul (pv 4) (pe_op op_add (pe_op op_fdiv (pv 4) pe_int) pe_int)) pe_int))
 (pss_cons (ps_set (i := 4) sc_law_draw.nd rfl (by first | exact Or.inl rfl | exact Or.inr rfl) (pe_op op_mod (pe_op op_mul (pv 4) (pe_op op_add (pe_op op_fdiv (pv 4) pe_int) pe_int)) pe_int))
 (pss_one (ps_ret (pe_op op_mod (pe_callTy call_int1 (by rfl) T.z_int (by decide +kernel) (pa_cons (pv 4) pa_nil)) (pv 1)))))))))), ?_⟩
    obtain ⟨⟨i, x, y, z, u, hw⟩, ns, hc, hl⟩ := id hS
    have hi : ∀ {j : Nat}, j < ns.length → atI (ns.map V.int) ((j : Nat) : Int) = some (V.int (ns.getD j 0)) := fun {j} h => atI_nat (by rw [List.getElem?_map, List.getElem?_eq_getElem h, List.getD_eq_getElem?_getD, List.getElem?_eq_getElem h]; rfl)
    have cw := hS.cw
    have fin : ∀ {G : Hp} {j : Nat} {x' y' z' u' : Int} {n : Int}, (∀ b o, b ≠ wl → H b = some o → G b = some o) → G wl = some (.lst [.ref c, .int (j : Nat), .int x', .int y', .int z', .int u']) → 0 ≤ n → n < m → Q (.int n) G :=
      fun {G j x' y' z' u' n} fr e a b => k n G a b ⟨fr, fun _ => ⟨⟨j, x', y', z', u', e⟩, ns, fr _ _ cw hc, hl⟩⟩
    (repeat (first | refine ⟨_, rfl, ?_⟩ | refine ⟨rfl, ?_⟩ | refine ⟨_, _, rfl, rfl, ?_⟩ | refine iteT ?_ | refine iteF ?_ | refine ⟨(by show (0 : Int) < _; omega), ?_⟩ | refine ⟨(⟨by omega, by omega⟩ : CDiv _ _), ?_⟩ | refine ⟨(⟨by decide, by decide, by decide⟩ : CPow _ _), ?_⟩ | refine ⟨(.inl ⟨by omega, by omega⟩ : CMul _ _), ?_⟩ | refine ⟨(.inr ⟨by omega, by omega⟩ : CMul _ _), ?_⟩ | refine Or.inl ⟨_, rfl, ?_⟩ | refine Or.inr ⟨_, rfl, ?_⟩ | refine ⟨_, _, _, _, true, rfl, .ty _, .base (.str _), kit_ty (by decide +kernel), ?_⟩ | refine ⟨_, _, rfl, ⟨by rw [sizeLine_eq]; omega, rfl⟩, ?_⟩ | refine ⟨_, _, rfl, .inl ⟨_, SqL.of (by assumption), rfl⟩, ?_⟩ | refine ⟨_, _, rfl, .inr ⟨_, SqT.of (by assumption), rfl⟩, ?_⟩ | refine ⟨_, _, _, _, rfl, rfl, SqL.of hw, rfl, ?_⟩))
    refine ite2 (fun c1 => ?_) (fun c1 => ?_)
    · (repeat (first | refine ⟨_, rfl, ?_⟩ | refine ⟨rfl, ?_⟩ | refine ⟨_, _, rfl, rfl, ?_⟩ | refine iteT ?_ | refine iteF ?_ | refine ⟨(by show (0 : Int) < _; omega), ?_⟩ | refine ⟨(⟨by omega, by omega⟩ : CDiv _ _), ?_⟩ | refine ⟨(⟨by decide, by decide, by decide⟩ : CPow _ _), ?_⟩ | refine ⟨(.inl ⟨by omega, by omega⟩ : CMul _ _), ?_⟩ | refine ⟨(.inr ⟨by omega, by omega⟩ : CMul _ _), ?_⟩ | refine Or.inl ⟨_, rfl, ?_⟩ | refine Or.inr ⟨_, rfl, ?_⟩ | refine ⟨_, _, _, _, true, rfl, .ty _, .base (.str _), kit_ty (by decide +kernel), ?_⟩ | refine ⟨_, _, rfl, ⟨by rw [sizeLine_eq]; omega, rfl⟩, ?_⟩ | refine ⟨_, _, rfl, .inl ⟨_, SqL.of (by assumption), rfl⟩, ?_⟩ | refine ⟨_, _, rfl, .inr ⟨_, SqT.of (by assumption), rfl⟩, ?_⟩ | refine ⟨_, _, _, _, rfl, rfl, SqL.of hw, rfl, ?_⟩))
      refine ite2 (fun c2 => ?_) (fun c2 => ?_)
      · (repeat (first | refine ⟨_, rfl, ?_⟩ | refine ⟨rfl, ?_⟩ | refine ⟨_, _, rfl, rfl, ?_⟩ | refine iteT ?_ | refine iteF ?_ | refine ⟨(by show (0 : Int) < _; omega), ?_⟩ | refine ⟨(⟨by omega, by omega⟩ : CDiv _ _), ?_⟩ | refine ⟨(⟨by decide, by decide, by decide⟩ : CPow _ _), ?_⟩ | refine ⟨(.inl ⟨by omega, by omega⟩ : CMul _ _), ?_⟩ | refine ⟨(.inr ⟨by omega, by omega⟩ : CMul _ _), ?_⟩ | refine Or.inl ⟨_, rfl, ?_⟩ | refine Or.inr ⟨_, rfl, ?_⟩ | refine ⟨_, _, _, _, true, rfl, .ty _, .base (.str _), kit_ty (by decide +kernel), ?_⟩ | refine ⟨_, _, rfl, ⟨by rw [sizeLine_eq]; omega, rfl⟩, ?_⟩ | refine ⟨_, _, rfl, .inl ⟨_, SqL.of (by assumption), rfl⟩, ?_⟩ | refine ⟨_, _, rfl, .inr ⟨_, SqT.of (by assumption), rfl⟩, ?_⟩ | refine ⟨_, _, _, _, rfl, rfl, SqL.of hw, rfl, ?_⟩))
        refine ⟨wl, _, _, 2, rfl, rfl, hw, rfl, ?_⟩
        generalize hG : upd _ wl (.lst _) = G1
        have G1f : ∀ b o, b ≠ wl → H b = some o → G1 b = some o := fun b o n e => by rw [← hG, upd_ne n]; exact e
        replace hw : G1 wl = some (.lst [.ref c, .int (i : Nat), .int (x / m), .int y, .int z, .int u]) := by rw [← hG]; exact upd_same
        clear hG
        (repeat (first | refine ⟨_, rfl, ?_⟩ | refine ⟨rfl, ?_⟩ | refine ⟨_, _, rfl, rfl, ?_⟩ | refine iteT ?_ | refine iteF ?_ | refine ⟨(by show (0 : Int) < _; omega), ?_⟩ | refine ⟨(⟨by omega, by omega⟩ : CDiv _ _), ?_⟩ | refine ⟨(⟨by decide, by decide, by decide⟩ : CPow _ _), ?_⟩ | refine ⟨(.inl ⟨by omega, by omega⟩ : CMul _ _), ?_⟩ | refine ⟨(.inr ⟨by omega, by omega⟩ : CMul _ _), ?_⟩ | refine Or.inl ⟨_, rfl, ?_⟩ | refine Or.inr ⟨_, rfl, ?_⟩ | refine ⟨_, _, _, _, true, rfl, .ty _, .base (.str _), kit_ty (by decide +kernel), ?_⟩ | refine ⟨_, _, rfl, ⟨by rw [sizeLine_eq]; omega, rfl⟩, ?_⟩ | refine ⟨_, _, rfl, .inl ⟨_, SqL.of (by assumption), rfl⟩, ?_⟩ | refine ⟨_, _, rfl, .inr ⟨_, SqT.of (by assumption), rfl⟩, ?_⟩ | refine ⟨_, _, _, _, rfl, rfl, SqL.of hw, rfl, ?_⟩))
        refine ⟨wl, _, _, 3, rfl, rfl, hw, rfl, ?_⟩
        generalize hG : upd _ wl (.lst _) = G2
        have G2f : ∀ b o, b ≠ wl → H b = some o → G2 b = some o := fun b o n e => by rw [← hG, upd_ne n]; exact G1f b o n e
        replace hw : G2 wl = some (.lst [.ref c, .int (i : Nat), .int (x / m), .int (y + 1), .int z, .int u]) := by rw [← hG]; exact upd_same
        clear hG
        (repeat (first | refine ⟨_, rfl, ?_⟩ | refine ⟨rfl, ?_⟩ | refine ⟨_, _, rfl, rfl, ?_⟩ | refine iteT ?_ | refine iteF ?_ | refine ⟨(by show (0 : Int) < _; omega), ?_⟩ | refine ⟨(⟨by omega, by omega⟩ : CDiv _ _), ?_⟩ | refine ⟨(⟨by decide, by decide, by decide⟩ : CPow _ _), ?_⟩ | refine ⟨(.inl ⟨by omega, by omega⟩ : CMul _ _), ?_⟩ | refine ⟨(.inr ⟨by omega, by omega⟩ : CMul _ _), ?_⟩ | refine Or.inl ⟨_, rfl, ?_⟩ | refine Or.inr ⟨_, rfl, ?_⟩ | refine ⟨_, _, _, _, true, rfl, .ty _, .base (.str _), kit_ty (by decide +kernel), ?_⟩ | refine ⟨_, _, rfl, ⟨by rw [sizeLine_eq]; omega, rfl⟩, ?_⟩ | refine ⟨_, _, rfl, .inl ⟨_, SqL.of (by assumption), rfl⟩, ?_⟩ | refine ⟨_, _, rfl, .inr ⟨_, SqT.of (by assumption), rfl⟩, ?_⟩ | refine ⟨_, _, _, _, rfl, rfl, SqL.of hw, rfl, ?_⟩))
        exact fin G2f hw (Int.emod_nonneg _ (by omega)) (Int.emod_lt_of_pos _ (by omega))
      ·
        (repeat (first | refine ⟨_, rfl, ?_⟩ | refine ⟨rfl, ?_⟩ | refine ⟨_, _, rfl, rfl, ?_⟩ | refine iteT ?_ | refine iteF ?_ | refine ⟨(by show (0 : Int) < _; omega), ?_⟩ | refine ⟨(⟨by omega, by omega⟩ : CDiv _ _), ?_⟩ | refine ⟨(⟨by decide, by decide, by decide⟩ : CPow _ _), ?_⟩ | refine ⟨(.inl ⟨by omega, by omega⟩ : CMul _ _), ?_⟩ | refine ⟨(.inr ⟨by omega, by omega⟩ : CMul _ _), ?_⟩ | refine Or.inl ⟨_, rfl, ?_⟩ | refine Or.inr ⟨_, rfl, ?_⟩ | refine ⟨_, _, _, _, true, rfl, .ty _, .base (.str _), kit_ty (by decide +kernel), ?_⟩ | refine ⟨_, _, rfl, ⟨by rw [sizeLine_eq]; omega, rfl⟩, ?_⟩ | refine ⟨_, _, rfl, .inl ⟨_, SqL.of (by assumption), rfl⟩, ?_⟩ | refine ⟨_, _, rfl, .inr ⟨_, SqT.of (by assumption), rfl⟩, ?_⟩ | refine ⟨_, _, _, _, rfl, rfl, SqL.of hw, rfl, ?_⟩))
        refine ⟨wl, _, _, 4, rfl, rfl, hw, rfl, ?_⟩
        generalize hG : upd _ wl (.lst _) = G1
        have G1f : ∀ b o, b ≠ wl → H b = some o → G1 b = some o := fun b o n e => by rw [← hG, upd_ne n]; exact e
        replace hw : G1 wl = some (.lst [.ref c, .int (i : Nat), .int x, .int y, .int (z + 1), .int u]) := by rw [← hG]; exact upd_same
        clear hG
        have hc1 := G1f _ _ cw hc
        (repeat (first | refine ⟨_, rfl, ?_⟩ | refine ⟨rfl, ?_⟩ | refine ⟨_, _, rfl, rfl, ?_⟩ | refine iteT ?_ | refine iteF ?_ | refine ⟨(by show (0 : Int) < _; omega), ?_⟩ | refine ⟨(⟨by omega, by omega⟩ : CDiv _ _), ?_⟩ | refine ⟨(⟨by decide, by decide, by decide⟩ : CPow _ _), ?_⟩ | refine ⟨(.inl ⟨by omega, by omega⟩ : CMul _ _), ?_⟩ | refine ⟨(.inr ⟨by omega, by omega⟩ : CMul _ _), ?_⟩ | refine Or.inl ⟨_, rfl, ?_⟩ | refine Or.inr ⟨_, rfl, ?_⟩ | refine ⟨_, _, _, _, true, rfl, .ty _, .base (.str _), kit_ty (by decide +kernel), ?_⟩ | refine ⟨_, _, rfl, ⟨by rw [sizeLine_eq]; omega, rfl⟩, ?_⟩ | refine ⟨_, _, rfl, .inl ⟨_, SqL.of (by assumption), rfl⟩, ?_⟩ | refine ⟨_, _, rfl, .inr ⟨_, SqT.of (by assumption), rfl⟩, ?_⟩ | refine ⟨_, _, _, _, rfl, rfl, SqL.of hw, rfl, ?_⟩))
        by_cases hlen : (i : Int) < ((ns.map V.int).length : Int)
        · rw [decide_eq_true hlen]
          rw [List.length_map] at hlen
          have hin : i < ns.length := by omega
          (repeat (first | refine ⟨_, rfl, ?_⟩ | refine ⟨rfl, ?_⟩ | refine ⟨_, _, rfl, rfl, ?_⟩ | refine iteT ?_ | refine iteF ?_ | refine ⟨(by show (0 : Int) < _; omega), ?_⟩ | refine ⟨(⟨by omega, by omega⟩ : CDiv _ _), ?_⟩ | refine ⟨(⟨by decide, by decide, by decide⟩ : CPow _ _), ?_⟩ | refine ⟨(.inl ⟨by omega, by omega⟩ : CMul _ _), ?_⟩ | refine ⟨(.inr ⟨by omega, by omega⟩ : CMul _ _), ?_⟩ | refine Or.inl ⟨_, rfl, ?_⟩ | refine Or.inr ⟨_, rfl, ?_⟩ | refine ⟨_, _, _, _, true, rfl, .ty _, .base (.str _), kit_ty (by decide +kernel), ?_⟩ | refine ⟨_, _, rfl, ⟨by rw [sizeLine_eq]; omega, rfl⟩, ?_⟩ | refine ⟨_, _, rfl, .inl ⟨_, SqL.of (by assumption), rfl⟩, ?_⟩ | refine ⟨_, _, rfl, .inr ⟨_, SqT.of (by assumption), rfl⟩, ?_⟩ | refine ⟨_, _, _, _, rfl, rfl, SqL.of hw, rfl, ?_⟩))
          refine ⟨c, _, _, _, rfl, rfl, SqL.of hc1, hi hin, ?_⟩
          (repeat (first | refine ⟨_, rfl, ?_⟩ | refine ⟨rfl, ?_⟩ | refine ⟨_, _, rfl, rfl, ?_⟩ | refine iteT ?_ | refine iteF ?_ | refine ⟨(by show (0 : Int) < _; omega), ?_⟩ | refine ⟨(⟨by omega, by omega⟩ : CDiv _ _), ?_⟩ | refine ⟨(⟨by decide, by decide, by decide⟩ : CPow _ _), ?_⟩ | refine ⟨(.inl ⟨by omega, by omega⟩ : CMul _ _), ?_⟩ | refine ⟨(.inr ⟨by omega, by omega⟩ : CMul _ _), ?_⟩ | refine Or.inl ⟨_, rfl, ?_⟩ | refine Or.inr ⟨_, rfl, ?_⟩ | refine ⟨_, _, _, _, true, rfl, .ty _, .base (.str _), kit_ty (by decide +kernel), ?_⟩ | refine ⟨_, _, rfl, ⟨by rw [sizeLine_eq]; omega, rfl⟩, ?_⟩ | refine ⟨_, _, rfl, .inl ⟨_, SqL.of (by assumption), rfl⟩, ?_⟩ | refine ⟨_, _, rfl, .inr ⟨_, SqT.of (by assumption), rfl⟩, ?_⟩ | refine ⟨_, _, _, _, rfl, rfl, SqL.of hw, rfl, ?_⟩))
          refine ⟨wl, _, _, 1, rfl, rfl, hw, rfl, ?_⟩
          generalize hG : upd _ wl (.lst _) = G2
          have G2f : ∀ b o, b ≠ wl → H b = some o → G2 b = some o := fun b o n e => by rw [← hG, upd_ne n]; exact G1f b o n e
          replace hw : G2 wl = some (.lst [.ref c, .int ((i + 1 : Nat) : Int), .int x, .int y, .int (z + 1), .int u]) := by rw [← hG]; exact upd_same
          clear hG
          (repeat (first | refine ⟨_, rfl, ?_⟩ | refine ⟨rfl, ?_⟩ | refine ⟨_, _, rfl, rfl, ?_⟩ | refine iteT ?_ | refine iteF ?_ | refine ⟨(by show (0 : Int) < _; omega), ?_⟩ | refine ⟨(⟨by omega, by omega⟩ : CDiv _ _), ?_⟩ | refine ⟨(⟨by decide, by decide, by decide⟩ : CPow _ _), ?_⟩ | refine ⟨(.inl ⟨by omega, by omega⟩ : CMul _ _), ?_⟩ | refine ⟨(.inr ⟨by omega, by omega⟩ : CMul _ _), ?_⟩ | refine Or.inl ⟨_, rfl, ?_⟩ | refine Or.inr ⟨_, rfl, ?_⟩ | refine ⟨_, _, _, _, true, rfl, .ty _, .base (.str _), kit_ty (by decide +kernel), ?_⟩ | refine ⟨_, _, rfl, ⟨by rw [sizeLine_eq]; omega, rfl⟩, ?_⟩ | refine ⟨_, _, rfl, .inl ⟨_, SqL.of (by assumption), rfl⟩, ?_⟩ | refine ⟨_, _, rfl, .inr ⟨_, SqT.of (by assumption), rfl⟩, ?_⟩ | refine ⟨_, _, _, _, rfl, rfl, SqL.of hw, rfl, ?_⟩))
          refine ⟨(by show (0 : Int) < 10 ^ Int.toNat 18; decide), ?_⟩
          (repeat (first | refine ⟨_, rfl, ?_⟩ | refine ⟨rfl, ?_⟩ | refine ⟨_, _, rfl, rfl, ?_⟩ | refine iteT ?_ | refine iteF ?_ | refine ⟨(by show (0 : Int) < _; omega), ?_⟩ | refine ⟨(⟨by omega, by omega⟩ : CDiv _ _), ?_⟩ | refine ⟨(⟨by decide, by decide, by decide⟩ : CPow _ _), ?_⟩ | refine ⟨(.inl ⟨by omega, by omega⟩ : CMul _ _), ?_⟩ | refine ⟨(.inr ⟨by omega, by omega⟩ : CMul _ _), ?_⟩ | refine Or.inl ⟨_, rfl, ?_⟩ | refine Or.inr ⟨_, rfl, ?_⟩ | refine ⟨_, _, _, _, true, rfl, .ty _, .base (.str _), kit_ty (by decide +kernel), ?_⟩ | refine ⟨_, _, rfl, ⟨by rw [sizeLine_eq]; omega, rfl⟩, ?_⟩ | refine ⟨_, _, rfl, .inl ⟨_, SqL.of (by assumption), rfl⟩, ?_⟩ | refine ⟨_, _, rfl, .inr ⟨_, SqT.of (by assumption), rfl⟩, ?_⟩ | refine ⟨_, _, _, _, rfl, rfl, SqL.of hw, rfl, ?_⟩))
          refine ⟨wl, _, _, 5, rfl, rfl, hw, rfl, ?_⟩
          generalize hG : upd _ wl (.lst _) = G3
          have G3f : ∀ b o, b ≠ wl → H b = some o → G3 b = some o := fun b o n e => by rw [← hG, upd_ne n]; exact G2f b o n e
          replace hw : G3 wl = some (.lst [.ref c, .int ((i + 1 : Nat) : Int), .int x, .int y, .int (z + 1), .int ((u * 31 + ns.getD i 0) % 10 ^ 18)]) := by rw [← hG]; exact upd_same
          clear hG
          (repeat (first | refine ⟨_, rfl, ?_⟩ | refine ⟨rfl, ?_⟩ | refine ⟨_, _, rfl, rfl, ?_⟩ | refine iteT ?_ | refine iteF ?_ | refine ⟨(by show (0 : Int) < _; omega), ?_⟩ | refine ⟨(⟨by omega, by omega⟩ : CDiv _ _), ?_⟩ | refine ⟨(⟨by decide, by decide, by decide⟩ : CPow _ _), ?_⟩ | refine ⟨(.inl ⟨by omega, by omega⟩ : CMul _ _), ?_⟩ | refine ⟨(.inr ⟨by omega, by omega⟩ : CMul _ _), ?_⟩ | refine Or.inl ⟨_, rfl, ?_⟩ | refine Or.inr ⟨_, rfl, ?_⟩ | refine ⟨_, _, _, _, true, rfl, .ty _, .base (.str _), kit_ty (by decide +kernel), ?_⟩ | refine ⟨_, _, rfl, ⟨by rw [sizeLine_eq]; omega, rfl⟩, ?_⟩ | refine ⟨_, _, rfl, .inl ⟨_, SqL.of (by assumption), rfl⟩, ?_⟩ | refine ⟨_, _, rfl, .inr ⟨_, SqT.of (by assumption), rfl⟩, ?_⟩ | refine ⟨_, _, _, _, rfl, rfl, SqL.of hw, rfl, ?_⟩))
          refine ite2 (fun c3 => ?_) (fun c3 => ?_)
          · (repeat (first | refine ⟨_, rfl, ?_⟩ | refine ⟨rfl, ?_⟩ | refine ⟨_, _, rfl, rfl, ?_⟩ | refine iteT ?_ | refine iteF ?_ | refine ⟨(by show (0 : Int) < _; omega), ?_⟩ | refine ⟨(⟨by omega, by omega⟩ : CDiv _ _), ?_⟩ | refine ⟨(⟨by decide, by decide, by decide⟩ : CPow _ _), ?_⟩ | refine ⟨(.inl ⟨by omega, by omega⟩ : CMul _ _), ?_⟩ | refine ⟨(.inr ⟨by omega, by omega⟩ : CMul _ _), ?_⟩ | refine Or.inl ⟨_, rfl, ?_⟩ | refine Or.inr ⟨_, rfl, ?_⟩ | refine ⟨_, _, _, _, true, rfl, .ty _, .base (.str _), kit_ty (by decide +kernel), ?_⟩ | refine ⟨_, _, rfl, ⟨by rw [sizeLine_eq]; omega, rfl⟩, ?_⟩ | refine ⟨_, _, rfl, .inl ⟨_, SqL.of (by assumption), rfl⟩, ?_⟩ | refine ⟨_, _, rfl, .inr ⟨_, SqT.of (by assumption), rfl⟩, ?_⟩ | refine ⟨_, _, _, _, rfl, rfl, SqL.of hw, rfl, ?_⟩))
            refine ⟨wl, _, _, 2, rfl, rfl, hw, rfl, ?_⟩
            generalize hG : upd _ wl (.lst _) = G4
            have G4f : ∀ b o, b ≠ wl → H b = some o → G4 b = some o := fun b o n e => by rw [← hG, upd_ne n]; exact G3f b o n e
            replace hw : G4 wl = some (.lst [.ref c, .int ((i + 1 : Nat) : Int), .int (ns.getD i 0 / m), .int y, .int (z + 1), .int ((u * 31 + ns.getD i 0) % 10 ^ 18)]) := by rw [← hG]; exact upd_same
            clear hG
            (repeat (first | refine ⟨_, rfl, ?_⟩ | refine ⟨rfl, ?_⟩ | refine ⟨_, _, rfl, rfl, ?_⟩ | refine iteT ?_ | refine iteF ?_ | refine ⟨(by show (0 : Int) < _; omega), ?_⟩ | refine ⟨(⟨by omega, by omega⟩ : CDiv _ _), ?_⟩ | refine ⟨(⟨by decide, by decide, by decide⟩ : CPow _ _), ?_⟩ | refine ⟨(.inl ⟨by omega, by omega⟩ : CMul _ _), ?_⟩ | refine ⟨(.inr ⟨by omega, by omega⟩ : CMul _ _), ?_⟩ | refine Or.inl ⟨_, rfl, ?_⟩ | refine Or.inr ⟨_, rfl, ?_⟩ | refine ⟨_, _, _, _, true, rfl, .ty _, .base (.str _), kit_ty (by decide +kernel), ?_⟩ | refine ⟨_, _, rfl, ⟨by rw [sizeLine_eq]; omega, rfl⟩, ?_⟩ | refine ⟨_, _, rfl, .inl ⟨_, SqL.of (by assumption), rfl⟩, ?_⟩ | refine ⟨_, _, rfl, .inr ⟨_, SqT.of (by assumption), rfl⟩, ?_⟩ | refine ⟨_, _, _, _, rfl, rfl, SqL.of hw, rfl, ?_⟩))
            refine ⟨wl, _, _, 3, rfl, rfl, hw, rfl, ?_⟩
            generalize hG : upd _ wl (.lst _) = G5
            have G5f : ∀ b o, b ≠ wl → H b = some o → G5 b = some o := fun b o n e => by rw [← hG, upd_ne n]; exact G4f b o n e
            replace hw : G5 wl = some (.lst [.ref c, .int ((i + 1 : Nat) : Int), .int (ns.getD i 0 / m), .int 1, .int (z + 1), .int ((u * 31 + ns.getD i 0) % 10 ^ 18)]) := by rw [← hG]; exact upd_same
            clear hG
            (repeat (first | refine ⟨_, rfl, ?_⟩ | refine ⟨rfl, ?_⟩ | refine ⟨_, _, rfl, rfl, ?_⟩ | refine iteT ?_ | refine iteF ?_ | refine ⟨(by show (0 : Int) < _; omega), ?_⟩ | refine ⟨(⟨by omega, by omega⟩ : CDiv _ _), ?_⟩ | refine ⟨(⟨by decide, by decide, by decide⟩ : CPow _ _), ?_⟩ | refine ⟨(.inl ⟨by omega, by omega⟩ : CMul _ _), ?_⟩ | refine ⟨(.inr ⟨by omega, by omega⟩ : CMul _ _), ?_⟩ | refine Or.inl ⟨_, rfl, ?_⟩ | refine Or.inr ⟨_, rfl, ?_⟩ | refine ⟨_, _, _, _, true, rfl, .ty _, .base (.str _), kit_ty (by decide +kernel), ?_⟩ | refine ⟨_, _, rfl, ⟨by rw [sizeLine_eq]; omega, rfl⟩, ?_⟩ | refine ⟨_, _, rfl, .inl ⟨_, SqL.of (by assumption), rfl⟩, ?_⟩ | refine ⟨_, _, rfl, .inr ⟨_, SqT.of (by assumption), rfl⟩, ?_⟩ | refine ⟨_, _, _, _, rfl, rfl, SqL.of hw, rfl, ?_⟩))
            exact fin G5f hw (Int.emod_nonneg _ (by omega)) (Int.emod_lt_of_pos _ (by omega))
          · (repeat (first | refine ⟨_, rfl, ?_⟩ | refine ⟨rfl, ?_⟩ | refine ⟨_, _, rfl, rfl, ?_⟩ | refine iteT ?_ | refine iteF ?_ | refine ⟨(by show (0 : Int) < _; omega), ?_⟩ | refine ⟨(⟨by omega, by omega⟩ : CDiv _ _), ?_⟩ | refine ⟨(⟨by decide, by decide, by decide⟩ : CPow _ _), ?_⟩ | refine ⟨(.inl ⟨by omega, by omega⟩ : CMul _ _), ?_⟩ | refine ⟨(.inr ⟨by omega, by omega⟩ : CMul _ _), ?_⟩ | refine Or.inl ⟨_, rfl, ?_⟩ | refine Or.inr ⟨_, rfl, ?_⟩ | refine ⟨_, _, _, _, true, rfl, .ty _, .base (.str _), kit_ty (by decide +kernel), ?_⟩ | refine ⟨_, _, rfl, ⟨by rw [sizeLine_eq]; omega, rfl⟩, ?_⟩ | refine ⟨_, _, rfl, .inl ⟨_, SqL.of (by assumption), rfl⟩, ?_⟩ | refine ⟨_, _, rfl, .inr ⟨_, SqT.of (by assumption), rfl⟩, ?_⟩ | refine ⟨_, _, _, _, rfl, rfl, SqL.of hw, rfl, ?_⟩))
            exact fin G3f hw (Int.emod_nonneg _ (by omega)) (Int.emod_lt_of_pos _ (by omega))
        · rw [decide_eq_false hlen]
          (repeat (first | refine ⟨_, rfl, ?_⟩ | refine ⟨rfl, ?_⟩ | refine ⟨_, _, rfl, rfl, ?_⟩ | refine iteT ?_ | refine iteF ?_ | refine ⟨(by show (0 : Int) < _; omega), ?_⟩ | refine ⟨(⟨by omega, by omega⟩ : CDiv _ _), ?_⟩ | refine ⟨(⟨by decide, by decide, by decide⟩ : CPow _ _), ?_⟩ | refine ⟨(.inl ⟨by omega, by omega⟩ : CMul _ _), ?_⟩ | refine ⟨(.inr ⟨by omega, by omega⟩ : CMul _ _), ?_⟩ | refine Or.inl ⟨_, rfl, ?_⟩ | refine Or.inr ⟨_, rfl, ?_⟩ | refine ⟨_, _, _, _, true, rfl, .ty _, .base (.str _), kit_ty (by decide +kernel), ?_⟩ | refine ⟨_, _, rfl, ⟨by rw [sizeLine_eq]; omega, rfl⟩, ?_⟩ | refine ⟨_, _, rfl, .inl ⟨_, SqL.of (by assumption), rfl⟩, ?_⟩ | refine ⟨_, _, rfl, .inr ⟨_, SqT.of (by assumption), rfl⟩, ?_⟩ | refine ⟨_, _, _, _, rfl, rfl, SqL.of hw, rfl, ?_⟩))
          exact fin G1f hw (Int.emod_nonneg _ (by omega)) (Int.emod_lt_of_pos _ (by omega))
    ·
      (repeat (first | refine ⟨_, rfl, ?_⟩ | refine ⟨rfl, ?_⟩ | refine ⟨_, _, rfl, rfl, ?_⟩ | refine iteT ?_ | refine iteF ?_ | refine ⟨(by show (0 : Int) < _; omega), ?_⟩ | refine ⟨(⟨by omega, by omega⟩ : CDiv _ _), ?_⟩ | refine ⟨(⟨by decide, by decide, by decide⟩ : CPow _ _), ?_⟩ | refine ⟨(.inl ⟨by omega, by omega⟩ : CMul _ _), ?_⟩ | refine ⟨(.inr ⟨by omega, by omega⟩ : CMul _ _), ?_⟩ | refine Or.inl ⟨_, rfl, ?_⟩ | refine Or.inr ⟨_, rfl, ?_⟩ | refine ⟨_, _, _, _, true, rfl, .ty _, .base (.str _), kit_ty (by decide +kernel), ?_⟩ | refine ⟨_, _, rfl, ⟨by rw [sizeLine_eq]; omega, rfl⟩, ?_⟩ | refine ⟨_, _, rfl, .inl ⟨_, SqL.of (by assumption), rfl⟩, ?_⟩ | refine ⟨_, _, rfl, .inr ⟨_, SqT.of (by assumption), rfl⟩, ?_⟩ | refine ⟨_, _, _, _, rfl, rfl, SqL.of hw, rfl, ?_⟩))
      refine ⟨wl, _, _, 4, rfl, rfl, hw, rfl, ?_⟩
      generalize hG : upd _ wl (.lst _) = G1
      have G1f : ∀ b o, b ≠ wl → H b = some o → G1 b = some o := fun b o n e => by rw [← hG, upd_ne n]; exact e
      replace hw : G1 wl = some (.lst [.ref c, .int (i : Nat), .int x, .int y, .int (z + 1), .int u]) := by rw [← hG]; exact upd_same
      clear hG
      have hc1 := G1f _ _ cw hc
      (repeat (first | refine ⟨_, rfl, ?_⟩ | refine ⟨rfl, ?_⟩ | refine ⟨_, _, rfl, rfl, ?_⟩ | refine iteT ?_ | refine iteF ?_ | refine ⟨(by show (0 : Int) < _; omega), ?_⟩ | refine ⟨(⟨by omega, by omega⟩ : CDiv _ _), ?_⟩ | refine ⟨(⟨by decide, by decide, by decide⟩ : CPow _ _), ?_⟩ | refine ⟨(.inl ⟨by omega, by omega⟩ : CMul _ _), ?_⟩ | refine ⟨(.inr ⟨by omega, by omega⟩ : CMul _ _), ?_⟩ | refine Or.inl ⟨_, rfl, ?_⟩ | refine Or.inr ⟨_, rfl, ?_⟩ | refine ⟨_, _, _, _, true, rfl, .ty _, .base (.str _), kit_ty (by decide +kernel), ?_⟩ | refine ⟨_, _, rfl, ⟨by rw [sizeLine_eq]; omega, rfl⟩, ?_⟩ | refine ⟨_, _, rfl, .inl ⟨_, SqL.of (by assumption), rfl⟩, ?_⟩ | refine ⟨_, _, rfl, .inr ⟨_, SqT.of (by assumption), rfl⟩, ?_⟩ | refine ⟨_, _, _, _, rfl, rfl, SqL.of hw, rfl, ?_⟩))
      by_cases hlen : (i : Int) < ((ns.map V.int).length : Int)
      · rw [decide_eq_true hlen]
        rw [List.length_map] at hlen
        have hin : i < ns.length := by omega
        (repeat (first | refine ⟨_, rfl, ?_⟩ | refine ⟨rfl, ?_⟩ | refine ⟨_, _, rfl, rfl, ?_⟩ | refine iteT ?_ | refine iteF ?_ | refine ⟨(by show (0 : Int) < _; omega), ?_⟩ | refine ⟨(⟨by omega, by omega⟩ : CDiv _ _), ?_⟩ | refine ⟨(⟨by decide, by decide, by decide⟩ : CPow _ _), ?_⟩ | refine ⟨(.inl ⟨by omega, by omega⟩ : CMul _ _), ?_⟩ | refine ⟨(.inr ⟨by omega, by omega⟩ : CMul _ _), ?_⟩ | refine Or.inl ⟨_, rfl, ?_⟩ | refine Or.inr ⟨_, rfl, ?_⟩ | refine ⟨_, _, _, _, true, rfl, .ty _, .base (.str _), kit_ty (by decide +kernel), ?_⟩ | refine ⟨_, _, rfl, ⟨by rw [sizeLine_eq]; omega, rfl⟩, ?_⟩ | refine ⟨_, _, rfl, .inl ⟨_, SqL.of (by assumption), rfl⟩, ?_⟩ | refine ⟨_, _, rfl, .inr ⟨_, SqT.of (by assumption), rfl⟩, ?_⟩ | refine ⟨_, _, _, _, rfl, rfl, SqL.of hw, rfl, ?_⟩))
        refine ⟨c, _, _, _, rfl, rfl, SqL.of hc1, hi hin, ?_⟩
        (repeat (first | refine ⟨_, rfl, ?_⟩ | refine ⟨rfl, ?_⟩ | refine ⟨_, _, rfl, rfl, ?_⟩ | refine iteT ?_ | refine iteF ?_ | refine ⟨(by show (0 : Int) < _; omega), ?_⟩ | refine ⟨(⟨by omega, by omega⟩ : CDiv _ _), ?_⟩ | refine ⟨(⟨by decide, by decide, by decide⟩ : CPow _ _), ?_⟩ | refine ⟨(.inl ⟨by omega, by omega⟩ : CMul _ _), ?_⟩ | refine ⟨(.inr ⟨by omega, by omega⟩ : CMul _ _), ?_⟩ | refine Or.inl ⟨_, rfl, ?_⟩ | refine Or.inr ⟨_, rfl, ?_⟩ | refine ⟨_, _, _, _, true, rfl, .ty _, .base (.str _), kit_ty (by decide +kernel), ?_⟩ | refine ⟨_, _, rfl, ⟨by rw [sizeLine_eq]; omega, rfl⟩, ?_⟩ | refine ⟨_, _, rfl, .inl ⟨_, SqL.of (by assumption), rfl⟩, ?_⟩ | refine ⟨_, _, rfl, .inr ⟨_, SqT.of (by assumption), rfl⟩, ?_⟩ | refine ⟨_, _, _, _, rfl, rfl, SqL.of hw, rfl, ?_⟩))
        refine ⟨wl, _, _, 1, rfl, rfl, hw, rfl, ?_⟩
        generalize hG : upd _ wl (.lst _) = G2
        have G2f : ∀ b o, b ≠ wl → H b = some o → G2 b = some o := fun b o n e => by rw [← hG, upd_ne n]; exact G1f b o n e
        replace hw : G2 wl = some (.lst [.ref c, .int ((i + 1 : Nat) : Int), .int x, .int y, .int (z + 1), .int u]) := by rw [← hG]; exact upd_same
        clear hG
        (repeat (first | refine ⟨_, rfl, ?_⟩ | refine ⟨rfl, ?_⟩ | refine ⟨_, _, rfl, rfl, ?_⟩ | refine iteT ?_ | refine iteF ?_ | refine ⟨(by show (0 : Int) < _; omega), ?_⟩ | refine ⟨(⟨by omega, by omega⟩ : CDiv _ _), ?_⟩ | refine ⟨(⟨by decide, by decide, by decide⟩ : CPow _ _), ?_⟩ | refine ⟨(.inl ⟨by omega, by omega⟩ : CMul _ _), ?_⟩ | refine ⟨(.inr ⟨by omega, by omega⟩ : CMul _ _), ?_⟩ | refine Or.inl ⟨_, rfl, ?_⟩ | refine Or.inr ⟨_, rfl, ?_⟩ | refine ⟨_, _, _, _, true, rfl, .ty _, .base (.str _), kit_ty (by decide +kernel), ?_⟩ | refine ⟨_, _, rfl, ⟨by rw [sizeLine_eq]; omega, rfl⟩, ?_⟩ | refine ⟨_, _, rfl, .inl ⟨_, SqL.of (by assumption), rfl⟩, ?_⟩ | refine ⟨_, _, rfl, .inr ⟨_, SqT.of (by assumption), rfl⟩, ?_⟩ | refine ⟨_, _, _, _, rfl, rfl, SqL.of hw, rfl, ?_⟩))
        refine ⟨(by show (0 : Int) < 10 ^ Int.toNat 18; decide), ?_⟩
        (repeat (first | refine ⟨_, rfl, ?_⟩ | refine ⟨rfl, ?_⟩ | refine ⟨_, _, rfl, rfl, ?_⟩ | refine iteT ?_ | refine iteF ?_ | refine ⟨(by show (0 : Int) < _; omega), ?_⟩ | refine ⟨(⟨by omega, by omega⟩ : CDiv _ _), ?_⟩ | refine ⟨(⟨by decide, by decide, by decide⟩ : CPow _ _), ?_⟩ | refine ⟨(.inl ⟨by omega, by omega⟩ : CMul _ _), ?_⟩ | refine ⟨(.inr ⟨by omega, by omega⟩ : CMul _ _), ?_⟩ | refine Or.inl ⟨_, rfl, ?_⟩ | refine Or.inr ⟨_, rfl, ?_⟩ | refine ⟨_, _, _, _, true, rfl, .ty _, .base (.str _), kit_ty (by decide +kernel), ?_⟩ | refine ⟨_, _, rfl, ⟨by rw [sizeLine_eq]; omega, rfl⟩, ?_⟩ | refine ⟨_, _, rfl, .inl ⟨_, SqL.of (by assumption), rfl⟩, ?_⟩ | refine ⟨_, _, rfl, .inr ⟨_, SqT.of (by assumption), rfl⟩, ?_⟩ | refine ⟨_, _, _, _, rfl, rfl, SqL.of hw, rfl, ?_⟩))
        refine ⟨wl, _, _, 5, rfl, rfl, hw, rfl, ?_⟩
        generalize hG : upd _ wl (.lst _) = G3
        have G3f : ∀ b o, b ≠ wl → H b = some o → G3 b = some o := fun b o n e => by rw [← hG, upd_ne n]; exact G2f b o n e
        replace hw : G3 wl = some (.lst [.ref c, .int ((i + 1 : Nat) : Int), .int x, .int y, .int (z + 1), .int ((u * 31 + ns.getD i 0) % 10 ^ 18)]) := by rw [← hG]; exact upd_same
        clear hG
        (repeat (first | refine ⟨_, rfl, ?_⟩ | refine ⟨rfl, ?_⟩ | refine ⟨_, _, rfl, rfl, ?_⟩ | refine iteT ?_ | refine iteF ?_ | refine ⟨(by show (0 : Int) < _; omega), ?_⟩ | refine ⟨(⟨by omega, by omega⟩ : CDiv _ _), ?_⟩ | refine ⟨(⟨by decide, by decide, by decide⟩ : CPow _ _), ?_⟩ | refine ⟨(.inl ⟨by omega, by omega⟩ : CMul _ _), ?_⟩ | refine ⟨(.inr ⟨by omega, by omega⟩ : CMul _ _), ?_⟩ | refine Or.inl ⟨_, rfl, ?_⟩ | refine Or.inr ⟨_, rfl, ?_⟩ | refine ⟨_, _, _, _, true, rfl, .ty _, .base (.str _), kit_ty (by decide +kernel), ?_⟩ | refine ⟨_, _, rfl, ⟨by rw [sizeLine_eq]; omega, rfl⟩, ?_⟩ | refine ⟨_, _, rfl, .inl ⟨_, SqL.of (by assumption), rfl⟩, ?_⟩ | refine ⟨_, _, rfl, .inr ⟨_, SqT.of (by assumption), rfl⟩, ?_⟩ | refine ⟨_, _, _, _, rfl, rfl, SqL.of hw, rfl, ?_⟩))
        refine ite2 (fun c3 => ?_) (fun c3 => ?_)
        · (repeat (first | refine ⟨_, rfl, ?_⟩ | refine ⟨rfl, ?_⟩ | refine ⟨_, _, rfl, rfl, ?_⟩ | refine iteT ?_ | refine iteF ?_ | refine ⟨(by show (0 : Int) < _; omega), ?_⟩ | refine ⟨(⟨by omega, by omega⟩ : CDiv _ _), ?_⟩ | refine ⟨(⟨by decide, by decide, by decide⟩ : CPow _ _), ?_⟩ | refine ⟨(.inl ⟨by omega, by omega⟩ : CMul _ _), ?_⟩ | refine ⟨(.inr ⟨by omega, by omega⟩ : CMul _ _), ?_⟩ | refine Or.inl ⟨_, rfl, ?_⟩ | refine Or.inr ⟨_, rfl, ?_⟩ | refine ⟨_, _, _, _, true, rfl, .ty _, .base (.str _), kit_ty (by decide +kernel), ?_⟩ | refine ⟨_, _, rfl, ⟨by rw [sizeLine_eq]; omega, rfl⟩, ?_⟩ | refine ⟨_, _, rfl, .inl ⟨_, SqL.of (by assumption), rfl⟩, ?_⟩ | refine ⟨_, _, rfl, .inr ⟨_, SqT.of (by assumption), rfl⟩, ?_⟩ | refine ⟨_, _, _, _, rfl, rfl, SqL.of hw, rfl, ?_⟩))
          refine ⟨wl, _, _, 2, rfl, rfl, hw, rfl, ?_⟩
          generalize hG : upd _ wl (.lst _) = G4
          have G4f : ∀ b o, b ≠ wl → H b = some o → G4 b = some o := fun b o n e => by rw [← hG, upd_ne n]; exact G3f b o n e
          replace hw : G4 wl = some (.lst [.ref c, .int ((i + 1 : Nat) : Int), .int (ns.getD i 0 / m), .int y, .int (z + 1), .int ((u * 31 + ns.getD i 0) % 10 ^ 18)]) := by rw [← hG]; exact upd_same
          clear hG
          (repeat (first | refine ⟨_, rfl, ?_⟩ | refine ⟨rfl, ?_⟩ | refine ⟨_, _, rfl, rfl, ?_⟩ | refine iteT ?_ | refine iteF ?_ | refine ⟨(by show (0 : Int) < _; omega), ?_⟩ | refine ⟨(⟨by omega, by omega⟩ : CDiv _ _), ?_⟩ | refine ⟨(⟨by decide, by decide, by decide⟩ : CPow _ _), ?_⟩ | refine ⟨(.inl ⟨by omega, by omega⟩ : CMul _ _), ?_⟩ | refine ⟨(.inr ⟨by omega, by omega⟩ : CMul _ _), ?_⟩ | refine Or.inl ⟨_, rfl, ?_⟩ | refine Or.inr ⟨_, rfl, ?_⟩ | refine ⟨_, _, _, _, true, rfl, .ty _, .base (.str _), kit_ty (by decide +kernel), ?_⟩ | refine ⟨_, _, rfl, ⟨by rw [sizeLine_eq]; omega, rfl⟩, ?_⟩ | refine ⟨_, _, rfl, .inl ⟨_, SqL.of (by assumption), rfl⟩, ?_⟩ | refine ⟨_, _, rfl, .inr ⟨_, SqT.of (by assumption), rfl⟩, ?_⟩ | refine ⟨_, _, _, _, rfl, rfl, SqL.of hw, rfl, ?_⟩))
          refine ⟨wl, _, _, 3, rfl, rfl, hw, rfl, ?_⟩
          generalize hG : upd _ wl (.lst _) = G5
          have G5f : ∀ b o, b ≠ wl → H b = some o → G5 b = some o := fun b o n e => by rw [← hG, upd_ne n]; exact G4f b o n e
          replace hw : G5 wl = some (.lst [.ref c, .int ((i + 1 : Nat) : Int), .int (ns.getD i 0 / m), .int 1, .int (z + 1), .int ((u * 31 + ns.getD i 0) % 10 ^ 18)]) := by rw [← hG]; exact upd_same
          clear hG
          (repeat (first | refine ⟨_, rfl, ?_⟩ | refine ⟨rfl, ?_⟩ | refine ⟨_, _, rfl, rfl, ?_⟩ | refine iteT ?_ | refine iteF ?_ | refine ⟨(by show (0 : Int) < _; omega), ?_⟩ | refine ⟨(⟨by omega, by omega⟩ : CDiv _ _), ?_⟩ | refine ⟨(⟨by decide, by decide, by decide⟩ : CPow _ _), ?_⟩ | refine ⟨(.inl ⟨by omega, by omega⟩ : CMul _ _), ?_⟩ | refine ⟨(.inr ⟨by omega, by omega⟩ : CMul _ _), ?_⟩ | refine Or.inl ⟨_, rfl, ?_⟩ | refine Or.inr ⟨_, rfl, ?_⟩ | refine ⟨_, _, _, _, true, rfl, .ty _, .base (.str _), kit_ty (by decide +kernel), ?_⟩ | refine ⟨_, _, rfl, ⟨by rw [sizeLine_eq]; omega, rfl⟩, ?_⟩ | refine ⟨_, _, rfl, .inl ⟨_, SqL.of (by assumption), rfl⟩, ?_⟩ | refine ⟨_, _, rfl, .inr ⟨_, SqT.of (by assumption), rfl⟩, ?_⟩ | refine ⟨_, _, _, _, rfl, rfl, SqL.of hw, rfl, ?_⟩))
          exact fin G5f hw (Int.emod_nonneg _ (by omega)) (Int.emod_lt_of_pos _ (by omega))
        · (repeat (first | refine ⟨_, rfl, ?_⟩ | refine ⟨rfl, ?_⟩ | refine ⟨_, _, rfl, rfl, ?_⟩ | refine iteT ?_ | refine iteF ?_ | refine ⟨(by show (0 : Int) < _; omega), ?_⟩ | refine ⟨(⟨by omega, by omega⟩ : CDiv _ _), ?_⟩ | refine ⟨(⟨by decide, by decide, by decide⟩ : CPow _ _), ?_⟩ | refine ⟨(.inl ⟨by omega, by omega⟩ : CMul _ _), ?_⟩ | refine ⟨(.inr ⟨by omega, by omega⟩ : CMul _ _), ?_⟩ | refine Or.inl ⟨_, rfl, ?_⟩ | refine Or.inr ⟨_, rfl, ?_⟩ | refine ⟨_, _, _, _, true, rfl, .ty _, .base (.str _), kit_ty (by decide +kernel), ?_⟩ | refine ⟨_, _, rfl, ⟨by rw [sizeLine_eq]; omega, rfl⟩, ?_⟩ | refine ⟨_, _, rfl, .inl ⟨_, SqL.of (by assumption), rfl⟩, ?_⟩ | refine ⟨_, _, rfl, .inr ⟨_, SqT.of (by assumption), rfl⟩, ?_⟩ | refine ⟨_, _, _, _, rfl, rfl, SqL.of hw, rfl, ?_⟩))
          exact fin G3f hw (Int.emod_nonneg _ (by omega)) (Int.emod_lt_of_pos _ (by omega))
      · rw [decide_eq_false hlen]
        (repeat (first | refine ⟨_, rfl, ?_⟩ | refine ⟨rfl, ?_⟩ | refine ⟨_, _, rfl, rfl, ?_⟩ | refine iteT ?_ | refine iteF ?_ | refine ⟨(by show (0 : Int) < _; omega), ?_⟩ | refine ⟨(⟨by omega, by omega⟩ : CDiv _ _), ?_⟩ | refine ⟨(⟨by decide, by decide, by decide⟩ : CPow _ _), ?_⟩ | refine ⟨(.inl ⟨by omega, by omega⟩ : CMul _ _), ?_⟩ | refine ⟨(.inr ⟨by omega, by omega⟩ : CMul _ _), ?_⟩ | refine Or.inl ⟨_, rfl, ?_⟩ | refine Or.inr ⟨_, rfl, ?_⟩ | refine ⟨_, _, _, _, true, rfl, .ty _, .base (.str _), kit_ty (by decide +kernel), ?_⟩ | refine ⟨_, _, rfl, ⟨by rw [sizeLine_eq]; omega, rfl⟩, ?_⟩ | refine ⟨_, _, rfl, .inl ⟨_, SqL.of (by assumption), rfl⟩, ?_⟩ | refine ⟨_, _, rfl, .inr ⟨_, SqT.of (by assumption), rfl⟩, ?_⟩ | refine ⟨_, _, _, _, rfl, rfl, SqL.of hw, rfl, ?_⟩))
        exact fin G1f hw (Int.emod_nonneg _ (by omega)) (Int.emod_lt_of_pos _ (by omega))
end
end BF47
set_option Elab.async false
set_option linter.all false
set_option maxRecDepth 100000
set_option maxHeartbeats 4000000
namespace BF47
open BF
open PySem PySem.Spec PyProof.Rows L2
open C8 (Cal CalAt Met Mak cal0 met0 mak0 fn0 pe_c pe_mk pe_mt pe_mt0 pe_gc fnScope fnBody fnArgs fnScope_by)
open SX
open LamX (Tabs TabB ExtN CodeO)
section
variable {P : Program} {w : World} {K : PySem.W.Frag} {mg : Str → Option Value} {base : Heap} {A : Ad}
theorem cal_is_name (T : Txt K mg A) : Cal P w K mg base 1 "is_name" (spIsNameO K) [] := by
  refine cal0 T.d_is_name T.b_is_name .nil sc_is_name (fun vs H Q E h => ?_) (fun cdv B outer s H vs Q E hr h => ?_)
  · obtain ⟨c, o, rfl, _⟩ := h
    rfl
  · obtain ⟨v, o, rfl, hv, hx, k⟩ := h
    refine ⟨_, (pss_cons (ps_if (PW.pt (pw_or (pt_not (pt_val (pe_callB (isiK K) (by rfl) T.z_isinstance (by decide +kernel) (pa_cons (pv 0) (pa_cons (pe_bltn (v := .ty "str") (by rfl) T.z_str (by decide +kernel) rfl) pa_nil))))) (pw_or1 (pt_not (pt_chain op_le op_le pe_int (pe_callB (lenK K) (by rfl) T.z_len (by decide +kernel) (pa_cons (pv 0) pa_nil)) (pe_gint rfl T.g_LONGEST_NAME)))))) (pss_one (ps_ret pe_bl)) pss_nil)
 (pss_one (ps_ret (pe_callB (allK K rfl) (by rfl) T.z_all (by decide +kernel) (pa_cons (pe_lc (own := [("letter", 1)]) (g := gName 1) rfl sc_is_name.nd (pi_str (pv 0)) (blkOk_by (own := [("letter", 1)]) (N := N_is_name) (sc := fnScope s_is_name) (by decide +kernel)) (fun _ _ _ _ _ => (pg_name (i := 1) sc_is_name.nd rfl (by first | exact Or.inl rfl | exact Or.inr rfl))) (fun _ _ _ _ _ => pts_nil) (fun _ _ _ _ _ => (pe_chain op_le_str op_le_str pe_str (pv 1) pe_str))) pa_nil))))), ?_⟩
    (repeat (first | refine ⟨_, rfl, ?_⟩ | refine ⟨rfl, ?_⟩ | refine ⟨_, _, rfl, rfl, ?_⟩ | refine iteT ?_ | refine iteF ?_ | refine ⟨(by show (0 : Int) < _; omega), ?_⟩ | refine ⟨(⟨by omega, by omega⟩ : CDiv _ _), ?_⟩ | refine ⟨(⟨by decide, by decide, by decide⟩ : CPow _ _), ?_⟩ | refine ⟨(.inl ⟨by omega, by omega⟩ : CMul _ _), ?_⟩ | refine ⟨(.inr ⟨by omega, by omega⟩ : CMul _ _), ?_⟩ | refine Or.inl ⟨_, rfl, ?_⟩ | refine Or.inr ⟨_, rfl, ?_⟩ | refine ⟨_, _, _, _, true, rfl, .ty _, .base (.str _), kit_ty (by decide +kernel), ?_⟩ | refine ⟨_, _, rfl, ⟨by rw [sizeLine_eq]; omega, rfl⟩, ?_⟩ | refine ⟨_, _, rfl, .inl ⟨_, SqL.of (by assumption), rfl⟩, ?_⟩ | refine ⟨_, _, rfl, .inr ⟨_, SqT.of (by assumption), rfl⟩, ?_⟩))
    cases hv with
    | no ty kt =>
      refine ⟨_, _, _, _, false, rfl, .ty _, ty, kt, ?_⟩
      (repeat (first | refine ⟨_, rfl, ?_⟩ | refine ⟨rfl, ?_⟩ | refine ⟨_, _, rfl, rfl, ?_⟩ | refine iteT ?_ | refine iteF ?_ | refine ⟨(by show (0 : Int) < _; omega), ?_⟩ | refine ⟨(⟨by omega, by omega⟩ : CDiv _ _), ?_⟩ | refine ⟨(⟨by decide, by decide, by decide⟩ : CPow _ _), ?_⟩ | refine ⟨(.inl ⟨by omega, by omega⟩ : CMul _ _), ?_⟩ | refine ⟨(.inr ⟨by omega, by omega⟩ : CMul _ _), ?_⟩ | refine Or.inl ⟨_, rfl, ?_⟩ | refine Or.inr ⟨_, rfl, ?_⟩ | refine ⟨_, _, _, _, true, rfl, .ty _, .base (.str _), kit_ty (by decide +kernel), ?_⟩ | refine ⟨_, _, rfl, ⟨by rw [sizeLine_eq]; omega, rfl⟩, ?_⟩ | refine ⟨_, _, rfl, .inl ⟨_, SqL.of (by assumption), rfl⟩, ?_⟩ | refine ⟨_, _, rfl, .inr ⟨_, SqT.of (by assumption), rfl⟩, ?_⟩))
      have q : Q (.bl false) H := k H (Same.refl H)
      exact q
    | str x =>
      have hz : x.cps.size ≤ 1000 := hx x rfl
      have hx : x.length ≤ 1000 := hx x rfl
      have k : ∀ H', Same H H' → Q (.bl (isNm x)) H' := k
      refine ⟨_, _, _, _, true, rfl, .ty _, .base (.str x), kit_ty (by decide +kernel), ?_⟩
      (repeat (first | refine ⟨_, rfl, ?_⟩ | refine ⟨rfl, ?_⟩ | refine ⟨_, _, rfl, rfl, ?_⟩ | refine iteT ?_ | refine iteF ?_ | refine ⟨(by show (0 : Int) < _; omega), ?_⟩ | refine ⟨(⟨by omega, by omega⟩ : CDiv _ _), ?_⟩ | refine ⟨(⟨by decide, by decide, by decide⟩ : CPow _ _), ?_⟩ | refine ⟨(.inl ⟨by omega, by omega⟩ : CMul _ _), ?_⟩ | refine ⟨(.inr ⟨by omega, by omega⟩ : CMul _ _), ?_⟩ | refine Or.inl ⟨_, rfl, ?_⟩ | refine Or.inr ⟨_, rfl, ?_⟩ | refine ⟨_, _, _, _, true, rfl, .ty _, .base (.str _), kit_ty (by decide +kernel), ?_⟩ | refine ⟨_, _, rfl, ⟨by rw [sizeLine_eq]; omega, rfl⟩, ?_⟩ | refine ⟨_, _, rfl, .inl ⟨_, SqL.of (by assumption), rfl⟩, ?_⟩ | refine ⟨_, _, rfl, .inr ⟨_, SqT.of (by assumption), rfl⟩, ?_⟩))
      refine ite2 (fun h1 => ?_) (fun h1 => ?_)
      · (repeat (first | refine ⟨_, rfl, ?_⟩ | refine ⟨rfl, ?_⟩ | refine ⟨_, _, rfl, rfl, ?_⟩ | refine iteT ?_ | refine iteF ?_ | refine ⟨(by show (0 : Int) < _; omega), ?_⟩ | refine ⟨(⟨by omega, by omega⟩ : CDiv _ _), ?_⟩ | refine ⟨(⟨by decide, by decide, by decide⟩ : CPow _ _), ?_⟩ | refine ⟨(.inl ⟨by omega, by omega⟩ : CMul _ _), ?_⟩ | refine ⟨(.inr ⟨by omega, by omega⟩ : CMul _ _), ?_⟩ | refine Or.inl ⟨_, rfl, ?_⟩ | refine Or.inr ⟨_, rfl, ?_⟩ | refine ⟨_, _, _, _, true, rfl, .ty _, .base (.str _), kit_ty (by decide +kernel), ?_⟩ | refine ⟨_, _, rfl, ⟨by rw [sizeLine_eq]; omega, rfl⟩, ?_⟩ | refine ⟨_, _, rfl, .inl ⟨_, SqL.of (by assumption), rfl⟩, ?_⟩ | refine ⟨_, _, rfl, .inr ⟨_, SqT.of (by assumption), rfl⟩, ?_⟩))
        by_cases h2 : (x.length : Int) ≤ 8
        · rw [decide_eq_true h2]
          (repeat (first | refine ⟨_, rfl, ?_⟩ | refine ⟨rfl, ?_⟩ | refine ⟨_, _, rfl, rfl, ?_⟩ | refine iteT ?_ | refine iteF ?_ | refine ⟨(by show (0 : Int) < _; omega), ?_⟩ | refine ⟨(⟨by omega, by omega⟩ : CDiv _ _), ?_⟩ | refine ⟨(⟨by decide, by decide, by decide⟩ : CPow _ _), ?_⟩ | refine ⟨(.inl ⟨by omega, by omega⟩ : CMul _ _), ?_⟩ | refine ⟨(.inr ⟨by omega, by omega⟩ : CMul _ _), ?_⟩ | refine Or.inl ⟨_, rfl, ?_⟩ | refine Or.inr ⟨_, rfl, ?_⟩ | refine ⟨_, _, _, _, true, rfl, .ty _, .base (.str _), kit_ty (by decide +kernel), ?_⟩ | refine ⟨_, _, rfl, ⟨by rw [sizeLine_eq]; omega, rfl⟩, ?_⟩ | refine ⟨_, _, rfl, .inl ⟨_, SqL.of (by assumption), rfl⟩, ?_⟩ | refine ⟨_, _, rfl, .inr ⟨_, SqT.of (by assumption), rfl⟩, ?_⟩))
          intro D nD
          refine lc_it walk_str (fun i H' => Same H H' ∧ H' D = some (.lst (((x.cps.toList.take i).map isLow).map V.bl))) ⟨Same.new nD, upd_same⟩ (fun _ _ _ _ => True.intro) ?_ ?_
          · rintro i v H1 H' hi ⟨s1, hD⟩ ⟨rfl, c, hc, rfl⟩
            have e : x.cps.toList[i]? = some c := by simpa using hc
            have fin : ∀ b, b = isLow c → ∃ acc, H' D = some (.lst acc) ∧ acc.length < sizeLine ∧ Same H (upd H' D (.lst (acc ++ [V.bl b]))) ∧ upd H' D (.lst (acc ++ [V.bl b])) D = some (.lst (((x.cps.toList.take (i + 1)).map isLow).map V.bl)) := by
              rintro b rfl
              refine ⟨_, hD, small1000 (by simp only [List.length_map, List.length_take, Array.length_toList]; omega), Same.put s1 nD, ?_⟩
              rw [upd_same, take_snoc isLow e, List.map_append]
              rfl
            refine ⟨rfl, ?_⟩
            (repeat (first | refine ⟨_, rfl, ?_⟩ | refine ⟨rfl, ?_⟩ | refine ⟨_, _, rfl, rfl, ?_⟩ | refine iteT ?_ | refine iteF ?_ | refine ⟨(by show (0 : Int) < _; omega), ?_⟩ | refine ⟨(⟨by omega, by omega⟩ : CDiv _ _), ?_⟩ | refine ⟨(⟨by decide, by decide, by decide⟩ : CPow _ _), ?_⟩ | refine ⟨(.inl ⟨by omega, by omega⟩ : CMul _ _), ?_⟩ | refine ⟨(.inr ⟨by omega, by omega⟩ : CMul _ _), ?_⟩ | refine Or.inl ⟨_, rfl, ?_⟩ | refine Or.inr ⟨_, rfl, ?_⟩ | refine ⟨_, _, _, _, true, rfl, .ty _, .base (.str _), kit_ty (by decide +kernel), ?_⟩ | refine ⟨_, _, rfl, ⟨by rw [sizeLine_eq]; omega, rfl⟩, ?_⟩ | refine ⟨_, _, rfl, .inl ⟨_, SqL.of (by assumption), rfl⟩, ?_⟩ | refine ⟨_, _, rfl, .inr ⟨_, SqT.of (by assumption), rfl⟩, ?_⟩))
            refine ite2 (fun h3 => ?_) (fun h3 => ?_)
            · (repeat (first | refine ⟨_, rfl, ?_⟩ | refine ⟨rfl, ?_⟩ | refine ⟨_, _, rfl, rfl, ?_⟩ | refine iteT ?_ | refine iteF ?_ | refine ⟨(by show (0 : Int) < _; omega), ?_⟩ | refine ⟨(⟨by omega, by omega⟩ : CDiv _ _), ?_⟩ | refine ⟨(⟨by decide, by decide, by decide⟩ : CPow _ _), ?_⟩ | refine ⟨(.inl ⟨by omega, by omega⟩ : CMul _ _), ?_⟩ | refine ⟨(.inr ⟨by omega, by omega⟩ : CMul _ _), ?_⟩ | refine Or.inl ⟨_, rfl, ?_⟩ | refine Or.inr ⟨_, rfl, ?_⟩ | refine ⟨_, _, _, _, true, rfl, .ty _, .base (.str _), kit_ty (by decide +kernel), ?_⟩ | refine ⟨_, _, rfl, ⟨by rw [sizeLine_eq]; omega, rfl⟩, ?_⟩ | refine ⟨_, _, rfl, .inl ⟨_, SqL.of (by assumption), rfl⟩, ?_⟩ | refine ⟨_, _, rfl, .inr ⟨_, SqT.of (by assumption), rfl⟩, ?_⟩))
              rw [from_a] at h3
              exact fin _ (by rw [to_z]; unfold isLow; rw [h3]; rfl)
            · (repeat (first | refine ⟨_, rfl, ?_⟩ | refine ⟨rfl, ?_⟩ | refine ⟨_, _, rfl, rfl, ?_⟩ | refine iteT ?_ | refine iteF ?_ | refine ⟨(by show (0 : Int) < _; omega), ?_⟩ | refine ⟨(⟨by omega, by omega⟩ : CDiv _ _), ?_⟩ | refine ⟨(⟨by decide, by decide, by decide⟩ : CPow _ _), ?_⟩ | refine ⟨(.inl ⟨by omega, by omega⟩ : CMul _ _), ?_⟩ | refine ⟨(.inr ⟨by omega, by omega⟩ : CMul _ _), ?_⟩ | refine Or.inl ⟨_, rfl, ?_⟩ | refine Or.inr ⟨_, rfl, ?_⟩ | refine ⟨_, _, _, _, true, rfl, .ty _, .base (.str _), kit_ty (by decide +kernel), ?_⟩ | refine ⟨_, _, rfl, ⟨by rw [sizeLine_eq]; omega, rfl⟩, ?_⟩ | refine ⟨_, _, rfl, .inl ⟨_, SqL.of (by assumption), rfl⟩, ?_⟩ | refine ⟨_, _, rfl, .inr ⟨_, SqT.of (by assumption), rfl⟩, ?_⟩))
              rw [from_a] at h3
              have h4 : decide (97 ≤ c) = false := by simpa using h3
              exact fin _ (by unfold isLow; rw [h4]; rfl)
          · rintro H1 ⟨s1, hD⟩
            refine ⟨D, _, rfl, SqL.of hD, ?_⟩
            have e := k H1 s1
            rw [isNm_true (by have := of_decide_eq_true h1; omega) (by omega)] at e
            rw [List.take_of_length_le (by simp)]
            exact e
        · rw [decide_eq_false h2]
          (repeat (first | refine ⟨_, rfl, ?_⟩ | refine ⟨rfl, ?_⟩ | refine ⟨_, _, rfl, rfl, ?_⟩ | refine iteT ?_ | refine iteF ?_ | refine ⟨(by show (0 : Int) < _; omega), ?_⟩ | refine ⟨(⟨by omega, by omega⟩ : CDiv _ _), ?_⟩ | refine ⟨(⟨by decide, by decide, by decide⟩ : CPow _ _), ?_⟩ | refine ⟨(.inl ⟨by omega, by omega⟩ : CMul _ _), ?_⟩ | refine ⟨(.inr ⟨by omega, by omega⟩ : CMul _ _), ?_⟩ | refine Or.inl ⟨_, rfl, ?_⟩ | refine Or.inr ⟨_, rfl, ?_⟩ | refine ⟨_, _, _, _, true, rfl, .ty _, .base (.str _), kit_ty (by decide +kernel), ?_⟩ | refine ⟨_, _, rfl, ⟨by rw [sizeLine_eq]; omega, rfl⟩, ?_⟩ | refine ⟨_, _, rfl, .inl ⟨_, SqL.of (by assumption), rfl⟩, ?_⟩ | refine ⟨_, _, rfl, .inr ⟨_, SqT.of (by assumption), rfl⟩, ?_⟩))
          have e := k H (Same.refl H)
          rw [isNm_no (by simp at h1; omega)] at e
          exact e
      · (repeat (first | refine ⟨_, rfl, ?_⟩ | refine ⟨rfl, ?_⟩ | refine ⟨_, _, rfl, rfl, ?_⟩ | refine iteT ?_ | refine iteF ?_ | refine ⟨(by show (0 : Int) < _; omega), ?_⟩ | refine ⟨(⟨by omega, by omega⟩ : CDiv _ _), ?_⟩ | refine ⟨(⟨by decide, by decide, by decide⟩ : CPow _ _), ?_⟩ | refine ⟨(.inl ⟨by omega, by omega⟩ : CMul _ _), ?_⟩ | refine ⟨(.inr ⟨by omega, by omega⟩ : CMul _ _), ?_⟩ | refine Or.inl ⟨_, rfl, ?_⟩ | refine Or.inr ⟨_, rfl, ?_⟩ | refine ⟨_, _, _, _, true, rfl, .ty _, .base (.str _), kit_ty (by decide +kernel), ?_⟩ | refine ⟨_, _, rfl, ⟨by rw [sizeLine_eq]; omega, rfl⟩, ?_⟩ | refine ⟨_, _, rfl, .inl ⟨_, SqL.of (by assumption), rfl⟩, ?_⟩ | refine ⟨_, _, rfl, .inr ⟨_, SqT.of (by assumption), rfl⟩, ?_⟩))
        have e := k H (Same.refl H)
        rw [isNm_no (by simp at h1; omega)] at e
        exact e
theorem at_is_name (T : Txt K mg A) : C8.CalAt P w K mg base 1 A.f_is_name (spIsNameO K) := by
  have c := cal_is_name (P := P) (w := w) (base := base) T
  obtain ⟨f, fd, ps, ds, F, hm, kp, b, d⟩ := c.ex
  have e := hm.symm.trans T.d_is_name.mgf
  cases e
  cases d
  exact ⟨fd, ps, F, kp, b⟩
theorem cal_is_integer (T : Txt K mg A) : Cal P w K mg base 1 "is_integer" (spInt K) [] := by
  refine cal0 T.d_is_integer T.b_is_integer .nil sc_is_integer (fun vs H Q E h => ?_) (fun cdv B outer s H vs Q E hr h => ?_)
  · obtain ⟨v, o, rfl, _⟩ := h
    rfl
  · obtain ⟨v, o, rfl, hv, k⟩ := h
    refine ⟨_, (pss_one (ps_ret (pe_and (pe_callB (isiK K) (by rfl) T.z_isinstance (by decide +kernel) (pa_cons (pv 0) (pa_cons (pe_bltn (v := .ty "int") (by rfl) T.z_int (by decide +kernel) rfl) pa_nil))) (pe_one (pe_not (pe_callB (isiK K) (by rfl) T.z_isinstance (by decide +kernel) (pa_cons (pv 0) (pa_cons (pe_bltn (v := .ty "bool") (by rfl) T.z_bool (by decide +kernel) rfl) pa_nil)))))))), ?_⟩
    (repeat (first | refine ⟨_, rfl, ?_⟩ | refine ⟨rfl, ?_⟩ | refine ⟨_, _, rfl, rfl, ?_⟩ | refine iteT ?_ | refine iteF ?_ | refine ⟨(by show (0 : Int) < _; omega), ?_⟩ | refine ⟨(⟨by omega, by omega⟩ : CDiv _ _), ?_⟩ | refine ⟨(⟨by decide, by decide, by decide⟩ : CPow _ _), ?_⟩ | refine ⟨(.inl ⟨by omega, by omega⟩ : CMul _ _), ?_⟩ | refine ⟨(.inr ⟨by omega, by omega⟩ : CMul _ _), ?_⟩ | refine Or.inl ⟨_, rfl, ?_⟩ | refine Or.inr ⟨_, rfl, ?_⟩ | refine ⟨_, _, _, _, true, rfl, .ty _, .base (.str _), kit_ty (by decide +kernel), ?_⟩ | refine ⟨_, _, rfl, ⟨by rw [sizeLine_eq]; omega, rfl⟩, ?_⟩ | refine ⟨_, _, rfl, .inl ⟨_, SqL.of (by assumption), rfl⟩, ?_⟩ | refine ⟨_, _, rfl, .inr ⟨_, SqT.of (by assumption), rfl⟩, ?_⟩))
    cases hv with
    | int i =>
      refine ⟨_, _, _, _, true, rfl, .ty _, .base (.int i), kit_ty (by decide +kernel), ?_⟩
      (repeat (first | refine ⟨_, rfl, ?_⟩ | refine ⟨rfl, ?_⟩ | refine ⟨_, _, rfl, rfl, ?_⟩ | refine iteT ?_ | refine iteF ?_ | refine ⟨(by show (0 : Int) < _; omega), ?_⟩ | refine ⟨(⟨by omega, by omega⟩ : CDiv _ _), ?_⟩ | refine ⟨(⟨by decide, by decide, by decide⟩ : CPow _ _), ?_⟩ | refine ⟨(.inl ⟨by omega, by omega⟩ : CMul _ _), ?_⟩ | refine ⟨(.inr ⟨by omega, by omega⟩ : CMul _ _), ?_⟩ | refine Or.inl ⟨_, rfl, ?_⟩ | refine Or.inr ⟨_, rfl, ?_⟩ | refine ⟨_, _, _, _, true, rfl, .ty _, .base (.str _), kit_ty (by decide +kernel), ?_⟩ | refine ⟨_, _, rfl, ⟨by rw [sizeLine_eq]; omega, rfl⟩, ?_⟩ | refine ⟨_, _, rfl, .inl ⟨_, SqL.of (by assumption), rfl⟩, ?_⟩ | refine ⟨_, _, rfl, .inr ⟨_, SqT.of (by assumption), rfl⟩, ?_⟩))
      refine ⟨_, _, _, _, false, rfl, .ty _, .base (.int i), kit_ty (by decide +kernel), ?_⟩
      (repeat (first | refine ⟨_, rfl, ?_⟩ | refine ⟨rfl, ?_⟩ | refine ⟨_, _, rfl, rfl, ?_⟩ | refine iteT ?_ | refine iteF ?_ | refine ⟨(by show (0 : Int) < _; omega), ?_⟩ | refine ⟨(⟨by omega, by omega⟩ : CDiv _ _), ?_⟩ | refine ⟨(⟨by decide, by decide, by decide⟩ : CPow _ _), ?_⟩ | refine ⟨(.inl ⟨by omega, by omega⟩ : CMul _ _), ?_⟩ | refine ⟨(.inr ⟨by omega, by omega⟩ : CMul _ _), ?_⟩ | refine Or.inl ⟨_, rfl, ?_⟩ | refine Or.inr ⟨_, rfl, ?_⟩ | refine ⟨_, _, _, _, true, rfl, .ty _, .base (.str _), kit_ty (by decide +kernel), ?_⟩ | refine ⟨_, _, rfl, ⟨by rw [sizeLine_eq]; omega, rfl⟩, ?_⟩ | refine ⟨_, _, rfl, .inl ⟨_, SqL.of (by assumption), rfl⟩, ?_⟩ | refine ⟨_, _, rfl, .inr ⟨_, SqT.of (by assumption), rfl⟩, ?_⟩))
      exact k H (Same.refl H)
    | bl b =>
      refine ⟨_, _, _, _, true, rfl, .ty _, .base (.bl b), kit_ty (by decide +kernel), ?_⟩
      (repeat (first | refine ⟨_, rfl, ?_⟩ | refine ⟨rfl, ?_⟩ | refine ⟨_, _, rfl, rfl, ?_⟩ | refine iteT ?_ | refine iteF ?_ | refine ⟨(by show (0 : Int) < _; omega), ?_⟩ | refine ⟨(⟨by omega, by omega⟩ : CDiv _ _), ?_⟩ | refine ⟨(⟨by decide, by decide, by decide⟩ : CPow _ _), ?_⟩ | refine ⟨(.inl ⟨by omega, by omega⟩ : CMul _ _), ?_⟩ | refine ⟨(.inr ⟨by omega, by omega⟩ : CMul _ _), ?_⟩ | refine Or.inl ⟨_, rfl, ?_⟩ | refine Or.inr ⟨_, rfl, ?_⟩ | refine ⟨_, _, _, _, true, rfl, .ty _, .base (.str _), kit_ty (by decide +kernel), ?_⟩ | refine ⟨_, _, rfl, ⟨by rw [sizeLine_eq]; omega, rfl⟩, ?_⟩ | refine ⟨_, _, rfl, .inl ⟨_, SqL.of (by assumption), rfl⟩, ?_⟩ | refine ⟨_, _, rfl, .inr ⟨_, SqT.of (by assumption), rfl⟩, ?_⟩))
      refine ⟨_, _, _, _, true, rfl, .ty _, .base (.bl b), kit_ty (by decide +kernel), ?_⟩
      (repeat (first | refine ⟨_, rfl, ?_⟩ | refine ⟨rfl, ?_⟩ | refine ⟨_, _, rfl, rfl, ?_⟩ | refine iteT ?_ | refine iteF ?_ | refine ⟨(by show (0 : Int) < _; omega), ?_⟩ | refine ⟨(⟨by omega, by omega⟩ : CDiv _ _), ?_⟩ | refine ⟨(⟨by decide, by decide, by decide⟩ : CPow _ _), ?_⟩ | refine ⟨(.inl ⟨by omega, by omega⟩ : CMul _ _), ?_⟩ | refine ⟨(.inr ⟨by omega, by omega⟩ : CMul _ _), ?_⟩ | refine Or.inl ⟨_, rfl, ?_⟩ | refine Or.inr ⟨_, rfl, ?_⟩ | refine ⟨_, _, _, _, true, rfl, .ty _, .base (.str _), kit_ty (by decide +kernel), ?_⟩ | refine ⟨_, _, rfl, ⟨by rw [sizeLine_eq]; omega, rfl⟩, ?_⟩ | refine ⟨_, _, rfl, .inl ⟨_, SqL.of (by assumption), rfl⟩, ?_⟩ | refine ⟨_, _, rfl, .inr ⟨_, SqT.of (by assumption), rfl⟩, ?_⟩))
      exact k H (Same.refl H)
    | no ty kt =>
      refine ⟨_, _, _, _, false, rfl, .ty _, ty, kt, ?_⟩
      (repeat (first | refine ⟨_, rfl, ?_⟩ | refine ⟨rfl, ?_⟩ | refine ⟨_, _, rfl, rfl, ?_⟩ | refine iteT ?_ | refine iteF ?_ | refine ⟨(by show (0 : Int) < _; omega), ?_⟩ | refine ⟨(⟨by omega, by omega⟩ : CDiv _ _), ?_⟩ | refine ⟨(⟨by decide, by decide, by decide⟩ : CPow _ _), ?_⟩ | refine ⟨(.inl ⟨by omega, by omega⟩ : CMul _ _), ?_⟩ | refine ⟨(.inr ⟨by omega, by omega⟩ : CMul _ _), ?_⟩ | refine Or.inl ⟨_, rfl, ?_⟩ | refine Or.inr ⟨_, rfl, ?_⟩ | refine ⟨_, _, _, _, true, rfl, .ty _, .base (.str _), kit_ty (by decide +kernel), ?_⟩ | refine ⟨_, _, rfl, ⟨by rw [sizeLine_eq]; omega, rfl⟩, ?_⟩ | refine ⟨_, _, rfl, .inl ⟨_, SqL.of (by assumption), rfl⟩, ?_⟩ | refine ⟨_, _, rfl, .inr ⟨_, SqT.of (by assumption), rfl⟩, ?_⟩))
      exact k H (Same.refl H)
end
section
variable {P : Program} {w : World} {K : PySem.W.Frag} {mg : Str → Option Value} {base : Heap} {A : Ad}
theorem cal_first_wrong (T : Txt K mg A) : Cal P w K mg base 2 "first_wrong" (spFirstO K A.f_is_name) [] := by
  refine cal0 T.d_first_wrong T.b_first_wrong .nil sc_first_wrong (fun vs H Q E h => ?_) (fun cdv B outer s H vs Q E hr h => ?_)
  · obtain ⟨a, xs, os, rfl, _⟩ := h
    rfl
  · obtain ⟨a, vs, os, rfl, ha, he, hl, hx, k⟩ := h
    refine ⟨_, (pss_cons (ps_set (i := 2) sc_first_wrong.nd rfl (by first | exact Or.inl rfl | exact Or.inr rfl) (pe_callTy0 cr_set0K (by rfl) T.z_set (by decide +kernel)))
 (pss_cons (ps_for PassesOwn.never rfl (pi_enum (by rfl) T.z_enumerate (pa_cons (pv 0) pa_nil)) (pg_tup (by rfl) (pgs_cons (pg_name (i := 3) sc_first_wrong.nd rfl (by first | exact Or.inl rfl | exact Or.inr rfl)) (pgs_cons (pg_name (i := 4) sc_first_wrong.nd rfl (by first | exact Or.inl rfl | exact Or.inr rfl)) pgs_nil))) (pss_cons (ps_if (PW.pt (pw_or (pt_not (pt_val (pe_cl (i := 1) (at_is_name T) hr (by decide) rfl (by first | exact Or.inl rfl | exact Or.inr (Or.inl rfl) | exact Or.inr (Or.inr rfl)) (pa_cons (pv 4) pa_nil)))) (pw_or1 (pt_cmpR or_sinK (pv 4) (pv 2) rfl)))) (pss_one (ps_ret (pv 3))) pss_nil)
 (pss_one (ps_expr (pe_saddK (pv 2) (pa_cons (pv 4) pa_nil))))))
 (pss_one (ps_ret pe_non)))), ?_⟩
    obtain ⟨good, hg⟩ : ∃ g : Str → Bool, isNm = g := ⟨_, rfl⟩
    rw [hg] at k
    obtain ⟨fA, hfA⟩ : ∃ f, f = A.f_is_name := ⟨_, rfl⟩
    rw [← hfA]
    refine ⟨rfl, fun se nse => ?_⟩
    have s0 : Same H (upd H se (SetK P w se (fun _ => false) 0)) := Same.new nse
    (repeat (first | refine ⟨_, rfl, ?_⟩ | refine ⟨rfl, ?_⟩ | refine ⟨_, _, rfl, rfl, ?_⟩ | refine iteT ?_ | refine iteF ?_ | refine ⟨(by show (0 : Int) < _; omega), ?_⟩ | refine ⟨(⟨by omega, by omega⟩ : CDiv _ _), ?_⟩ | refine ⟨(⟨by decide, by decide, by decide⟩ : CPow _ _), ?_⟩ | refine ⟨(.inl ⟨by omega, by omega⟩ : CMul _ _), ?_⟩ | refine ⟨(.inr ⟨by omega, by omega⟩ : CMul _ _), ?_⟩ | refine Or.inl ⟨_, rfl, ?_⟩ | refine Or.inr ⟨_, rfl, ?_⟩ | refine ⟨_, _, _, _, true, rfl, .ty _, .base (.str _), kit_ty (by decide +kernel), ?_⟩ | refine ⟨_, _, rfl, ⟨by rw [sizeLine_eq]; omega, rfl⟩, ?_⟩ | refine ⟨_, _, rfl, .inl ⟨_, SqL.of (by assumption), rfl⟩, ?_⟩ | refine ⟨_, _, rfl, .inr ⟨_, SqT.of (by assumption), rfl⟩, ?_⟩))
    refine ⟨a, _, rfl, SqL.of (s0 _ _ ha), for_it walk_enum (fun i σ H' => ∃ (S : Key → Bool) (n : Nat) (v3 v4 : Option V), σ = [some (.ref a), some (.ref fA), some (.ref se), v3, v4] ∧ Same H H' ∧ H' se = some (SetK P w se S n) ∧ n ≤ i ∧ (∀ x, S (.inr x) = decide (some x ∈ os.take i)) ∧ ∀ j, j < i → okO good os j = true)
      ⟨_, 0, _, _, rfl, s0, upd_same, Nat.le_refl _, fun x => by simp, fun j hj => absurd hj (Nat.not_lt_zero _)⟩ (fun i σ H' _ ⟨_, _, _, _, _, s1, _⟩ => SqL.of (s1 _ _ ha)) ?_ ?_⟩
    · rintro i v σ H1 H2 hi ⟨S, n, v3, v4, rfl, s1, hS, hn, hmem, hok⟩ ⟨tp, y1, y2, rfl, ntp, rfl, e1, e2⟩
      have e2 : vs[i]? = some y2 := e2
      obtain ⟨o, ho, hio⟩ := paired_at he e2
      have hi2 : i < os.length := (List.getElem?_eq_some_iff.mp ho).1
      cases Option.some.inj e1
      have s2 : Same H (upd H1 tp (.tup [V.int (i : Nat), y2])) := fun b o e => by rw [upd_ne (ne_of_none (s1 _ _ e) ntp)]; exact s1 _ _ e
      have ne : se ≠ tp := ne_of_none hS ntp
      have s2' : Same H1 (upd H1 tp (.tup [V.int (i : Nat), y2])) := Same.new ntp
      have hio2 : IsS K (upd H1 tp (.tup [V.int (i : Nat), y2])) y2 o := hio.same s2
      refine ⟨tp, _, rfl, SqT.of upd_same, rfl, _, _, rfl, _, _, rfl, rfl, rfl, _, rfl, ?_⟩
      refine ⟨y2, o, rfl, hio2, fun x e => hx x (by rw [← e]; exact List.mem_of_getElem? ho), fun H3 s3 => ?_⟩
      rw [hg]
      have s4 : Same H H3 := s2.trans s3
      have hS3 : H3 se = some (SetK P w se S n) := s3 _ _ (Eq.trans (upd_ne ne) hS)
      refine ⟨_, rfl, ?_⟩
      cases hnm : fitO good o with
      | false =>
        (repeat (first | refine ⟨_, rfl, ?_⟩ | refine ⟨rfl, ?_⟩ | refine ⟨_, _, rfl, rfl, ?_⟩ | refine iteT ?_ | refine iteF ?_ | refine ⟨(by show (0 : Int) < _; omega), ?_⟩ | refine ⟨(⟨by omega, by omega⟩ : CDiv _ _), ?_⟩ | refine ⟨(⟨by decide, by decide, by decide⟩ : CPow _ _), ?_⟩ | refine ⟨(.inl ⟨by omega, by omega⟩ : CMul _ _), ?_⟩ | refine ⟨(.inr ⟨by omega, by omega⟩ : CMul _ _), ?_⟩ | refine Or.inl ⟨_, rfl, ?_⟩ | refine Or.inr ⟨_, rfl, ?_⟩ | refine ⟨_, _, _, _, true, rfl, .ty _, .base (.str _), kit_ty (by decide +kernel), ?_⟩ | refine ⟨_, _, rfl, ⟨by rw [sizeLine_eq]; omega, rfl⟩, ?_⟩ | refine ⟨_, _, rfl, .inl ⟨_, SqL.of (by assumption), rfl⟩, ?_⟩ | refine ⟨_, _, rfl, .inr ⟨_, SqT.of (by assumption), rfl⟩, ?_⟩))
        have e : fwO good os = some i := fwO_some hi2 (by unfold okO; rw [ho]; simp [hnm]) hok
        have q := k H3 s4
        unfold fwVO at q
        rw [e] at q
        exact q
      | true =>
        cases hio with
        | no ty kt => cases hnm
        | str x =>
          refine ⟨_, rfl, _, rfl, .inr x, se, S, n, rfl, rfl, hS3, _, rfl, ?_⟩
          have ei : (if false = true then !S (Sum.inr x) else S (Sum.inr x)) = decide (some x ∈ os.take i) := by rw [if_neg Bool.false_ne_true, hmem]
          by_cases hin : some x ∈ os.take i
          · rw [ei, decide_eq_true hin]
            (repeat (first | refine ⟨_, rfl, ?_⟩ | refine ⟨rfl, ?_⟩ | refine ⟨_, _, rfl, rfl, ?_⟩ | refine iteT ?_ | refine iteF ?_ | refine ⟨(by show (0 : Int) < _; omega), ?_⟩ | refine ⟨(⟨by omega, by omega⟩ : CDiv _ _), ?_⟩ | refine ⟨(⟨by decide, by decide, by decide⟩ : CPow _ _), ?_⟩ | refine ⟨(.inl ⟨by omega, by omega⟩ : CMul _ _), ?_⟩ | refine ⟨(.inr ⟨by omega, by omega⟩ : CMul _ _), ?_⟩ | refine Or.inl ⟨_, rfl, ?_⟩ | refine Or.inr ⟨_, rfl, ?_⟩ | refine ⟨_, _, _, _, true, rfl, .ty _, .base (.str _), kit_ty (by decide +kernel), ?_⟩ | refine ⟨_, _, rfl, ⟨by rw [sizeLine_eq]; omega, rfl⟩, ?_⟩ | refine ⟨_, _, rfl, .inl ⟨_, SqL.of (by assumption), rfl⟩, ?_⟩ | refine ⟨_, _, rfl, .inr ⟨_, SqT.of (by assumption), rfl⟩, ?_⟩))
            have e : fwO good os = some i := fwO_some hi2 (by unfold okO; rw [ho]; simp [hnm, hin]) hok
            have q := k H3 s4
            unfold fwVO at q
            rw [e] at q
            exact q
          · rw [ei, decide_eq_false hin]
            refine iteF ⟨_, rfl, ⟨se, S, n, rfl, hS3⟩, _, rfl, se, .inr x, S, n, rfl, rfl, hS3, ?_, _, _, _, _, rfl, fun b o e => ?_, upd_same, ?_, fun y => ?_, fun j hj => ?_⟩
            · have : (1001 : Nat) < scanBound := by decide
              omega
            · rw [upd_ne (ne_of_none e nse)]
              exact s4 _ _ e
            · split <;> omega
            · rw [List.take_succ, ho, hmem]
              by_cases hy : y = x
              · subst hy
                simp
              · simp [hy]
            · by_cases e : j = i
              · subst e
                unfold okO
                rw [ho]
                simp [hnm, hin]
              · exact hok j (by omega)
    · rintro σ H1 ⟨S, n, v3, v4, rfl, s1, hS, hn, hmem, hok⟩
      rw [he.length] at hok
      have q := k H1 s1
      unfold fwVO at q
      rw [fwO_none (fun j hj => hok j hj)] at q
      exact q
end
theorem fw_gives {X : Cx} {A : Ad} (T : Txt X.K X.mg A) (cdv : Value) (good : Str → Bool) (q : Str) : GivesL X N_first_wrong "first_wrong" (fnScope s_first_wrong) A.f_first_wrong cdv (fnBody s_first_wrong) 4 1 "fits" q (TTfw X.K good) := by
  intro u fA c' s H Q tl act hr hc h
  obtain ⟨a, vs, os, rfl, ha, he, hl, hx, htl, k⟩ := h
  refine ⟨_, (pss_cons (ps_set (i := 2) sc_first_wrong.nd rfl (by first | exact Or.inl rfl | exact Or.inr rfl) (pe_callTy0 cr_set0K (by rfl) T.z_set (by decide +kernel)))
 (pss_cons (ps_for PassesOwn.never rfl (pi_enum (by rfl) T.z_enumerate (pa_cons (pv 0) pa_nil)) (pg_tup (by rfl) (pgs_cons (pg_name (i := 3) sc_first_wrong.nd rfl (by first | exact Or.inl rfl | exact Or.inr rfl)) (pgs_cons (pg_name (i := 4) sc_first_wrong.nd rfl (by first | exact Or.inl rfl | exact Or.inr rfl)) pgs_nil))) (pss_cons (ps_if (PW.pt (pw_or (pt_not (pt_val (act (pa_cons (pv 4) pa_nil) rfl rfl))) (pw_or1 (pt_cmpR or_sinK (pv 4) (pv 2) rfl)))) (pss_one (ps_ret (pv 3))) pss_nil)
 (pss_one (ps_expr (pe_saddK (pv 2) (pa_cons (pv 4) pa_nil))))))
 (pss_one (ps_ret pe_non)))), ?_⟩
  refine ⟨rfl, fun se nse => ?_⟩
  have s0 : Same H (upd H se (SetK X.prog X.w se (fun _ => false) 0)) := Same.new nse
  (repeat (first | refine ⟨_, rfl, ?_⟩ | refine ⟨rfl, ?_⟩ | refine ⟨_, _, rfl, rfl, ?_⟩ | refine iteT ?_ | refine iteF ?_ | refine ⟨(by show (0 : Int) < _; omega), ?_⟩ | refine ⟨(⟨by omega, by omega⟩ : CDiv _ _), ?_⟩ | refine ⟨(⟨by decide, by decide, by decide⟩ : CPow _ _), ?_⟩ | refine ⟨(.inl ⟨by omega, by omega⟩ : CMul _ _), ?_⟩ | refine ⟨(.inr ⟨by omega, by omega⟩ : CMul _ _), ?_⟩ | refine Or.inl ⟨_, rfl, ?_⟩ | refine Or.inr ⟨_, rfl, ?_⟩ | refine ⟨_, _, _, _, true, rfl, .ty _, .base (.str _), kit_ty (by decide +kernel), ?_⟩ | refine ⟨_, _, rfl, ⟨by rw [sizeLine_eq]; omega, rfl⟩, ?_⟩ | refine ⟨_, _, rfl, .inl ⟨_, SqL.of (by assumption), rfl⟩, ?_⟩ | refine ⟨_, _, rfl, .inr ⟨_, SqT.of (by assumption), rfl⟩, ?_⟩))
  refine ⟨a, _, rfl, SqL.of (s0 _ _ ha), for_it walk_enum (fun i σ H' => ∃ (S : Key → Bool) (n : Nat) (v3 v4 : Option V), σ = [some (.ref a), some (.ref fA), some (.ref se), v3, v4] ∧ Same H H' ∧ H' se = some (SetK X.prog X.w se S n) ∧ n ≤ i ∧ (∀ x, S (.inr x) = decide (some x ∈ os.take i)) ∧ ∀ j, j < i → okO good os j = true)
    ⟨_, 0, _, _, rfl, s0, upd_same, Nat.le_refl _, fun x => by simp, fun j hj => absurd hj (Nat.not_lt_zero _)⟩ (fun i σ H' _ ⟨_, _, _, _, _, s1, _⟩ => SqL.of (s1 _ _ ha)) ?_ ?_⟩
  · rintro i v σ H1 H2 hi ⟨S, n, v3, v4, rfl, s1, hS, hn, hmem, hok⟩ ⟨tp, y1, y2, rfl, ntp, rfl, e1, e2⟩
    have e2 : vs[i]? = some y2 := e2
    obtain ⟨o, ho, hio⟩ := paired_at he e2
    have hi2 : i < os.length := (List.getElem?_eq_some_iff.mp ho).1
    cases Option.some.inj e1
    have s2 : Same H (upd H1 tp (.tup [V.int (i : Nat), y2])) := fun b o e => by rw [upd_ne (ne_of_none (s1 _ _ e) ntp)]; exact s1 _ _ e
    have ne : se ≠ tp := ne_of_none hS ntp
    have s2' : Same H1 (upd H1 tp (.tup [V.int (i : Nat), y2])) := Same.new ntp
    have hio2 : IsS X.K (upd H1 tp (.tup [V.int (i : Nat), y2])) y2 o := hio.same s2
    refine ⟨tp, _, rfl, SqT.of upd_same, rfl, _, _, rfl, _, _, rfl, rfl, rfl, _, rfl, ?_⟩
    refine ⟨s2 _ _ hc, htl _ _ _ _ s2 hio2 (List.mem_of_getElem? ho) (fun H3 s3 => ?_)⟩
    have s4 : Same H H3 := s2.trans s3
    have hS3 : H3 se = some (SetK X.prog X.w se S n) := s3 _ _ (Eq.trans (upd_ne ne) hS)
    refine ⟨_, rfl, ?_⟩
    cases hnm : fitO good o with
    | false =>
      (repeat (first | refine ⟨_, rfl, ?_⟩ | refine ⟨rfl, ?_⟩ | refine ⟨_, _, rfl, rfl, ?_⟩ | refine iteT ?_ | refine iteF ?_ | refine ⟨(by show (0 : Int) < _; omega), ?_⟩ | refine ⟨(⟨by omega, by omega⟩ : CDiv _ _), ?_⟩ | refine ⟨(⟨by decide, by decide, by decide⟩ : CPow _ _), ?_⟩ | refine ⟨(.inl ⟨by omega, by omega⟩ : CMul _ _), ?_⟩ | refine ⟨(.inr ⟨by omega, by omega⟩ : CMul _ _), ?_⟩ | refine Or.inl ⟨_, rfl, ?_⟩ | refine Or.inr ⟨_, rfl, ?_⟩ | refine ⟨_, _, _, _, true, rfl, .ty _, .base (.str _), kit_ty (by decide +kernel), ?_⟩ | refine ⟨_, _, rfl, ⟨by rw [sizeLine_eq]; omega, rfl⟩, ?_⟩ | refine ⟨_, _, rfl, .inl ⟨_, SqL.of (by assumption), rfl⟩, ?_⟩ | refine ⟨_, _, rfl, .inr ⟨_, SqT.of (by assumption), rfl⟩, ?_⟩))
      have e : fwO good os = some i := fwO_some hi2 (by unfold okO; rw [ho]; simp [hnm]) hok
      have q := k H3 s4
      unfold fwVO at q
      rw [e] at q
      exact q
    | true =>
      cases hio with
      | no ty kt => cases hnm
      | str x =>
        refine ⟨_, rfl, _, rfl, .inr x, se, S, n, rfl, rfl, hS3, _, rfl, ?_⟩
        have ei : (if false = true then !S (Sum.inr x) else S (Sum.inr x)) = decide (some x ∈ os.take i) := by rw [if_neg Bool.false_ne_true, hmem]
        by_cases hin : some x ∈ os.take i
        · rw [ei, decide_eq_true hin]
          (repeat (first | refine ⟨_, rfl, ?_⟩ | refine ⟨rfl, ?_⟩ | refine ⟨_, _, rfl, rfl, ?_⟩ | refine iteT ?_ | refine iteF ?_ | refine ⟨(by show (0 : Int) < _; omega), ?_⟩ | refine ⟨(⟨by omega, by omega⟩ : CDiv _ _), ?_⟩ | refine ⟨(⟨by decide, by decide, by decide⟩ : CPow _ _), ?_⟩ | refine ⟨(.inl ⟨by omega, by omega⟩ : CMul _ _), ?_⟩ | refine ⟨(.inr ⟨by omega, by omega⟩ : CMul _ _), ?_⟩ | refine Or.inl ⟨_, rfl, ?_⟩ | refine Or.inr ⟨_, rfl, ?_⟩ | refine ⟨_, _, _, _, true, rfl, .ty _, .base (.str _), kit_ty (by decide +kernel), ?_⟩ | refine ⟨_, _, rfl, ⟨by rw [sizeLine_eq]; omega, rfl⟩, ?_⟩ | refine ⟨_, _, rfl, .inl ⟨_, SqL.of (by assumption), rfl⟩, ?_⟩ | refine ⟨_, _, rfl, .inr ⟨_, SqT.of (by assumption), rfl⟩, ?_⟩))
          have e : fwO good os = some i := fwO_some hi2 (by unfold okO; rw [ho]; simp [hnm, hin]) hok
          have q := k H3 s4
          unfold fwVO at q
          rw [e] at q
          exact q
        · rw [ei, decide_eq_false hin]
          refine iteF ⟨_, rfl, ⟨se, S, n, rfl, hS3⟩, _, rfl, se, .inr x, S, n, rfl, rfl, hS3, ?_, _, _, _, _, rfl, fun b o e => ?_, upd_same, ?_, fun y => ?_, fun j hj => ?_⟩
          · have : (1001 : Nat) < scanBound := by decide
            omega
          · rw [upd_ne (ne_of_none e nse)]
            exact s4 _ _ e
          · split <;> omega
          · rw [List.take_succ, ho, hmem]
            by_cases hy : y = x
            · subst hy
              simp
            · simp [hy]
          · by_cases e : j = i
            · subst e
              unfold okO
              rw [ho]
              simp [hnm, hin]
            · exact hok j (by omega)
  · rintro σ H1 ⟨S, n, v3, v4, rfl, s1, hS, hn, hmem, hok⟩
    rw [he.length] at hok
    have q := k H1 s1
    unfold fwVO at q
    rw [fwO_none (fun j hj => hok j hj)] at q
    exact q
end BF47
set_option Elab.async false
set_option linter.all false
set_option maxRecDepth 100000
set_option maxHeartbeats 4000000
namespace BF47
open BF
open PySem PySem.Spec PyProof.Rows L2
open C8 (Cal CalAt Met Mak cal0 met0 mak0 fn0 pe_c pe_mk pe_mt pe_mt0 pe_gc fnScope fnBody fnArgs fnScope_by)
open SX
open LamX (Tabs TabB ExtN CodeO)
open NdefX (NScope envF startF slotAt)
/-- the lambda's name -/
def lamN : Str := ("is_lot" : Str) ++ ".<locals>." ++ "<lambda>"
abbrev tabsL (PL : Addr) : List (Addr × Str) := [(PL, lamN)]
/-- is_lot's code object and its table -/
structure Lk (base : Heap) (mg : Str → Option Value) (A : Ad) (cL PL : Addr) : Prop where
  tb : TabB base mg cL PL
  code : A.fd_is_lot.code = .ref cL
theorem pe_fwL {X : Cx} {A : Ad} {cL PL : Addr} {good : Str → Bool} {N ps fr : List Str} {js : List Nat} {params : Arguments} {body e : Expr} {scope : Scope} {te tb : TE} {p lpos pos : Pos} (T : Txt X.K X.mg A) (L : TabB X.base X.mg cL PL) (hr : Room 5 X.A) (he : PE X e te)
    (hbody : ∀ (A : Around) (outer : List Env) (s : Shared) (H : Hp) (f c' : Addr) (cl : List (Str × Addr)), Room 2 (A.deeper (envF (lamF (X.env.qual ++ "<lambda>") params scope cl c') f s.heap.objs.size)) → PE (lamC X.prog X.w X.K X.mg X.base N (X.env.qual ++ "<lambda>") params scope cl f c' A outer s H) body tb)
    (hcode : X.env.code = .ref cL := by rfl) (hq : X.env.qual ++ "<lambda>" = lamN := by rfl) (hg : Gl X "first_wrong" := by rfl) (hfree : NdefX.ndefB X.env.scope scope fr = true := by rfl) (hjs : js.map (fun j => X.N[j]?) = fr.map some := by rfl) (S : NdefX.nscB N ps fr scope = true := by decide +kernel) (hdef : defaultsOf params X.env = ([], []) := by rfl)
    (hbind : ∀ (q : Str) (cl : List (Str × Addr)) (pm cv ctv : Value) (us : List Value), us.length = ps.length → bindArgs (PySem.W.kla_fn "<lambda>" q params body scope cl pm cv ctv) ⟨us, []⟩ = pure (ps.zip us) := by exact fun _ _ _ _ _ us hl => match us, hl with | [_], _ => rfl)
    (hst : starEach (e :: [.Lambda params body scope lpos]) X.env = (false, eval e X.env) :: starEach [.Lambda params body scope lpos] X.env := by rfl) (hpl : (backTo pos (starEach [.Lambda params body scope lpos] X.env)).any (·.1) = false := by rfl) :
    PE X (.Call (.Name "first_wrong" p) [e, .Lambda params body scope lpos] [] pos) (tLam2 (tabsL PL) N ps js (TTfw X.K good) te tb) := by
  obtain ⟨oc, od, dV, kV, doc, pm, an, cdv, ct, osl, e1, lk, hcd⟩ := T.d_first_wrong.fn.ex
  have bb := T.b_first_wrong
  rw [e1] at bb lk
  exact pe_lam2 (k := 2) (T := tabsL PL) hg T.d_first_wrong.mgf T.d_first_wrong.kp lk hcd bb sc_first_wrong rfl (.inl rfl) (fw_gives T cdv good _) L hcode (by rw [hq]; exact List.mem_cons_self) (fun p hp _ => by rw [List.mem_singleton.mp hp, hq]) hr
    (NdefX.ndef_free hfree) (NdefX.ndef_fr hfree) hjs (NdefX.nscope_by S) hdef hbind he hbody hst hpl
section
variable {P : Program} {w : World} {K : PySem.W.Frag} {mg : Str → Option Value} {base : Heap} {A : Ad} {cL PL : Addr}
theorem cal_is_lot (T : Txt K mg A) (L : Lk base mg A cL PL) : Cal P w K mg base 6 "is_lot" (spIsLot K (tabsL PL)) [] := by
  refine cal0c T.d_is_lot T.b_is_lot L.code sc_is_lot (fun vs H Q E h => ?_) (fun B outer s H vs Q E hr h => ?_)
  · obtain ⟨v, lv, a, things, rfl, _⟩ := h
    rfl
  · obtain ⟨v, lv, a, things, rfl, hv, ha, ht, k⟩ := h
    refine ⟨_, (pss_cons (ps_if (pt_not (pt_val (pe_callB (isiK K) (by rfl) T.z_isinstance (by decide +kernel) (pa_cons (pv 0) (pa_cons (pe_bltn (v := .ty "list") (by rfl) T.z_list (by decide +kernel) rfl) pa_nil))))) (pss_one (ps_ret pe_bl)) pss_nil)
 (pss_one (ps_ret (pe_cmpR op_isN (pe_fwL T L.tb (good := fun x => decide (x ∈ things)) hr (N := ["entry", "things"]) (ps := ["entry"]) (fr := ["things"]) (js := [1]) (pv 0) (fun A outer s H f c' cl hr => (pe_and (pe_callB (isiK K) (by rfl) T.z_isinstance (by decide +kernel) (pa_cons (pv 0) (pa_cons (pe_bltn (v := .ty "str") (by rfl) T.z_str (by decide +kernel) rfl) pa_nil))) (pe_one (pe_cmpR (in_seqK K) (pv 0) (pv 1) rfl))))) pe_non (nomark _))))), ?_⟩
    (repeat (first | refine ⟨_, rfl, ?_⟩ | refine ⟨rfl, ?_⟩ | refine ⟨_, _, rfl, rfl, ?_⟩ | refine iteT ?_ | refine iteF ?_ | refine ⟨(by show (0 : Int) < _; omega), ?_⟩ | refine ⟨(⟨by omega, by omega⟩ : CDiv _ _), ?_⟩ | refine ⟨(⟨by decide, by decide, by decide⟩ : CPow _ _), ?_⟩ | refine ⟨(.inl ⟨by omega, by omega⟩ : CMul _ _), ?_⟩ | refine ⟨(.inr ⟨by omega, by omega⟩ : CMul _ _), ?_⟩ | refine Or.inl ⟨_, rfl, ?_⟩ | refine Or.inr ⟨_, rfl, ?_⟩ | refine ⟨_, _, _, _, true, rfl, .ty _, .base (.str _), kit_ty (by decide +kernel), ?_⟩ | refine ⟨_, _, rfl, ⟨by rw [sizeLine_eq]; omega, rfl⟩, ?_⟩ | refine ⟨_, _, rfl, .inl ⟨_, SqL.of (by assumption), rfl⟩, ?_⟩ | refine ⟨_, _, rfl, .inr ⟨_, SqT.of (by assumption), rfl⟩, ?_⟩))
    cases hv with
    | no ty kt =>
      refine ⟨_, _, _, _, false, rfl, .ty _, ty, kt, ?_⟩
      (repeat (first | refine ⟨_, rfl, ?_⟩ | refine ⟨rfl, ?_⟩ | refine ⟨_, _, rfl, rfl, ?_⟩ | refine iteT ?_ | refine iteF ?_ | refine ⟨(by show (0 : Int) < _; omega), ?_⟩ | refine ⟨(⟨by omega, by omega⟩ : CDiv _ _), ?_⟩ | refine ⟨(⟨by decide, by decide, by decide⟩ : CPow _ _), ?_⟩ | refine ⟨(.inl ⟨by omega, by omega⟩ : CMul _ _), ?_⟩ | refine ⟨(.inr ⟨by omega, by omega⟩ : CMul _ _), ?_⟩ | refine Or.inl ⟨_, rfl, ?_⟩ | refine Or.inr ⟨_, rfl, ?_⟩ | refine ⟨_, _, _, _, true, rfl, .ty _, .base (.str _), kit_ty (by decide +kernel), ?_⟩ | refine ⟨_, _, rfl, ⟨by rw [sizeLine_eq]; omega, rfl⟩, ?_⟩ | refine ⟨_, _, rfl, .inl ⟨_, SqL.of (by assumption), rfl⟩, ?_⟩ | refine ⟨_, _, rfl, .inr ⟨_, SqT.of (by assumption), rfl⟩, ?_⟩))
      have q : Q (.bl false) H := k H (SmT.refl _ H)
      exact q
    | @lst p xs os hp he hl hz _ =>
      have hl : os.length ≤ 1000 := by omega
      refine ⟨_, _, _, _, true, rfl, .ty _, .base (.lst hp), kit_ty (by decide +kernel), ?_⟩
      (repeat (first | refine ⟨_, rfl, ?_⟩ | refine ⟨rfl, ?_⟩ | refine ⟨_, _, rfl, rfl, ?_⟩ | refine iteT ?_ | refine iteF ?_ | refine ⟨(by show (0 : Int) < _; omega), ?_⟩ | refine ⟨(⟨by omega, by omega⟩ : CDiv _ _), ?_⟩ | refine ⟨(⟨by decide, by decide, by decide⟩ : CPow _ _), ?_⟩ | refine ⟨(.inl ⟨by omega, by omega⟩ : CMul _ _), ?_⟩ | refine ⟨(.inr ⟨by omega, by omega⟩ : CMul _ _), ?_⟩ | refine Or.inl ⟨_, rfl, ?_⟩ | refine Or.inr ⟨_, rfl, ?_⟩ | refine ⟨_, _, _, _, true, rfl, .ty _, .base (.str _), kit_ty (by decide +kernel), ?_⟩ | refine ⟨_, _, rfl, ⟨by rw [sizeLine_eq]; omega, rfl⟩, ?_⟩ | refine ⟨_, _, rfl, .inl ⟨_, SqL.of (by assumption), rfl⟩, ?_⟩ | refine ⟨_, _, rfl, .inr ⟨_, SqT.of (by assumption), rfl⟩, ?_⟩))
      refine ⟨ht, fun H2 eN T2 => ?_⟩
      have s2 : SmT (tabsL PL) H H2 := .ext eN T2
      refine ⟨p, xs, os, rfl, s2.keep _ _ rfl hp, Paired.imp (fun _ _ q => q.sm s2) he, hl, hz, fun v o H' Q' s3 hv _ hQ => ?_, fun H' s3 => ?_⟩
      · have ha3 : H' a = some (.lst (things.map V.str)) := s3 _ _ (s2.keep _ _ rfl ha)
        refine ⟨rfl, ?_⟩
        cases hv with
        | no ty kt => exact ⟨_, rfl, _, _, _, _, false, rfl, .ty _, ty, kt, _, rfl, iteF (hQ H' (Same.refl _))⟩
        | str z =>
          refine ⟨_, rfl, _, _, _, _, true, rfl, .ty _, .base (.str _), kit_ty (by decide +kernel), _, rfl, iteT ⟨_, rfl, _, rfl, a, _, rfl, .inl (SqL.of ha3), rfl, flat_strs things, ?_⟩⟩
          rw [if_neg (by decide), inV_strs]
          exact hQ H' (Same.refl _)
      · have q : Q (.bl (fwO (fun x => decide (x ∈ things)) os).isNone) H' := k H' (s2.trans (.of s3))
        unfold fwVO
        cases e : fwO (fun x => decide (x ∈ things)) os with
        | none =>
          rw [e] at q
          (repeat (first | refine ⟨_, rfl, ?_⟩ | refine ⟨rfl, ?_⟩ | refine ⟨_, _, rfl, rfl, ?_⟩ | refine iteT ?_ | refine iteF ?_ | refine ⟨(by show (0 : Int) < _; omega), ?_⟩ | refine ⟨(⟨by omega, by omega⟩ : CDiv _ _), ?_⟩ | refine ⟨(⟨by decide, by decide, by decide⟩ : CPow _ _), ?_⟩ | refine ⟨(.inl ⟨by omega, by omega⟩ : CMul _ _), ?_⟩ | refine ⟨(.inr ⟨by omega, by omega⟩ : CMul _ _), ?_⟩ | refine Or.inl ⟨_, rfl, ?_⟩ | refine Or.inr ⟨_, rfl, ?_⟩ | refine ⟨_, _, _, _, true, rfl, .ty _, .base (.str _), kit_ty (by decide +kernel), ?_⟩ | refine ⟨_, _, rfl, ⟨by rw [sizeLine_eq]; omega, rfl⟩, ?_⟩ | refine ⟨_, _, rfl, .inl ⟨_, SqL.of (by assumption), rfl⟩, ?_⟩ | refine ⟨_, _, rfl, .inr ⟨_, SqT.of (by assumption), rfl⟩, ?_⟩))
          exact q
        | some k =>
          rw [e] at q
          (repeat (first | refine ⟨_, rfl, ?_⟩ | refine ⟨rfl, ?_⟩ | refine ⟨_, _, rfl, rfl, ?_⟩ | refine iteT ?_ | refine iteF ?_ | refine ⟨(by show (0 : Int) < _; omega), ?_⟩ | refine ⟨(⟨by omega, by omega⟩ : CDiv _ _), ?_⟩ | refine ⟨(⟨by decide, by decide, by decide⟩ : CPow _ _), ?_⟩ | refine ⟨(.inl ⟨by omega, by omega⟩ : CMul _ _), ?_⟩ | refine ⟨(.inr ⟨by omega, by omega⟩ : CMul _ _), ?_⟩ | refine Or.inl ⟨_, rfl, ?_⟩ | refine Or.inr ⟨_, rfl, ?_⟩ | refine ⟨_, _, _, _, true, rfl, .ty _, .base (.str _), kit_ty (by decide +kernel), ?_⟩ | refine ⟨_, _, rfl, ⟨by rw [sizeLine_eq]; omega, rfl⟩, ?_⟩ | refine ⟨_, _, rfl, .inl ⟨_, SqL.of (by assumption), rfl⟩, ?_⟩ | refine ⟨_, _, rfl, .inr ⟨_, SqT.of (by assumption), rfl⟩, ?_⟩))
          exact q
end
end BF47
set_option Elab.async false
set_option linter.all false
set_option maxRecDepth 100000
set_option maxHeartbeats 4000000
namespace BF47
open BF
open PySem PySem.Spec PyProof.Rows L2
open C8 (Cal CalAt Met Mak cal0 met0 mak0 fn0 pe_c pe_mk pe_mt pe_mt0 pe_gc fnScope fnBody fnArgs fnScope_by)
open SX
theorem from_13 (n : Nat) (h : n < (Str.ofString "abcdefghijklm").cps.toList.length) : ∃ c, (Str.ofString "abcdefghijklm").cps.toList[n] = c ∧ 97 ≤ c ∧ c ≤ 109 := by
  have e : (Str.ofString "abcdefghijklm").cps.toList = List.range' 97 13 := by decide +kernel
  refine ⟨_, rfl, ?_⟩
  have m : (Str.ofString "abcdefghijklm").cps.toList[n] ∈ List.range' 97 13 := by rw [← e]; exact List.getElem_mem h
  rw [List.mem_range'_1] at m
  omega
theorem from_4 (n : Nat) (h : n < (Str.ofString "nopz").cps.toList.length) : isLow (Str.ofString "nopz").cps.toList[n] = true := by
  have e : ∀ c ∈ (Str.ofString "nopz").cps.toList, isLow c = true := by decide +kernel
  exact e _ (List.getElem_mem h)
theorem from_9 (n : Nat) (h : n < (Str.ofString "qrstuvwxy").cps.toList.length) : (Str.ofString "qrstuvwxy").cps.toList[n] = 113 + n := by
  have e : (Str.ofString "qrstuvwxy").cps.toList = List.range' 113 9 := by decide +kernel
  have m : (Str.ofString "qrstuvwxy").cps.toList[n]? = (List.range' 113 9)[n]? := by rw [e]
  rw [List.getElem?_eq_getElem h] at m
  have h9 : n < 9 := by rw [e, List.length_range'] at h; exact h
  rw [List.getElem?_eq_getElem (by rw [List.length_range']; exact h9)] at m
  have m := Option.some.inj m
  rw [List.getElem_range'] at m
  omega
/-- a name of the turns ahead of i -/
def NmAt (i : Nat) (x : Str) : Prop := ∃ (c : Nat) (r : List Nat), x = S (c :: r) ∧ r.length ≤ 7 ∧ (∀ d ∈ r, isLow d = true) ∧ ((97 ≤ c ∧ c ≤ 109) ∨ (113 ≤ c ∧ c < 113 + i))
theorem NmAt.mono {i j : Nat} {x : Str} (h : NmAt i x) (hij : i ≤ j) : NmAt j x := by
  obtain ⟨c, r, e, h1, h2, h3⟩ := h
  exact ⟨c, r, e, h1, h2, by omega⟩
theorem NmAt.nm {i : Nat} {x : Str} (h : NmAt i x) (h9 : i ≤ 9) : NmK x := by
  obtain ⟨c, r, rfl, h1, h2, h3⟩ := h
  refine ⟨?_, ?_⟩
  · have e : (S (c :: r)).cps.toList = c :: r := rfl
    unfold isNm
    rw [S_len, e]
    simp only [Bool.and_eq_true, decide_eq_true_eq, List.all_eq_true, List.length_cons]
    refine ⟨⟨by omega, by omega⟩, fun d hd => ?_⟩
    rcases List.mem_cons.mp hd with rfl | hd
    · unfold isLow
      simp only [Bool.and_eq_true, decide_eq_true_eq]
      omega
    · exact h2 d hd
  · show c ≠ 122
    omega
theorem slice_6 (l : List Nat) : Txt.slice (S l) none (some 6) = S (l.take 6) := SX.slice_to (by omega)
theorem sign_S (c : Nat) : (⟨#[c]⟩ : Str) = S [c] := rfl
section
variable {P : Program} {w : World} {K : PySem.W.Frag} {mg : Str → Option Value} {base : Heap} {A : Ad}
theorem cal_law_names (T : Txt K mg A) : Cal P w K mg base 2 "_law_names" spNamesS [] := by
  refine cal0 T.d_law_names T.b_law_names .nil sc_law_names (fun vs H Q E h => ?_) (fun cdv B outer s H vs Q E hr h => ?_)
  · obtain ⟨wl, c, m, rfl, _⟩ := h
    rfl
  · obtain ⟨wl, c, m, rfl, hS, h0, hm, k⟩ := h
    refine ⟨_, (pss_cons (ps_set (i := 2) sc_law_names.nd rfl (by first | exact Or.inl rfl | exact Or.inr rfl) (pe_lst pa_nil))
 (pss_cons (ps_for PassesOwn.never rfl (pi_range1 (by rfl) T.z_range (pa_cons (pv 1) pa_nil)) (pg_name (i := 3) sc_law_names.nd rfl (by first | exact Or.inl rfl | exact Or.inr rfl)) (pss_cons (ps_set (i := 4) sc_law_names.nd rfl (by first | exact Or.inl rfl | exact Or.inr rfl) (pe_ix ix_str pe_str (pe_c (cal_law_draw T) hr (by decide) rfl (pa_cons (pv 0) (pa_cons pe_int pa_nil))) (fun _ _ => rfl)))
 (pss_cons (ps_if (pt_cmpR op_eq (pe_c (cal_law_draw T) hr (by decide) rfl (pa_cons (pv 0) (pa_cons pe_int pa_nil))) pe_int (nomark _)) (pss_one (ps_set (i := 4) sc_law_names.nd rfl (by first | exact Or.inl rfl | exact Or.inr rfl) (pe_op op_add_str (pv 4) (pe_op op_repS (pe_ix ix_str pe_str (pe_c (cal_law_draw T) hr (by decide) rfl (pa_cons (pv 0) (pa_cons pe_int pa_nil))) (fun _ _ => rfl)) (pe_op op_add pe_int (pe_c (cal_law_draw T) hr (by decide) rfl (pa_cons (pv 0) (pa_cons pe_int pa_nil)))))))) pss_nil)
 (pss_cons (ps_if (pt_cmpR (in_seqK K) (pv 4) (pv 2) rfl) (pss_one (ps_set (i := 4) sc_law_names.nd rfl (by first | exact Or.inl rfl | exact Or.inr rfl) (pe_op op_add_str (pe_ix ix_str pe_str (pv 3) (fun _ _ => rfl)) (pe_slice C8.sl_txt (pv 4) po_none (po_some pe_int))))) pss_nil)
 (pss_one (ps_expr (pe_bm PySem.F.plainAttrs_list PySem.F.slot_list_append PySem.F.type_list_append mt_append (pv 2) (pa_cons (pv 4) pa_nil))))))))
 (pss_one (ps_ret (pe_callB (sortedSK K) (by rfl) T.z_sorted (by decide +kernel) (pa_cons (pv 2) pa_nil)))))), ?_⟩
    (repeat (first | refine ⟨_, rfl, ?_⟩ | refine ⟨rfl, ?_⟩ | refine ⟨_, _, rfl, rfl, ?_⟩ | refine iteT ?_ | refine iteF ?_ | refine ⟨(by show (0 : Int) < _; omega), ?_⟩ | refine ⟨(⟨by omega, by omega⟩ : CDiv _ _), ?_⟩ | refine ⟨(⟨by decide, by decide, by decide⟩ : CPow _ _), ?_⟩ | refine ⟨(.inl ⟨by omega, by omega⟩ : CMul _ _), ?_⟩ | refine ⟨(.inr ⟨by omega, by omega⟩ : CMul _ _), ?_⟩ | refine Or.inl ⟨_, rfl, ?_⟩ | refine Or.inr ⟨_, rfl, ?_⟩ | refine ⟨_, _, _, _, true, rfl, .ty _, .base (.str _), kit_ty (by decide +kernel), ?_⟩ | refine ⟨_, _, rfl, ⟨by rw [sizeLine_eq]; omega, rfl⟩, ?_⟩ | refine ⟨_, _, rfl, .inl ⟨_, SqL.of (by assumption), rfl⟩, ?_⟩ | refine ⟨_, _, rfl, .inr ⟨_, SqT.of (by assumption), rfl⟩, ?_⟩))
    refine ⟨Nat.zero_le _, fun f nf => ?_⟩
    have kp0 : KpS wl c H (upd H f (.lst [])) := (KpS.refl wl c H).put hS nf
    have fw := hS.ne nf
    (repeat (first | refine ⟨_, rfl, ?_⟩ | refine ⟨rfl, ?_⟩ | refine ⟨_, _, rfl, rfl, ?_⟩ | refine iteT ?_ | refine iteF ?_ | refine ⟨(by show (0 : Int) < _; omega), ?_⟩ | refine ⟨(⟨by omega, by omega⟩ : CDiv _ _), ?_⟩ | refine ⟨(⟨by decide, by decide, by decide⟩ : CPow _ _), ?_⟩ | refine ⟨(.inl ⟨by omega, by omega⟩ : CMul _ _), ?_⟩ | refine ⟨(.inr ⟨by omega, by omega⟩ : CMul _ _), ?_⟩ | refine Or.inl ⟨_, rfl, ?_⟩ | refine Or.inr ⟨_, rfl, ?_⟩ | refine ⟨_, _, _, _, true, rfl, .ty _, .base (.str _), kit_ty (by decide +kernel), ?_⟩ | refine ⟨_, _, rfl, ⟨by rw [sizeLine_eq]; omega, rfl⟩, ?_⟩ | refine ⟨_, _, rfl, .inl ⟨_, SqL.of (by assumption), rfl⟩, ?_⟩ | refine ⟨_, _, rfl, .inr ⟨_, SqT.of (by assumption), rfl⟩, ?_⟩))
    refine ⟨by omega, by omega, for_it walk_range (fun i σ H' => ∃ (xs : List Str) (v3 v4 : Option V), σ = [some (.ref wl), some (.int m), some (.ref f), v3, v4] ∧ KpS wl c H H' ∧ H' f = some (.lst (xs.map V.str)) ∧ xs.length = i ∧ xs.Nodup ∧ ∀ x ∈ xs, NmAt i x)
      ⟨[], _, _, rfl, kp0, upd_same, rfl, List.nodup_nil, fun x hx => by cases hx⟩ (fun _ _ _ _ _ => True.intro) ?_ ?_⟩
    · rintro i v σ H1 H2 hi ⟨xs, v3, v4, rfl, kp, hF, hlen, hnd, hsh⟩ ⟨rfl, rfl⟩
      have hi9 : i < 9 := by omega
      (repeat (first | refine ⟨_, rfl, ?_⟩ | refine ⟨rfl, ?_⟩ | refine ⟨_, _, rfl, rfl, ?_⟩ | refine iteT ?_ | refine iteF ?_ | refine ⟨(by show (0 : Int) < _; omega), ?_⟩ | refine ⟨(⟨by omega, by omega⟩ : CDiv _ _), ?_⟩ | refine ⟨(⟨by decide, by decide, by decide⟩ : CPow _ _), ?_⟩ | refine ⟨(.inl ⟨by omega, by omega⟩ : CMul _ _), ?_⟩ | refine ⟨(.inr ⟨by omega, by omega⟩ : CMul _ _), ?_⟩ | refine Or.inl ⟨_, rfl, ?_⟩ | refine Or.inr ⟨_, rfl, ?_⟩ | refine ⟨_, _, _, _, true, rfl, .ty _, .base (.str _), kit_ty (by decide +kernel), ?_⟩ | refine ⟨_, _, rfl, ⟨by rw [sizeLine_eq]; omega, rfl⟩, ?_⟩ | refine ⟨_, _, rfl, .inl ⟨_, SqL.of (by assumption), rfl⟩, ?_⟩ | refine ⟨_, _, rfl, .inr ⟨_, SqT.of (by assumption), rfl⟩, ?_⟩))
      refine ⟨wl, c, 13, rfl, kp.st hS, by omega, by omega, fun n1 H3 a1 b1 k1 => ?_⟩
      have hn1 : n1.toNat < (Str.ofString "abcdefghijklm").cps.toList.length := by
        have : (Str.ofString "abcdefghijklm").cps.toList.length = 13 := by decide +kernel
        omega
      refine ⟨_, n1, _, rfl, rfl, (by show 13 ≤ sizeLine; rw [sizeLine_eq]; omega), atN_of a1 hn1, ?_⟩
      obtain ⟨c0, ec, g1, g2⟩ := from_13 _ hn1
      rw [ec, sign_S]
      have kp3 := kp.trans k1
      have hF3 := k1.keep _ _ fw hF
      (repeat (first | refine ⟨_, rfl, ?_⟩ | refine ⟨rfl, ?_⟩ | refine ⟨_, _, rfl, rfl, ?_⟩ | refine iteT ?_ | refine iteF ?_ | refine ⟨(by show (0 : Int) < _; omega), ?_⟩ | refine ⟨(⟨by omega, by omega⟩ : CDiv _ _), ?_⟩ | refine ⟨(⟨by decide, by decide, by decide⟩ : CPow _ _), ?_⟩ | refine ⟨(.inl ⟨by omega, by omega⟩ : CMul _ _), ?_⟩ | refine ⟨(.inr ⟨by omega, by omega⟩ : CMul _ _), ?_⟩ | refine Or.inl ⟨_, rfl, ?_⟩ | refine Or.inr ⟨_, rfl, ?_⟩ | refine ⟨_, _, _, _, true, rfl, .ty _, .base (.str _), kit_ty (by decide +kernel), ?_⟩ | refine ⟨_, _, rfl, ⟨by rw [sizeLine_eq]; omega, rfl⟩, ?_⟩ | refine ⟨_, _, rfl, .inl ⟨_, SqL.of (by assumption), rfl⟩, ?_⟩ | refine ⟨_, _, rfl, .inr ⟨_, SqT.of (by assumption), rfl⟩, ?_⟩))
      refine ⟨wl, c, 3, rfl, kp3.st hS, by omega, by omega, fun n2 H4 a2 b2 k2 => ?_⟩
      have kp4 := kp3.trans k2
      have hF4 := k2.keep _ _ fw hF3
      (repeat (first | refine ⟨_, rfl, ?_⟩ | refine ⟨rfl, ?_⟩ | refine ⟨_, _, rfl, rfl, ?_⟩ | refine iteT ?_ | refine iteF ?_ | refine ⟨(by show (0 : Int) < _; omega), ?_⟩ | refine ⟨(⟨by omega, by omega⟩ : CDiv _ _), ?_⟩ | refine ⟨(⟨by decide, by decide, by decide⟩ : CPow _ _), ?_⟩ | refine ⟨(.inl ⟨by omega, by omega⟩ : CMul _ _), ?_⟩ | refine ⟨(.inr ⟨by omega, by omega⟩ : CMul _ _), ?_⟩ | refine Or.inl ⟨_, rfl, ?_⟩ | refine Or.inr ⟨_, rfl, ?_⟩ | refine ⟨_, _, _, _, true, rfl, .ty _, .base (.str _), kit_ty (by decide +kernel), ?_⟩ | refine ⟨_, _, rfl, ⟨by rw [sizeLine_eq]; omega, rfl⟩, ?_⟩ | refine ⟨_, _, rfl, .inl ⟨_, SqL.of (by assumption), rfl⟩, ?_⟩ | refine ⟨_, _, rfl, .inr ⟨_, SqT.of (by assumption), rfl⟩, ?_⟩))
      refine ite2 (fun c2 => ?_) (fun c2 => ?_)
      · (repeat (first | refine ⟨_, rfl, ?_⟩ | refine ⟨rfl, ?_⟩ | refine ⟨_, _, rfl, rfl, ?_⟩ | refine iteT ?_ | refine iteF ?_ | refine ⟨(by show (0 : Int) < _; omega), ?_⟩ | refine ⟨(⟨by omega, by omega⟩ : CDiv _ _), ?_⟩ | refine ⟨(⟨by decide, by decide, by decide⟩ : CPow _ _), ?_⟩ | refine ⟨(.inl ⟨by omega, by omega⟩ : CMul _ _), ?_⟩ | refine ⟨(.inr ⟨by omega, by omega⟩ : CMul _ _), ?_⟩ | refine Or.inl ⟨_, rfl, ?_⟩ | refine Or.inr ⟨_, rfl, ?_⟩ | refine ⟨_, _, _, _, true, rfl, .ty _, .base (.str _), kit_ty (by decide +kernel), ?_⟩ | refine ⟨_, _, rfl, ⟨by rw [sizeLine_eq]; omega, rfl⟩, ?_⟩ | refine ⟨_, _, rfl, .inl ⟨_, SqL.of (by assumption), rfl⟩, ?_⟩ | refine ⟨_, _, rfl, .inr ⟨_, SqT.of (by assumption), rfl⟩, ?_⟩))
        refine ⟨wl, c, 4, rfl, kp4.st hS, by omega, by omega, fun n3 H5 a3 b3 k3 => ?_⟩
        have hn3 : n3.toNat < (Str.ofString "nopz").cps.toList.length := by
          have : (Str.ofString "nopz").cps.toList.length = 4 := by decide +kernel
          omega
        refine ⟨_, n3, _, rfl, rfl, (by show 4 ≤ sizeLine; rw [sizeLine_eq]; omega), atN_of a3 hn3, ?_⟩
        have low := from_4 _ hn3
        generalize (Str.ofString "nopz").cps.toList[n3.toNat] = c3 at *
        rw [sign_S]
        have kp5 := kp4.trans k3
        (repeat (first | refine ⟨_, rfl, ?_⟩ | refine ⟨rfl, ?_⟩ | refine ⟨_, _, rfl, rfl, ?_⟩ | refine iteT ?_ | refine iteF ?_ | refine ⟨(by show (0 : Int) < _; omega), ?_⟩ | refine ⟨(⟨by omega, by omega⟩ : CDiv _ _), ?_⟩ | refine ⟨(⟨by decide, by decide, by decide⟩ : CPow _ _), ?_⟩ | refine ⟨(.inl ⟨by omega, by omega⟩ : CMul _ _), ?_⟩ | refine ⟨(.inr ⟨by omega, by omega⟩ : CMul _ _), ?_⟩ | refine Or.inl ⟨_, rfl, ?_⟩ | refine Or.inr ⟨_, rfl, ?_⟩ | refine ⟨_, _, _, _, true, rfl, .ty _, .base (.str _), kit_ty (by decide +kernel), ?_⟩ | refine ⟨_, _, rfl, ⟨by rw [sizeLine_eq]; omega, rfl⟩, ?_⟩ | refine ⟨_, _, rfl, .inl ⟨_, SqL.of (by assumption), rfl⟩, ?_⟩ | refine ⟨_, _, rfl, .inr ⟨_, SqT.of (by assumption), rfl⟩, ?_⟩))
        refine ⟨wl, c, 7, rfl, kp5.st hS, by omega, by omega, fun n4 H6 a4 b4 k4 => ?_⟩
        (repeat (first | refine ⟨_, rfl, ?_⟩ | refine ⟨rfl, ?_⟩ | refine ⟨_, _, rfl, rfl, ?_⟩ | refine iteT ?_ | refine iteF ?_ | refine ⟨(by show (0 : Int) < _; omega), ?_⟩ | refine ⟨(⟨by omega, by omega⟩ : CDiv _ _), ?_⟩ | refine ⟨(⟨by decide, by decide, by decide⟩ : CPow _ _), ?_⟩ | refine ⟨(.inl ⟨by omega, by omega⟩ : CMul _ _), ?_⟩ | refine ⟨(.inr ⟨by omega, by omega⟩ : CMul _ _), ?_⟩ | refine Or.inl ⟨_, rfl, ?_⟩ | refine Or.inr ⟨_, rfl, ?_⟩ | refine ⟨_, _, _, _, true, rfl, .ty _, .base (.str _), kit_ty (by decide +kernel), ?_⟩ | refine ⟨_, _, rfl, ⟨by rw [sizeLine_eq]; omega, rfl⟩, ?_⟩ | refine ⟨_, _, rfl, .inl ⟨_, SqL.of (by assumption), rfl⟩, ?_⟩ | refine ⟨_, _, rfl, .inr ⟨_, SqT.of (by assumption), rfl⟩, ?_⟩))
        refine ⟨by omega, by omega, (by rw [S_len]; show 1 ≤ 1000; omega), ?_⟩
        rw [mul_sign c3 (by omega)]
        refine ⟨_, _, rfl, rfl, ?_, ?_⟩
        · rw [S_len, S_len, List.length_replicate, sizeLine_eq]
          show 1 + _ ≤ _
          omega
        rw [S_cat]
        obtain ⟨r, er, hr7, hlow⟩ : ∃ r : List Nat, [c0] ++ List.replicate (1 + n4).toNat c3 = c0 :: r ∧ r.length ≤ 7 ∧ ∀ d ∈ r, isLow d = true := ⟨List.replicate (1 + n4).toNat c3, rfl, by rw [List.length_replicate]; omega, fun d hd => by rw [(List.mem_replicate.mp hd).2]; exact low⟩
        rw [er]
        have kG := kp5.trans k4
        have hFG := k4.keep _ _ fw (k3.keep _ _ fw hF4)
        generalize H6 = G at *
        (repeat (first | refine ⟨_, rfl, ?_⟩ | refine ⟨rfl, ?_⟩ | refine ⟨_, _, rfl, rfl, ?_⟩ | refine iteT ?_ | refine iteF ?_ | refine ⟨(by show (0 : Int) < _; omega), ?_⟩ | refine ⟨(⟨by omega, by omega⟩ : CDiv _ _), ?_⟩ | refine ⟨(⟨by decide, by decide, by decide⟩ : CPow _ _), ?_⟩ | refine ⟨(.inl ⟨by omega, by omega⟩ : CMul _ _), ?_⟩ | refine ⟨(.inr ⟨by omega, by omega⟩ : CMul _ _), ?_⟩ | refine Or.inl ⟨_, rfl, ?_⟩ | refine Or.inr ⟨_, rfl, ?_⟩ | refine ⟨_, _, _, _, true, rfl, .ty _, .base (.str _), kit_ty (by decide +kernel), ?_⟩ | refine ⟨_, _, rfl, ⟨by rw [sizeLine_eq]; omega, rfl⟩, ?_⟩ | refine ⟨_, _, rfl, .inl ⟨_, SqL.of (by assumption), rfl⟩, ?_⟩ | refine ⟨_, _, rfl, .inr ⟨_, SqT.of (by assumption), rfl⟩, ?_⟩))
        refine ⟨f, _, rfl, .inl (SqL.of hFG), rfl, flat_strs xs, ?_⟩
        rw [if_neg (by decide), inV_strs]
        by_cases hin : S (c0 :: r) ∈ xs
        · rw [decide_eq_true hin]
          (repeat (first | refine ⟨_, rfl, ?_⟩ | refine ⟨rfl, ?_⟩ | refine ⟨_, _, rfl, rfl, ?_⟩ | refine iteT ?_ | refine iteF ?_ | refine ⟨(by show (0 : Int) < _; omega), ?_⟩ | refine ⟨(⟨by omega, by omega⟩ : CDiv _ _), ?_⟩ | refine ⟨(⟨by decide, by decide, by decide⟩ : CPow _ _), ?_⟩ | refine ⟨(.inl ⟨by omega, by omega⟩ : CMul _ _), ?_⟩ | refine ⟨(.inr ⟨by omega, by omega⟩ : CMul _ _), ?_⟩ | refine Or.inl ⟨_, rfl, ?_⟩ | refine Or.inr ⟨_, rfl, ?_⟩ | refine ⟨_, _, _, _, true, rfl, .ty _, .base (.str _), kit_ty (by decide +kernel), ?_⟩ | refine ⟨_, _, rfl, ⟨by rw [sizeLine_eq]; omega, rfl⟩, ?_⟩ | refine ⟨_, _, rfl, .inl ⟨_, SqL.of (by assumption), rfl⟩, ?_⟩ | refine ⟨_, _, rfl, .inr ⟨_, SqT.of (by assumption), rfl⟩, ?_⟩))
          have hq : (Str.ofString "qrstuvwxy").cps.toList.length = 9 := by decide +kernel
          have hiq : i < (Str.ofString "qrstuvwxy").cps.toList.length := by omega
          refine ⟨_, _, _, rfl, rfl, (by show 9 ≤ sizeLine; rw [sizeLine_eq]; omega), atN_of (n := 0 + (i : Int)) (by omega) (by omega), ?_⟩
          rw [show (Str.ofString "qrstuvwxy").cps.toList[(0 + (i : Int)).toNat]'(by omega) = 113 + i from (from_9 _ (by omega)).trans (by omega), sign_S]
          (repeat (first | refine ⟨_, rfl, ?_⟩ | refine ⟨rfl, ?_⟩ | refine ⟨_, _, rfl, rfl, ?_⟩ | refine iteT ?_ | refine iteF ?_ | refine ⟨(by show (0 : Int) < _; omega), ?_⟩ | refine ⟨(⟨by omega, by omega⟩ : CDiv _ _), ?_⟩ | refine ⟨(⟨by decide, by decide, by decide⟩ : CPow _ _), ?_⟩ | refine ⟨(.inl ⟨by omega, by omega⟩ : CMul _ _), ?_⟩ | refine ⟨(.inr ⟨by omega, by omega⟩ : CMul _ _), ?_⟩ | refine Or.inl ⟨_, rfl, ?_⟩ | refine Or.inr ⟨_, rfl, ?_⟩ | refine ⟨_, _, _, _, true, rfl, .ty _, .base (.str _), kit_ty (by decide +kernel), ?_⟩ | refine ⟨_, _, rfl, ⟨by rw [sizeLine_eq]; omega, rfl⟩, ?_⟩ | refine ⟨_, _, rfl, .inl ⟨_, SqL.of (by assumption), rfl⟩, ?_⟩ | refine ⟨_, _, rfl, .inr ⟨_, SqT.of (by assumption), rfl⟩, ?_⟩))
          refine ⟨(by rw [S_len, sizeLine_eq]; show r.length + 1 ≤ _; omega), ?_⟩
          rw [slice_6]
          refine ⟨_, _, rfl, rfl, (by rw [S_len, S_len, List.length_take, sizeLine_eq]; show 1 + _ ≤ _; omega), ?_⟩
          rw [S_cat]
          have nm : NmAt (i + 1) (S ([113 + i] ++ (c0 :: r).take 6)) := by
            refine ⟨113 + i, (c0 :: r).take 6, rfl, by rw [List.length_take]; omega, fun d hd => ?_, .inr ⟨by omega, by omega⟩⟩
            rcases List.mem_cons.mp (List.mem_of_mem_take hd) with rfl | hd
            · unfold isLow
              simp only [Bool.and_eq_true, decide_eq_true_eq]
              omega
            · exact hlow d hd
          have hno : S ([113 + i] ++ (c0 :: r).take 6) ∉ xs := fun hm => by
            obtain ⟨c1, r1, e1, _, _, g3⟩ := hsh _ hm
            have e1 := List.cons.inj (S_inj e1)
            have := e1.1
            omega
          generalize S ([113 + i] ++ (c0 :: r).take 6) = nx at *
          (repeat (first | refine ⟨_, rfl, ?_⟩ | refine ⟨rfl, ?_⟩ | refine ⟨_, _, rfl, rfl, ?_⟩ | refine iteT ?_ | refine iteF ?_ | refine ⟨(by show (0 : Int) < _; omega), ?_⟩ | refine ⟨(⟨by omega, by omega⟩ : CDiv _ _), ?_⟩ | refine ⟨(⟨by decide, by decide, by decide⟩ : CPow _ _), ?_⟩ | refine ⟨(.inl ⟨by omega, by omega⟩ : CMul _ _), ?_⟩ | refine ⟨(.inr ⟨by omega, by omega⟩ : CMul _ _), ?_⟩ | refine Or.inl ⟨_, rfl, ?_⟩ | refine Or.inr ⟨_, rfl, ?_⟩ | refine ⟨_, _, _, _, true, rfl, .ty _, .base (.str _), kit_ty (by decide +kernel), ?_⟩ | refine ⟨_, _, rfl, ⟨by rw [sizeLine_eq]; omega, rfl⟩, ?_⟩ | refine ⟨_, _, rfl, .inl ⟨_, SqL.of (by assumption), rfl⟩, ?_⟩ | refine ⟨_, _, rfl, .inr ⟨_, SqT.of (by assumption), rfl⟩, ?_⟩))
          refine ⟨.inl ⟨rfl, _, SqL.of hFG⟩, _, rfl, f, _, _, rfl, rfl, hFG, small1000 (by simp; omega), ?_⟩
          refine ⟨xs ++ [nx], _, _, rfl, kG.put hS nf, by rw [upd_same]; simp, by simp [hlen], ?_, fun x hx => ?_⟩
          · rw [List.nodup_append]
            refine ⟨hnd, by simp, fun a ha b hb e => ?_⟩
            rw [List.mem_singleton.mp hb] at e
            exact hno (e ▸ ha)
          · rcases List.mem_append.mp hx with hx | hx
            · exact (hsh x hx).mono (by omega)
            · rw [List.mem_singleton.mp hx]
              exact nm
        · rw [decide_eq_false hin]
          (repeat (first | refine ⟨_, rfl, ?_⟩ | refine ⟨rfl, ?_⟩ | refine ⟨_, _, rfl, rfl, ?_⟩ | refine iteT ?_ | refine iteF ?_ | refine ⟨(by show (0 : Int) < _; omega), ?_⟩ | refine ⟨(⟨by omega, by omega⟩ : CDiv _ _), ?_⟩ | refine ⟨(⟨by decide, by decide, by decide⟩ : CPow _ _), ?_⟩ | refine ⟨(.inl ⟨by omega, by omega⟩ : CMul _ _), ?_⟩ | refine ⟨(.inr ⟨by omega, by omega⟩ : CMul _ _), ?_⟩ | refine Or.inl ⟨_, rfl, ?_⟩ | refine Or.inr ⟨_, rfl, ?_⟩ | refine ⟨_, _, _, _, true, rfl, .ty _, .base (.str _), kit_ty (by decide +kernel), ?_⟩ | refine ⟨_, _, rfl, ⟨by rw [sizeLine_eq]; omega, rfl⟩, ?_⟩ | refine ⟨_, _, rfl, .inl ⟨_, SqL.of (by assumption), rfl⟩, ?_⟩ | refine ⟨_, _, rfl, .inr ⟨_, SqT.of (by assumption), rfl⟩, ?_⟩))
          have nm : NmAt (i + 1) (S (c0 :: r)) := ⟨c0, r, rfl, hr7, hlow, .inl ⟨g1, g2⟩⟩
          have hno := hin
          generalize S (c0 :: r) = nx at *
          refine ⟨.inl ⟨rfl, _, SqL.of hFG⟩, _, rfl, f, _, _, rfl, rfl, hFG, small1000 (by simp; omega), ?_⟩
          refine ⟨xs ++ [nx], _, _, rfl, kG.put hS nf, by rw [upd_same]; simp, by simp [hlen], ?_, fun x hx => ?_⟩
          · rw [List.nodup_append]
            refine ⟨hnd, by simp, fun a ha b hb e => ?_⟩
            rw [List.mem_singleton.mp hb] at e
            exact hno (e ▸ ha)
          · rcases List.mem_append.mp hx with hx | hx
            · exact (hsh x hx).mono (by omega)
            · rw [List.mem_singleton.mp hx]
              exact nm
      · (repeat (first | refine ⟨_, rfl, ?_⟩ | refine ⟨rfl, ?_⟩ | refine ⟨_, _, rfl, rfl, ?_⟩ | refine iteT ?_ | refine iteF ?_ | refine ⟨(by show (0 : Int) < _; omega), ?_⟩ | refine ⟨(⟨by omega, by omega⟩ : CDiv _ _), ?_⟩ | refine ⟨(⟨by decide, by decide, by decide⟩ : CPow _ _), ?_⟩ | refine ⟨(.inl ⟨by omega, by omega⟩ : CMul _ _), ?_⟩ | refine ⟨(.inr ⟨by omega, by omega⟩ : CMul _ _), ?_⟩ | refine Or.inl ⟨_, rfl, ?_⟩ | refine Or.inr ⟨_, rfl, ?_⟩ | refine ⟨_, _, _, _, true, rfl, .ty _, .base (.str _), kit_ty (by decide +kernel), ?_⟩ | refine ⟨_, _, rfl, ⟨by rw [sizeLine_eq]; omega, rfl⟩, ?_⟩ | refine ⟨_, _, rfl, .inl ⟨_, SqL.of (by assumption), rfl⟩, ?_⟩ | refine ⟨_, _, rfl, .inr ⟨_, SqT.of (by assumption), rfl⟩, ?_⟩))
        obtain ⟨r, er, hr7, hlow⟩ : ∃ r : List Nat, [c0] = c0 :: r ∧ r.length ≤ 7 ∧ ∀ d ∈ r, isLow d = true := ⟨[], rfl, Nat.zero_le _, fun d hd => by cases hd⟩
        rw [er]
        have kG := kp4
        have hFG := hF4
        generalize H4 = G at *
        (repeat (first | refine ⟨_, rfl, ?_⟩ | refine ⟨rfl, ?_⟩ | refine ⟨_, _, rfl, rfl, ?_⟩ | refine iteT ?_ | refine iteF ?_ | refine ⟨(by show (0 : Int) < _; omega), ?_⟩ | refine ⟨(⟨by omega, by omega⟩ : CDiv _ _), ?_⟩ | refine ⟨(⟨by decide, by decide, by decide⟩ : CPow _ _), ?_⟩ | refine ⟨(.inl ⟨by omega, by omega⟩ : CMul _ _), ?_⟩ | refine ⟨(.inr ⟨by omega, by omega⟩ : CMul _ _), ?_⟩ | refine Or.inl ⟨_, rfl, ?_⟩ | refine Or.inr ⟨_, rfl, ?_⟩ | refine ⟨_, _, _, _, true, rfl, .ty _, .base (.str _), kit_ty (by decide +kernel), ?_⟩ | refine ⟨_, _, rfl, ⟨by rw [sizeLine_eq]; omega, rfl⟩, ?_⟩ | refine ⟨_, _, rfl, .inl ⟨_, SqL.of (by assumption), rfl⟩, ?_⟩ | refine ⟨_, _, rfl, .inr ⟨_, SqT.of (by assumption), rfl⟩, ?_⟩))
        refine ⟨f, _, rfl, .inl (SqL.of hFG), rfl, flat_strs xs, ?_⟩
        rw [if_neg (by decide), inV_strs]
        by_cases hin : S (c0 :: r) ∈ xs
        · rw [decide_eq_true hin]
          (repeat (first | refine ⟨_, rfl, ?_⟩ | refine ⟨rfl, ?_⟩ | refine ⟨_, _, rfl, rfl, ?_⟩ | refine iteT ?_ | refine iteF ?_ | refine ⟨(by show (0 : Int) < _; omega), ?_⟩ | refine ⟨(⟨by omega, by omega⟩ : CDiv _ _), ?_⟩ | refine ⟨(⟨by decide, by decide, by decide⟩ : CPow _ _), ?_⟩ | refine ⟨(.inl ⟨by omega, by omega⟩ : CMul _ _), ?_⟩ | refine ⟨(.inr ⟨by omega, by omega⟩ : CMul _ _), ?_⟩ | refine Or.inl ⟨_, rfl, ?_⟩ | refine Or.inr ⟨_, rfl, ?_⟩ | refine ⟨_, _, _, _, true, rfl, .ty _, .base (.str _), kit_ty (by decide +kernel), ?_⟩ | refine ⟨_, _, rfl, ⟨by rw [sizeLine_eq]; omega, rfl⟩, ?_⟩ | refine ⟨_, _, rfl, .inl ⟨_, SqL.of (by assumption), rfl⟩, ?_⟩ | refine ⟨_, _, rfl, .inr ⟨_, SqT.of (by assumption), rfl⟩, ?_⟩))
          have hq : (Str.ofString "qrstuvwxy").cps.toList.length = 9 := by decide +kernel
          have hiq : i < (Str.ofString "qrstuvwxy").cps.toList.length := by omega
          refine ⟨_, _, _, rfl, rfl, (by show 9 ≤ sizeLine; rw [sizeLine_eq]; omega), atN_of (n := 0 + (i : Int)) (by omega) (by omega), ?_⟩
          rw [show (Str.ofString "qrstuvwxy").cps.toList[(0 + (i : Int)).toNat]'(by omega) = 113 + i from (from_9 _ (by omega)).trans (by omega), sign_S]
          (repeat (first | refine ⟨_, rfl, ?_⟩ | refine ⟨rfl, ?_⟩ | refine ⟨_, _, rfl, rfl, ?_⟩ | refine iteT ?_ | refine iteF ?_ | refine ⟨(by show (0 : Int) < _; omega), ?_⟩ | refine ⟨(⟨by omega, by omega⟩ : CDiv _ _), ?_⟩ | refine ⟨(⟨by decide, by decide, by decide⟩ : CPow _ _), ?_⟩ | refine ⟨(.inl ⟨by omega, by omega⟩ : CMul _ _), ?_⟩ | refine ⟨(.inr ⟨by omega, by omega⟩ : CMul _ _), ?_⟩ | refine Or.inl ⟨_, rfl, ?_⟩ | refine Or.inr ⟨_, rfl, ?_⟩ | refine ⟨_, _, _, _, true, rfl, .ty _, .base (.str _), kit_ty (by decide +kernel), ?_⟩ | refine ⟨_, _, rfl, ⟨by rw [sizeLine_eq]; omega, rfl⟩, ?_⟩ | refine ⟨_, _, rfl, .inl ⟨_, SqL.of (by assumption), rfl⟩, ?_⟩ | refine ⟨_, _, rfl, .inr ⟨_, SqT.of (by assumption), rfl⟩, ?_⟩))
          refine ⟨(by rw [S_len, sizeLine_eq]; show r.length + 1 ≤ _; omega), ?_⟩
          rw [slice_6]
          refine ⟨_, _, rfl, rfl, (by rw [S_len, S_len, List.length_take, sizeLine_eq]; show 1 + _ ≤ _; omega), ?_⟩
          rw [S_cat]
          have nm : NmAt (i + 1) (S ([113 + i] ++ (c0 :: r).take 6)) := by
            refine ⟨113 + i, (c0 :: r).take 6, rfl, by rw [List.length_take]; omega, fun d hd => ?_, .inr ⟨by omega, by omega⟩⟩
            rcases List.mem_cons.mp (List.mem_of_mem_take hd) with rfl | hd
            · unfold isLow
              simp only [Bool.and_eq_true, decide_eq_true_eq]
              omega
            · exact hlow d hd
          have hno : S ([113 + i] ++ (c0 :: r).take 6) ∉ xs := fun hm => by
            obtain ⟨c1, r1, e1, _, _, g3⟩ := hsh _ hm
            have e1 := List.cons.inj (S_inj e1)
            have := e1.1
            omega
          generalize S ([113 + i] ++ (c0 :: r).take 6) = nx at *
          (repeat (first | refine ⟨_, rfl, ?_⟩ | refine ⟨rfl, ?_⟩ | refine ⟨_, _, rfl, rfl, ?_⟩ | refine iteT ?_ | refine iteF ?_ | refine ⟨(by show (0 : Int) < _; omega), ?_⟩ | refine ⟨(⟨by omega, by omega⟩ : CDiv _ _), ?_⟩ | refine ⟨(⟨by decide, by decide, by decide⟩ : CPow _ _), ?_⟩ | refine ⟨(.inl ⟨by omega, by omega⟩ : CMul _ _), ?_⟩ | refine ⟨(.inr ⟨by omega, by omega⟩ : CMul _ _), ?_⟩ | refine Or.inl ⟨_, rfl, ?_⟩ | refine Or.inr ⟨_, rfl, ?_⟩ | refine ⟨_, _, _, _, true, rfl, .ty _, .base (.str _), kit_ty (by decide +kernel), ?_⟩ | refine ⟨_, _, rfl, ⟨by rw [sizeLine_eq]; omega, rfl⟩, ?_⟩ | refine ⟨_, _, rfl, .inl ⟨_, SqL.of (by assumption), rfl⟩, ?_⟩ | refine ⟨_, _, rfl, .inr ⟨_, SqT.of (by assumption), rfl⟩, ?_⟩))
          refine ⟨.inl ⟨rfl, _, SqL.of hFG⟩, _, rfl, f, _, _, rfl, rfl, hFG, small1000 (by simp; omega), ?_⟩
          refine ⟨xs ++ [nx], _, _, rfl, kG.put hS nf, by rw [upd_same]; simp, by simp [hlen], ?_, fun x hx => ?_⟩
          · rw [List.nodup_append]
            refine ⟨hnd, by simp, fun a ha b hb e => ?_⟩
            rw [List.mem_singleton.mp hb] at e
            exact hno (e ▸ ha)
          · rcases List.mem_append.mp hx with hx | hx
            · exact (hsh x hx).mono (by omega)
            · rw [List.mem_singleton.mp hx]
              exact nm
        · rw [decide_eq_false hin]
          (repeat (first | refine ⟨_, rfl, ?_⟩ | refine ⟨rfl, ?_⟩ | refine ⟨_, _, rfl, rfl, ?_⟩ | refine iteT ?_ | refine iteF ?_ | refine ⟨(by show (0 : Int) < _; omega), ?_⟩ | refine ⟨(⟨by omega, by omega⟩ : CDiv _ _), ?_⟩ | refine ⟨(⟨by decide, by decide, by decide⟩ : CPow _ _), ?_⟩ | refine ⟨(.inl ⟨by omega, by omega⟩ : CMul _ _), ?_⟩ | refine ⟨(.inr ⟨by omega, by omega⟩ : CMul _ _), ?_⟩ | refine Or.inl ⟨_, rfl, ?_⟩ | refine Or.inr ⟨_, rfl, ?_⟩ | refine ⟨_, _, _, _, true, rfl, .ty _, .base (.str _), kit_ty (by decide +kernel), ?_⟩ | refine ⟨_, _, rfl, ⟨by rw [sizeLine_eq]; omega, rfl⟩, ?_⟩ | refine ⟨_, _, rfl, .inl ⟨_, SqL.of (by assumption), rfl⟩, ?_⟩ | refine ⟨_, _, rfl, .inr ⟨_, SqT.of (by assumption), rfl⟩, ?_⟩))
          have nm : NmAt (i + 1) (S (c0 :: r)) := ⟨c0, r, rfl, hr7, hlow, .inl ⟨g1, g2⟩⟩
          have hno := hin
          generalize S (c0 :: r) = nx at *
          refine ⟨.inl ⟨rfl, _, SqL.of hFG⟩, _, rfl, f, _, _, rfl, rfl, hFG, small1000 (by simp; omega), ?_⟩
          refine ⟨xs ++ [nx], _, _, rfl, kG.put hS nf, by rw [upd_same]; simp, by simp [hlen], ?_, fun x hx => ?_⟩
          · rw [List.nodup_append]
            refine ⟨hnd, by simp, fun a ha b hb e => ?_⟩
            rw [List.mem_singleton.mp hb] at e
            exact hno (e ▸ ha)
          · rcases List.mem_append.mp hx with hx | hx
            · exact (hsh x hx).mono (by omega)
            · rw [List.mem_singleton.mp hx]
              exact nm
    · rintro σ H1 ⟨xs, v3, v4, rfl, kp, hF, hlen, hnd, hsh⟩
      (repeat (first | refine ⟨_, rfl, ?_⟩ | refine ⟨rfl, ?_⟩ | refine ⟨_, _, rfl, rfl, ?_⟩ | refine iteT ?_ | refine iteF ?_ | refine ⟨(by show (0 : Int) < _; omega), ?_⟩ | refine ⟨(⟨by omega, by omega⟩ : CDiv _ _), ?_⟩ | refine ⟨(⟨by decide, by decide, by decide⟩ : CPow _ _), ?_⟩ | refine ⟨(.inl ⟨by omega, by omega⟩ : CMul _ _), ?_⟩ | refine ⟨(.inr ⟨by omega, by omega⟩ : CMul _ _), ?_⟩ | refine Or.inl ⟨_, rfl, ?_⟩ | refine Or.inr ⟨_, rfl, ?_⟩ | refine ⟨_, _, _, _, true, rfl, .ty _, .base (.str _), kit_ty (by decide +kernel), ?_⟩ | refine ⟨_, _, rfl, ⟨by rw [sizeLine_eq]; omega, rfl⟩, ?_⟩ | refine ⟨_, _, rfl, .inl ⟨_, SqL.of (by assumption), rfl⟩, ?_⟩ | refine ⟨_, _, rfl, .inr ⟨_, SqT.of (by assumption), rfl⟩, ?_⟩))
      refine ⟨f, xs, rfl, SqL.of hF, by omega, fun ys p pm so np => ?_⟩
      rw [sortS_eq pm so]
      have np0 := kp.free hS np
      refine k p (sortS xs) _ np0 (kp.put hS np0) upd_same (by rw [sortS_length, hlen]; omega) (nodup_sortS hnd) (sortS_of_perm (sortS_perm xs)) fun x hx => (hsh x ((mem_sortS _ _).mp hx)).nm (by omega)
theorem cal_law_mixed (T : Txt K mg A) : Cal P w K mg base 2 "_law_mixed" spMixed [] := by
  refine cal0 T.d_law_mixed T.b_law_mixed .nil sc_law_mixed (fun vs H Q E h => ?_) (fun cdv B outer s H vs Q E hr h => ?_)
  · obtain ⟨wl, c, a, xs, rfl, _⟩ := h
    rfl
  · obtain ⟨wl, c, a, xs, rfl, hw, ha, hnw, hl, k⟩ := h
    refine ⟨_, (pss_cons (ps_set (i := 2) sc_law_mixed.nd rfl (by first | exact Or.inl rfl | exact Or.inr rfl) (pe_callTy (listK K) (by rfl) T.z_list (by decide +kernel) (pa_cons (pv 1) pa_nil)))
 (pss_cons (ps_set (i := 3) sc_law_mixed.nd rfl (by first | exact Or.inl rfl | exact Or.inr rfl) (pe_lst pa_nil))
 (pss_cons (ps_for PassesOwn.never rfl (pi_range1 (by rfl) T.z_range (pa_cons (pe_callB (lenK K) (by rfl) T.z_len (by decide +kernel) (pa_cons (pv 1) pa_nil)) pa_nil)) (pg_name (i := 4) sc_law_mixed.nd rfl (by first | exact Or.inl rfl | exact Or.inr rfl)) (pss_one (ps_expr (pe_bm PySem.F.plainAttrs_list PySem.F.slot_list_append PySem.F.type_list_append mt_append (pv 3) (pa_cons (pe_bm PySem.F.plainAttrs_list PySem.F.slot_list_pop PySem.F.type_list_pop mt_popAt (pv 2) (pa_cons (pe_c (cal_law_draw T) hr (by decide) rfl (pa_cons (pv 0) (pa_cons (pe_callB (lenK K) (by rfl) T.z_len (by decide +kernel) (pa_cons (pv 2) pa_nil)) pa_nil))) pa_nil)) pa_nil)))))
 (pss_one (ps_ret (pv 3)))))), ?_⟩
    (repeat (first | refine ⟨_, rfl, ?_⟩ | refine ⟨rfl, ?_⟩ | refine ⟨_, _, rfl, rfl, ?_⟩ | refine iteT ?_ | refine iteF ?_ | refine ⟨(by show (0 : Int) < _; omega), ?_⟩ | refine ⟨(⟨by omega, by omega⟩ : CDiv _ _), ?_⟩ | refine ⟨(⟨by decide, by decide, by decide⟩ : CPow _ _), ?_⟩ | refine ⟨(.inl ⟨by omega, by omega⟩ : CMul _ _), ?_⟩ | refine ⟨(.inr ⟨by omega, by omega⟩ : CMul _ _), ?_⟩ | refine Or.inl ⟨_, rfl, ?_⟩ | refine Or.inr ⟨_, rfl, ?_⟩ | refine ⟨_, _, _, _, true, rfl, .ty _, .base (.str _), kit_ty (by decide +kernel), ?_⟩ | refine ⟨_, _, rfl, ⟨by rw [sizeLine_eq]; omega, rfl⟩, ?_⟩ | refine ⟨_, _, rfl, .inl ⟨_, SqL.of (by assumption), rfl⟩, ?_⟩ | refine ⟨_, _, rfl, .inr ⟨_, SqT.of (by assumption), rfl⟩, ?_⟩))
    refine ⟨a, xs, rfl, .inl (SqL.of ha), fun r nr => ?_⟩
    (repeat (first | refine ⟨_, rfl, ?_⟩ | refine ⟨rfl, ?_⟩ | refine ⟨_, _, rfl, rfl, ?_⟩ | refine iteT ?_ | refine iteF ?_ | refine ⟨(by show (0 : Int) < _; omega), ?_⟩ | refine ⟨(⟨by omega, by omega⟩ : CDiv _ _), ?_⟩ | refine ⟨(⟨by decide, by decide, by decide⟩ : CPow _ _), ?_⟩ | refine ⟨(.inl ⟨by omega, by omega⟩ : CMul _ _), ?_⟩ | refine ⟨(.inr ⟨by omega, by omega⟩ : CMul _ _), ?_⟩ | refine Or.inl ⟨_, rfl, ?_⟩ | refine Or.inr ⟨_, rfl, ?_⟩ | refine ⟨_, _, _, _, true, rfl, .ty _, .base (.str _), kit_ty (by decide +kernel), ?_⟩ | refine ⟨_, _, rfl, ⟨by rw [sizeLine_eq]; omega, rfl⟩, ?_⟩ | refine ⟨_, _, rfl, .inl ⟨_, SqL.of (by assumption), rfl⟩, ?_⟩ | refine ⟨_, _, rfl, .inr ⟨_, SqT.of (by assumption), rfl⟩, ?_⟩))
    refine ⟨Nat.zero_le _, fun f nf => ?_⟩
    have nfr : f ≠ r := fun e => by rw [e, upd_same] at nf; cases nf
    have nf' : H f = none := by rw [upd_ne nfr] at nf; exact nf
    have kp0 : KpS wl c H (upd (upd H r (.lst xs)) f (.lst [])) := ((KpS.refl wl c H).put hw nr).put hw nf'
    have ha1 := kp0.get hw ha hnw
    refine g_name ?_
    try dsimp only
    (repeat (first | refine ⟨_, rfl, ?_⟩ | refine ⟨rfl, ?_⟩ | refine ⟨_, _, rfl, rfl, ?_⟩ | refine iteT ?_ | refine iteF ?_ | refine ⟨(by show (0 : Int) < _; omega), ?_⟩ | refine ⟨(⟨by omega, by omega⟩ : CDiv _ _), ?_⟩ | refine ⟨(⟨by decide, by decide, by decide⟩ : CPow _ _), ?_⟩ | refine ⟨(.inl ⟨by omega, by omega⟩ : CMul _ _), ?_⟩ | refine ⟨(.inr ⟨by omega, by omega⟩ : CMul _ _), ?_⟩ | refine Or.inl ⟨_, rfl, ?_⟩ | refine Or.inr ⟨_, rfl, ?_⟩ | refine ⟨_, _, _, _, true, rfl, .ty _, .base (.str _), kit_ty (by decide +kernel), ?_⟩ | refine ⟨_, _, rfl, ⟨by rw [sizeLine_eq]; omega, rfl⟩, ?_⟩ | refine ⟨_, _, rfl, .inl ⟨_, SqL.of (by assumption), rfl⟩, ?_⟩ | refine ⟨_, _, rfl, .inr ⟨_, SqT.of (by assumption), rfl⟩, ?_⟩))
    refine ⟨by omega, by omega, for_it walk_range (fun i σ H' => ∃ (rs fs : List V) (v : Option V), σ = [some (.ref wl), some (.ref a), some (.ref r), some (.ref f), v] ∧ KpS wl c H H' ∧ H' r = some (.lst rs) ∧ H' f = some (.lst fs) ∧ fs.length = i ∧ (fs ++ rs).Perm xs)
      ⟨xs, [], _, rfl, kp0, Eq.trans (upd_ne nfr.symm) upd_same, upd_same, rfl, List.Perm.refl _⟩ (fun _ _ _ _ _ => True.intro) ?_ ?_⟩
    · rintro i v σ H1 H2 hi ⟨rs, fs, v4, rfl, kp, hR, hF, hlen, pm⟩ ⟨rfl, rfl⟩
      have hrs : rs.length + i = xs.length := by
        have := pm.length_eq
        rw [List.length_append] at this
        omega
      refine ⟨_, rfl, .inl ⟨rfl, _, SqL.of hF⟩, _, rfl, .inl ⟨rfl, _, SqL.of hR⟩, ?_⟩
      (repeat (first | refine ⟨_, rfl, ?_⟩ | refine ⟨rfl, ?_⟩ | refine ⟨_, _, rfl, rfl, ?_⟩ | refine iteT ?_ | refine iteF ?_ | refine ⟨(by show (0 : Int) < _; omega), ?_⟩ | refine ⟨(⟨by omega, by omega⟩ : CDiv _ _), ?_⟩ | refine ⟨(⟨by decide, by decide, by decide⟩ : CPow _ _), ?_⟩ | refine ⟨(.inl ⟨by omega, by omega⟩ : CMul _ _), ?_⟩ | refine ⟨(.inr ⟨by omega, by omega⟩ : CMul _ _), ?_⟩ | refine Or.inl ⟨_, rfl, ?_⟩ | refine Or.inr ⟨_, rfl, ?_⟩ | refine ⟨_, _, _, _, true, rfl, .ty _, .base (.str _), kit_ty (by decide +kernel), ?_⟩ | refine ⟨_, _, rfl, ⟨by rw [sizeLine_eq]; omega, rfl⟩, ?_⟩ | refine ⟨_, _, rfl, .inl ⟨_, SqL.of (by assumption), rfl⟩, ?_⟩ | refine ⟨_, _, rfl, .inr ⟨_, SqT.of (by assumption), rfl⟩, ?_⟩))
      refine ⟨wl, c, _, rfl, kp.st hw, by omega, by omega, fun n H3 h0 h1 kq => ?_⟩
      have hR3 : H3 r = some (.lst rs) := kq.keep _ _ (hw.ne nr) hR
      have hF3 : H3 f = some (.lst fs) := kq.keep _ _ (hw.ne nf') hF
      have hn : n.toNat < rs.length := by omega
      refine ⟨r, rs, n, n.toNat, rs[n.toNat], rfl, rfl, hR3, by omega, by omega, ?_, by simp, ?_⟩
      · exact seqIndex_of h0 h1
      refine ⟨f, fs, _, rfl, rfl, Eq.trans (upd_ne nfr) hF3, small1000 (by omega), ?_⟩
      refine ⟨rs.eraseIdx n.toNat, fs ++ [rs[n.toNat]], _, rfl, ((kp.trans kq).put hw nr).put hw nf', Eq.trans (upd_ne nfr.symm) upd_same, upd_same, by simp [hlen], ?_⟩
      refine List.Perm.trans ?_ pm
      rw [List.append_assoc]
      exact List.Perm.append_left _ (erase_perm hn)
    · rintro σ H1 ⟨rs, fs, v4, rfl, kp, hR, hF, hlen, pm⟩
      have : rs = [] := by
        have := pm.length_eq
        rw [List.length_append] at this
        exact List.length_eq_zero_iff.mp (by omega)
      subst this
      rw [List.append_nil] at pm
      exact ⟨_, rfl, k f fs H1 nf' kp hF pm⟩
end
end BF47
set_option Elab.async false
set_option linter.all false
set_option maxRecDepth 100000
set_option maxHeartbeats 4000000
namespace BF47
open BF
open PySem PySem.Spec PyProof.Rows L2
open C8 (Cal CalAt Met Mak cal0 met0 mak0 fn0 pe_c pe_mk pe_mt pe_mt0 pe_gc fnScope fnBody fnArgs fnScope_by)
open SX
open LamX (Tabs TabB ExtN CodeO)
section
variable {X : Cx} {A : Ad} {e e2 : Expr} {ta : TA} {p pos : Pos}
theorem pm_BadThings (T : Txt X.K X.mg A) (hr : Room 2 X.A) (ha : PA X [e] ta) (hg : Gl X "BadThings" := by rfl) (he : starEach (e :: []) X.env = (false, eval e X.env) :: starEach [] X.env := by rfl) (hpl : (backTo pos (starEach [] X.env)).any (·.1) = false := by rfl) :
    PMk X (.Call (.Name "BadThings" p) [e] [] pos) (tErr A.C_BadThings "index" ta) :=
  pmk_err T.ox_BadThings T.fi_BadThings__init T.fn_BadThings__init (ok_errinit T.u_BadThings__init sc_BadThings__init rfl T.ox_BadThings T.nx_BadThings_index rfl rfl (by decide) (by decide) (fun _ => rfl)) hr T.b_BadThings__init hg T.gC_BadThings ha (by decide) he hpl
theorem pm_BadRooms (T : Txt X.K X.mg A) (hr : Room 2 X.A) (ha : PA X [e] ta) (hg : Gl X "BadRooms" := by rfl) (he : starEach (e :: []) X.env = (false, eval e X.env) :: starEach [] X.env := by rfl) (hpl : (backTo pos (starEach [] X.env)).any (·.1) = false := by rfl) :
    PMk X (.Call (.Name "BadRooms" p) [e] [] pos) (tErr A.C_BadRooms "index" ta) :=
  pmk_err T.ox_BadRooms T.fi_BadRooms__init T.fn_BadRooms__init (ok_errinit T.u_BadRooms__init sc_BadRooms__init rfl T.ox_BadRooms T.nx_BadRooms_index rfl rfl (by decide) (by decide) (fun _ => rfl)) hr T.b_BadRooms__init hg T.gC_BadRooms ha (by decide) he hpl
theorem pm_CrossedRooms (T : Txt X.K X.mg A) (hr : Room 2 X.A) (ha : PA X [e, e2] ta) (hg : Gl X "CrossedRooms" := by rfl) (he : starEach (e :: [e2]) X.env = (false, eval e X.env) :: starEach [e2] X.env := by rfl) (hpl : (backTo pos (starEach [e2] X.env)).any (·.1) = false := by rfl) :
    PMk X (.Call (.Name "CrossedRooms" p) [e, e2] [] pos) (tErr2 A.C_CrossedRooms "one" "other" ta) :=
  pmk_err2 T.ox_CrossedRooms T.fi_CrossedRooms__init T.fn_CrossedRooms__init (ok_err2 T.u_CrossedRooms__init sc_CrossedRooms__init rfl T.ox_CrossedRooms T.nx_CrossedRooms_one T.nx_CrossedRooms_other rfl rfl rfl (by decide) (by decide) (by decide) (by decide) (fun _ => rfl) (fun _ => rfl)) hr T.b_CrossedRooms__init hg T.gC_CrossedRooms ha (by decide) he hpl
end
section
variable {P : Program} {w : World} {K : PySem.W.Frag} {mg : Str → Option Value} {base : Heap} {A : Ad} {cL PL : Addr}
theorem cal_sorted_things (T : Txt K mg A) : CalX P w K mg base 3 "sorted_things" (spST K A.C_BadThings) := by
  refine ⟨_, _, _, fnX T.d_sorted_things.fn sc_sorted_things (fun vs H Q E h => ?_) (fun cdv B outer s H vs Q E hr h => ?_), T.d_sorted_things.mgf, T.d_sorted_things.kp, T.b_sorted_things⟩
  · obtain ⟨a, xs, os, rfl, _⟩ := h
    rfl
  · obtain ⟨a, xs, os, rfl, ha, he, hl, hx, kE, kQ⟩ := h
    refine ⟨_, (pss_cons (ps_set (i := 2) sc_sorted_things.nd rfl (by first | exact Or.inl rfl | exact Or.inr rfl) (pe_ifExp (pt_cmpR op_gt (pe_callB (lenK K) (by rfl) T.z_len (by decide +kernel) (pa_cons (pv 0) pa_nil)) (pv 1) (nomark _)) (pe_un un_neg pe_int) (pe_c (cal_first_wrong T) hr (by decide) rfl (pa_cons (pv 0) (pa_cons (pe_gc (v := .ref A.f_is_name) rfl ⟨_, T.d_is_name.mgf, rfl⟩) pa_nil)))))
 (pss_cons (ps_if (pt_cmpR op_notN (pv 2) pe_non (nomark _)) (pss_one (ps_raise rfl (takes_of rfl rfl rfl rfl) (pm_BadThings T (hr.mono (by decide)) (pa_cons (pv 2) pa_nil)))) pss_nil)
 (pss_one (ps_ret (pe_callB (sortedSK K) (by rfl) T.z_sorted (by decide +kernel) (pa_cons (pv 0) pa_nil)))))), ?_⟩
    have hlen : xs.length = os.length := he.length
    (repeat (first | refine ⟨_, rfl, ?_⟩ | refine ⟨rfl, ?_⟩ | refine ⟨_, _, rfl, rfl, ?_⟩ | refine iteT ?_ | refine iteF ?_ | refine ⟨(by show (0 : Int) < _; omega), ?_⟩ | refine ⟨(⟨by omega, by omega⟩ : CDiv _ _), ?_⟩ | refine ⟨(⟨by decide, by decide, by decide⟩ : CPow _ _), ?_⟩ | refine ⟨(.inl ⟨by omega, by omega⟩ : CMul _ _), ?_⟩ | refine ⟨(.inr ⟨by omega, by omega⟩ : CMul _ _), ?_⟩ | refine Or.inl ⟨_, rfl, ?_⟩ | refine Or.inr ⟨_, rfl, ?_⟩ | refine ⟨_, _, _, _, true, rfl, .ty _, .base (.str _), kit_ty (by decide +kernel), ?_⟩ | refine ⟨_, _, rfl, ⟨by rw [sizeLine_eq]; omega, rfl⟩, ?_⟩ | refine ⟨_, _, rfl, .inl ⟨_, SqL.of (by assumption), rfl⟩, ?_⟩ | refine ⟨_, _, rfl, .inr ⟨_, SqT.of (by assumption), rfl⟩, ?_⟩))
    by_cases h24 : (24 : Int) < (xs.length : Int)
    · rw [decide_eq_true h24]
      (repeat (first | refine ⟨_, rfl, ?_⟩ | refine ⟨rfl, ?_⟩ | refine ⟨_, _, rfl, rfl, ?_⟩ | refine iteT ?_ | refine iteF ?_ | refine ⟨(by show (0 : Int) < _; omega), ?_⟩ | refine ⟨(⟨by omega, by omega⟩ : CDiv _ _), ?_⟩ | refine ⟨(⟨by decide, by decide, by decide⟩ : CPow _ _), ?_⟩ | refine ⟨(.inl ⟨by omega, by omega⟩ : CMul _ _), ?_⟩ | refine ⟨(.inr ⟨by omega, by omega⟩ : CMul _ _), ?_⟩ | refine Or.inl ⟨_, rfl, ?_⟩ | refine Or.inr ⟨_, rfl, ?_⟩ | refine ⟨_, _, _, _, true, rfl, .ty _, .base (.str _), kit_ty (by decide +kernel), ?_⟩ | refine ⟨_, _, rfl, ⟨by rw [sizeLine_eq]; omega, rfl⟩, ?_⟩ | refine ⟨_, _, rfl, .inl ⟨_, SqL.of (by assumption), rfl⟩, ?_⟩ | refine ⟨_, _, rfl, .inr ⟨_, SqT.of (by assumption), rfl⟩, ?_⟩))
      refine fun d H2 _ s2 hd => kE (-1) ?_ d H2 s2 hd
      unfold thF
      rw [if_pos (by omega)]
    · rw [decide_eq_false h24]
      (repeat (first | refine ⟨_, rfl, ?_⟩ | refine ⟨rfl, ?_⟩ | refine ⟨_, _, rfl, rfl, ?_⟩ | refine iteT ?_ | refine iteF ?_ | refine ⟨(by show (0 : Int) < _; omega), ?_⟩ | refine ⟨(⟨by omega, by omega⟩ : CDiv _ _), ?_⟩ | refine ⟨(⟨by decide, by decide, by decide⟩ : CPow _ _), ?_⟩ | refine ⟨(.inl ⟨by omega, by omega⟩ : CMul _ _), ?_⟩ | refine ⟨(.inr ⟨by omega, by omega⟩ : CMul _ _), ?_⟩ | refine Or.inl ⟨_, rfl, ?_⟩ | refine Or.inr ⟨_, rfl, ?_⟩ | refine ⟨_, _, _, _, true, rfl, .ty _, .base (.str _), kit_ty (by decide +kernel), ?_⟩ | refine ⟨_, _, rfl, ⟨by rw [sizeLine_eq]; omega, rfl⟩, ?_⟩ | refine ⟨_, _, rfl, .inl ⟨_, SqL.of (by assumption), rfl⟩, ?_⟩ | refine ⟨_, _, rfl, .inr ⟨_, SqT.of (by assumption), rfl⟩, ?_⟩))
      refine ⟨a, xs, os, rfl, ha, he, hl, hx, fun H1 s1 => ?_⟩
      have ha1 := s1 _ _ ha
      have et : thF os = (fwO isNm os).map fun k => ((k : Nat) : Int) := by unfold thF; rw [if_neg (by omega)]
      cases hf : fwO isNm os with
      | some k =>
        have e : fwVO isNm os = .int (k : Nat) := by unfold fwVO; rw [hf]
        rw [e]
        (repeat (first | refine ⟨_, rfl, ?_⟩ | refine ⟨rfl, ?_⟩ | refine ⟨_, _, rfl, rfl, ?_⟩ | refine iteT ?_ | refine iteF ?_ | refine ⟨(by show (0 : Int) < _; omega), ?_⟩ | refine ⟨(⟨by omega, by omega⟩ : CDiv _ _), ?_⟩ | refine ⟨(⟨by decide, by decide, by decide⟩ : CPow _ _), ?_⟩ | refine ⟨(.inl ⟨by omega, by omega⟩ : CMul _ _), ?_⟩ | refine ⟨(.inr ⟨by omega, by omega⟩ : CMul _ _), ?_⟩ | refine Or.inl ⟨_, rfl, ?_⟩ | refine Or.inr ⟨_, rfl, ?_⟩ | refine ⟨_, _, _, _, true, rfl, .ty _, .base (.str _), kit_ty (by decide +kernel), ?_⟩ | refine ⟨_, _, rfl, ⟨by rw [sizeLine_eq]; omega, rfl⟩, ?_⟩ | refine ⟨_, _, rfl, .inl ⟨_, SqL.of (by assumption), rfl⟩, ?_⟩ | refine ⟨_, _, rfl, .inr ⟨_, SqT.of (by assumption), rfl⟩, ?_⟩))
        exact fun d H2 _ s2 hd => kE k (by rw [et, hf]; rfl) d H2 (s1.trans s2) hd
      | none =>
        have e : fwVO isNm os = .non := by unfold fwVO; rw [hf]
        rw [e]
        (repeat (first | refine ⟨_, rfl, ?_⟩ | refine ⟨rfl, ?_⟩ | refine ⟨_, _, rfl, rfl, ?_⟩ | refine iteT ?_ | refine iteF ?_ | refine ⟨(by show (0 : Int) < _; omega), ?_⟩ | refine ⟨(⟨by omega, by omega⟩ : CDiv _ _), ?_⟩ | refine ⟨(⟨by decide, by decide, by decide⟩ : CPow _ _), ?_⟩ | refine ⟨(.inl ⟨by omega, by omega⟩ : CMul _ _), ?_⟩ | refine ⟨(.inr ⟨by omega, by omega⟩ : CMul _ _), ?_⟩ | refine Or.inl ⟨_, rfl, ?_⟩ | refine Or.inr ⟨_, rfl, ?_⟩ | refine ⟨_, _, _, _, true, rfl, .ty _, .base (.str _), kit_ty (by decide +kernel), ?_⟩ | refine ⟨_, _, rfl, ⟨by rw [sizeLine_eq]; omega, rfl⟩, ?_⟩ | refine ⟨_, _, rfl, .inl ⟨_, SqL.of (by assumption), rfl⟩, ?_⟩ | refine ⟨_, _, rfl, .inr ⟨_, SqT.of (by assumption), rfl⟩, ?_⟩))
        obtain ⟨ys, ey, _, _⟩ := fwO_texts hf
        rw [ey] at he
        have ex := paired_strs he
        rw [ex] at ha1
        have hly : ys.length = os.length := by rw [ey, List.length_map]
        refine ⟨a, ys, rfl, SqL.of ha1, by omega, fun zs p pm so np => ?_⟩
        rw [sortS_eq pm so]
        exact kQ ys (by rw [et, hf]; rfl) ey p _ (s1.free np) (Same.put s1 (s1.free np)) upd_same
theorem cal_shared (T : Txt K mg A) : Cal P w K mg base 1 "_shared" spShared [] := by
  refine cal0 T.d_shared T.b_shared .nil sc_shared (fun vs H Q E h => ?_) (fun cdv B outer s H vs Q E hr h => ?_)
  · obtain ⟨a, b, xs, ys, rfl, _⟩ := h
    rfl
  · obtain ⟨a, b, xs, ys, rfl, ha, hb, hl, k⟩ := h
    refine ⟨_, (pss_one (ps_ret (pe_callB (lenK K) (by rfl) T.z_len (by decide +kernel) (pa_cons (pe_lc (own := [("thing", 2)]) (g := gName 2) rfl sc_shared.nd (pi_list (pv 1)) (blkOk_by (own := [("thing", 2)]) (N := N_shared) (sc := fnScope s_shared) (by decide +kernel)) (fun _ _ _ _ _ => (pg_name (i := 2) sc_shared.nd rfl (by first | exact Or.inl rfl | exact Or.inr rfl))) (fun _ _ _ _ _ => (pts_one (pt_cmpR (in_seqK K) (pv 2) (pv 0) rfl))) (fun _ _ _ _ _ => (pv 2))) pa_nil)))), ?_⟩
    (repeat (first | refine ⟨_, rfl, ?_⟩ | refine ⟨rfl, ?_⟩ | refine ⟨_, _, rfl, rfl, ?_⟩ | refine iteT ?_ | refine iteF ?_ | refine ⟨(by show (0 : Int) < _; omega), ?_⟩ | refine ⟨(⟨by omega, by omega⟩ : CDiv _ _), ?_⟩ | refine ⟨(⟨by decide, by decide, by decide⟩ : CPow _ _), ?_⟩ | refine ⟨(.inl ⟨by omega, by omega⟩ : CMul _ _), ?_⟩ | refine ⟨(.inr ⟨by omega, by omega⟩ : CMul _ _), ?_⟩ | refine Or.inl ⟨_, rfl, ?_⟩ | refine Or.inr ⟨_, rfl, ?_⟩ | refine ⟨_, _, _, _, true, rfl, .ty _, .base (.str _), kit_ty (by decide +kernel), ?_⟩ | refine ⟨_, _, rfl, ⟨by rw [sizeLine_eq]; omega, rfl⟩, ?_⟩ | refine ⟨_, _, rfl, .inl ⟨_, SqL.of (by assumption), rfl⟩, ?_⟩ | refine ⟨_, _, rfl, .inr ⟨_, SqT.of (by assumption), rfl⟩, ?_⟩))
    refine ⟨⟨_, SqL.of hb⟩, fun D nD => ?_⟩
    refine lc_it walk_list (fun i H' => Same H H' ∧ H' D = some (.lst (((ys.take i).filter fun y => decide (y ∈ xs)).map V.str))) ⟨Same.new nD, upd_same⟩ (fun _ H' _ q => SqL.of (q.1 _ _ hb)) ?_ ?_
    · rintro i v H1 H2 hi ⟨s1, hD⟩ ⟨rfl, hv⟩
      rw [List.length_map] at hi
      have hy : ys[i]? = some ys[i] := List.getElem?_eq_getElem hi
      have ev : v = V.str ys[i] := by
        rw [List.getElem?_map, hy] at hv
        exact (Option.some.inj hv).symm
      subst ev
      refine ⟨rfl, ?_⟩
      (repeat (first | refine ⟨_, rfl, ?_⟩ | refine ⟨rfl, ?_⟩ | refine ⟨_, _, rfl, rfl, ?_⟩ | refine iteT ?_ | refine iteF ?_ | refine ⟨(by show (0 : Int) < _; omega), ?_⟩ | refine ⟨(⟨by omega, by omega⟩ : CDiv _ _), ?_⟩ | refine ⟨(⟨by decide, by decide, by decide⟩ : CPow _ _), ?_⟩ | refine ⟨(.inl ⟨by omega, by omega⟩ : CMul _ _), ?_⟩ | refine ⟨(.inr ⟨by omega, by omega⟩ : CMul _ _), ?_⟩ | refine Or.inl ⟨_, rfl, ?_⟩ | refine Or.inr ⟨_, rfl, ?_⟩ | refine ⟨_, _, _, _, true, rfl, .ty _, .base (.str _), kit_ty (by decide +kernel), ?_⟩ | refine ⟨_, _, rfl, ⟨by rw [sizeLine_eq]; omega, rfl⟩, ?_⟩ | refine ⟨_, _, rfl, .inl ⟨_, SqL.of (by assumption), rfl⟩, ?_⟩ | refine ⟨_, _, rfl, .inr ⟨_, SqT.of (by assumption), rfl⟩, ?_⟩))
      refine ⟨a, _, rfl, .inl (SqL.of (s1 _ _ ha)), rfl, flat_strs xs, ?_⟩
      rw [if_neg (by decide), inV_strs]
      (repeat (first | refine ⟨_, rfl, ?_⟩ | refine ⟨rfl, ?_⟩ | refine ⟨_, _, rfl, rfl, ?_⟩ | refine iteT ?_ | refine iteF ?_ | refine ⟨(by show (0 : Int) < _; omega), ?_⟩ | refine ⟨(⟨by omega, by omega⟩ : CDiv _ _), ?_⟩ | refine ⟨(⟨by decide, by decide, by decide⟩ : CPow _ _), ?_⟩ | refine ⟨(.inl ⟨by omega, by omega⟩ : CMul _ _), ?_⟩ | refine ⟨(.inr ⟨by omega, by omega⟩ : CMul _ _), ?_⟩ | refine Or.inl ⟨_, rfl, ?_⟩ | refine Or.inr ⟨_, rfl, ?_⟩ | refine ⟨_, _, _, _, true, rfl, .ty _, .base (.str _), kit_ty (by decide +kernel), ?_⟩ | refine ⟨_, _, rfl, ⟨by rw [sizeLine_eq]; omega, rfl⟩, ?_⟩ | refine ⟨_, _, rfl, .inl ⟨_, SqL.of (by assumption), rfl⟩, ?_⟩ | refine ⟨_, _, rfl, .inr ⟨_, SqT.of (by assumption), rfl⟩, ?_⟩))
      refine ite2 (fun c => ?_) (fun c => ?_)
      · have c := of_decide_eq_true c
        (repeat (first | refine ⟨_, rfl, ?_⟩ | refine ⟨rfl, ?_⟩ | refine ⟨_, _, rfl, rfl, ?_⟩ | refine iteT ?_ | refine iteF ?_ | refine ⟨(by show (0 : Int) < _; omega), ?_⟩ | refine ⟨(⟨by omega, by omega⟩ : CDiv _ _), ?_⟩ | refine ⟨(⟨by decide, by decide, by decide⟩ : CPow _ _), ?_⟩ | refine ⟨(.inl ⟨by omega, by omega⟩ : CMul _ _), ?_⟩ | refine ⟨(.inr ⟨by omega, by omega⟩ : CMul _ _), ?_⟩ | refine Or.inl ⟨_, rfl, ?_⟩ | refine Or.inr ⟨_, rfl, ?_⟩ | refine ⟨_, _, _, _, true, rfl, .ty _, .base (.str _), kit_ty (by decide +kernel), ?_⟩ | refine ⟨_, _, rfl, ⟨by rw [sizeLine_eq]; omega, rfl⟩, ?_⟩ | refine ⟨_, _, rfl, .inl ⟨_, SqL.of (by assumption), rfl⟩, ?_⟩ | refine ⟨_, _, rfl, .inr ⟨_, SqT.of (by assumption), rfl⟩, ?_⟩))
        refine ⟨_, hD, small1000 (by
          have := List.length_filter_le (fun y => decide (y ∈ xs)) (ys.take i)
          rw [List.length_map]
          rw [List.length_take] at this
          omega), Same.put s1 nD, ?_⟩
        rw [upd_same, List.take_succ, hy]
        show _ = some (HO.lst (((ys.take i ++ [ys[i]]).filter fun y => decide (y ∈ xs)).map V.str))
        rw [List.filter_append, List.filter_cons, if_pos (decide_eq_true c), List.filter_nil, List.map_append]
        rfl
      · refine ⟨s1, ?_⟩
        rw [hD, List.take_succ, hy]
        show _ = some (HO.lst (((ys.take i ++ [ys[i]]).filter fun y => decide (y ∈ xs)).map V.str))
        rw [List.filter_append, List.filter_cons, if_neg c, List.filter_nil, List.append_nil]
    · rintro H1 ⟨s1, hD⟩
      rw [List.length_map, List.take_of_length_le (Nat.le_refl _)] at hD
      refine ⟨_, _, rfl, .inl ⟨_, SqL.of hD, rfl⟩, ?_⟩
      have q := k H1 s1
      rw [List.length_map]
      exact q
theorem cal_are_crossed (T : Txt K mg A) : Cal P w K mg base 2 "are_crossed" spCrossed [] := by
  refine cal0 T.d_are_crossed T.b_are_crossed .nil sc_are_crossed (fun vs H Q E h => ?_) (fun cdv B outer s H vs Q E hr h => ?_)
  · obtain ⟨a, b, xs, ys, rfl, _⟩ := h
    rfl
  · obtain ⟨a, b, xs, ys, rfl, ha, hb, hl, k⟩ := h
    refine ⟨_, (pss_cons (ps_set (i := 2) sc_are_crossed.nd rfl (by first | exact Or.inl rfl | exact Or.inr rfl) (pe_c (cal_shared T) hr (by decide) rfl (pa_cons (pv 0) (pa_cons (pv 1) pa_nil))))
 (pss_one (ps_ret (pe_and (pe_cmpR op_gt (pv 2) pe_int (nomark _)) (pe_one (pe_cmpR (notIn_seqK K) (pv 2) (pe_tup (pa_cons (pe_callB (lenK K) (by rfl) T.z_len (by decide +kernel) (pa_cons (pv 0) pa_nil)) (pa_cons (pe_callB (lenK K) (by rfl) T.z_len (by decide +kernel) (pa_cons (pv 1) pa_nil)) pa_nil))) rfl)))))), ?_⟩
    (repeat (first | refine ⟨_, rfl, ?_⟩ | refine ⟨rfl, ?_⟩ | refine ⟨_, _, rfl, rfl, ?_⟩ | refine iteT ?_ | refine iteF ?_ | refine ⟨(by show (0 : Int) < _; omega), ?_⟩ | refine ⟨(⟨by omega, by omega⟩ : CDiv _ _), ?_⟩ | refine ⟨(⟨by decide, by decide, by decide⟩ : CPow _ _), ?_⟩ | refine ⟨(.inl ⟨by omega, by omega⟩ : CMul _ _), ?_⟩ | refine ⟨(.inr ⟨by omega, by omega⟩ : CMul _ _), ?_⟩ | refine Or.inl ⟨_, rfl, ?_⟩ | refine Or.inr ⟨_, rfl, ?_⟩ | refine ⟨_, _, _, _, true, rfl, .ty _, .base (.str _), kit_ty (by decide +kernel), ?_⟩ | refine ⟨_, _, rfl, ⟨by rw [sizeLine_eq]; omega, rfl⟩, ?_⟩ | refine ⟨_, _, rfl, .inl ⟨_, SqL.of (by assumption), rfl⟩, ?_⟩ | refine ⟨_, _, rfl, .inr ⟨_, SqT.of (by assumption), rfl⟩, ?_⟩))
    refine ⟨a, b, xs, ys, rfl, ha, hb, hl, fun H1 s1 => ?_⟩
    obtain ⟨n, hn⟩ : ∃ n, n = (ys.filter fun y => decide (y ∈ xs)).length := ⟨_, rfl⟩
    have k : ∀ H', Same H H' → Q (.bl (decide (0 < n) && (!decide (n = xs.length) && !decide (n = ys.length)))) H' := fun H' s => by rw [hn]; exact k H' s
    rw [← hn]
    (repeat (first | refine ⟨_, rfl, ?_⟩ | refine ⟨rfl, ?_⟩ | refine ⟨_, _, rfl, rfl, ?_⟩ | refine iteT ?_ | refine iteF ?_ | refine ⟨(by show (0 : Int) < _; omega), ?_⟩ | refine ⟨(⟨by omega, by omega⟩ : CDiv _ _), ?_⟩ | refine ⟨(⟨by decide, by decide, by decide⟩ : CPow _ _), ?_⟩ | refine ⟨(.inl ⟨by omega, by omega⟩ : CMul _ _), ?_⟩ | refine ⟨(.inr ⟨by omega, by omega⟩ : CMul _ _), ?_⟩ | refine Or.inl ⟨_, rfl, ?_⟩ | refine Or.inr ⟨_, rfl, ?_⟩ | refine ⟨_, _, _, _, true, rfl, .ty _, .base (.str _), kit_ty (by decide +kernel), ?_⟩ | refine ⟨_, _, rfl, ⟨by rw [sizeLine_eq]; omega, rfl⟩, ?_⟩ | refine ⟨_, _, rfl, .inl ⟨_, SqL.of (by assumption), rfl⟩, ?_⟩ | refine ⟨_, _, rfl, .inr ⟨_, SqT.of (by assumption), rfl⟩, ?_⟩))
    by_cases h0 : (0 : Int) < (n : Int)
    · rw [decide_eq_true h0]
      (repeat (first | refine ⟨_, rfl, ?_⟩ | refine ⟨rfl, ?_⟩ | refine ⟨_, _, rfl, rfl, ?_⟩ | refine iteT ?_ | refine iteF ?_ | refine ⟨(by show (0 : Int) < _; omega), ?_⟩ | refine ⟨(⟨by omega, by omega⟩ : CDiv _ _), ?_⟩ | refine ⟨(⟨by decide, by decide, by decide⟩ : CPow _ _), ?_⟩ | refine ⟨(.inl ⟨by omega, by omega⟩ : CMul _ _), ?_⟩ | refine ⟨(.inr ⟨by omega, by omega⟩ : CMul _ _), ?_⟩ | refine Or.inl ⟨_, rfl, ?_⟩ | refine Or.inr ⟨_, rfl, ?_⟩ | refine ⟨_, _, _, _, true, rfl, .ty _, .base (.str _), kit_ty (by decide +kernel), ?_⟩ | refine ⟨_, _, rfl, ⟨by rw [sizeLine_eq]; omega, rfl⟩, ?_⟩ | refine ⟨_, _, rfl, .inl ⟨_, SqL.of (by assumption), rfl⟩, ?_⟩ | refine ⟨_, _, rfl, .inr ⟨_, SqT.of (by assumption), rfl⟩, ?_⟩))
      refine ⟨_, _, rfl, .inl ⟨_, SqL.of (s1 _ _ ha), rfl⟩, ?_⟩
      (repeat (first | refine ⟨_, rfl, ?_⟩ | refine ⟨rfl, ?_⟩ | refine ⟨_, _, rfl, rfl, ?_⟩ | refine iteT ?_ | refine iteF ?_ | refine ⟨(by show (0 : Int) < _; omega), ?_⟩ | refine ⟨(⟨by omega, by omega⟩ : CDiv _ _), ?_⟩ | refine ⟨(⟨by decide, by decide, by decide⟩ : CPow _ _), ?_⟩ | refine ⟨(.inl ⟨by omega, by omega⟩ : CMul _ _), ?_⟩ | refine ⟨(.inr ⟨by omega, by omega⟩ : CMul _ _), ?_⟩ | refine Or.inl ⟨_, rfl, ?_⟩ | refine Or.inr ⟨_, rfl, ?_⟩ | refine ⟨_, _, _, _, true, rfl, .ty _, .base (.str _), kit_ty (by decide +kernel), ?_⟩ | refine ⟨_, _, rfl, ⟨by rw [sizeLine_eq]; omega, rfl⟩, ?_⟩ | refine ⟨_, _, rfl, .inl ⟨_, SqL.of (by assumption), rfl⟩, ?_⟩ | refine ⟨_, _, rfl, .inr ⟨_, SqT.of (by assumption), rfl⟩, ?_⟩))
      refine ⟨_, _, rfl, .inl ⟨_, SqL.of (s1 _ _ hb), rfl⟩, ?_⟩
      (repeat (first | refine ⟨_, rfl, ?_⟩ | refine ⟨rfl, ?_⟩ | refine ⟨_, _, rfl, rfl, ?_⟩ | refine iteT ?_ | refine iteF ?_ | refine ⟨(by show (0 : Int) < _; omega), ?_⟩ | refine ⟨(⟨by omega, by omega⟩ : CDiv _ _), ?_⟩ | refine ⟨(⟨by decide, by decide, by decide⟩ : CPow _ _), ?_⟩ | refine ⟨(.inl ⟨by omega, by omega⟩ : CMul _ _), ?_⟩ | refine ⟨(.inr ⟨by omega, by omega⟩ : CMul _ _), ?_⟩ | refine Or.inl ⟨_, rfl, ?_⟩ | refine Or.inr ⟨_, rfl, ?_⟩ | refine ⟨_, _, _, _, true, rfl, .ty _, .base (.str _), kit_ty (by decide +kernel), ?_⟩ | refine ⟨_, _, rfl, ⟨by rw [sizeLine_eq]; omega, rfl⟩, ?_⟩ | refine ⟨_, _, rfl, .inl ⟨_, SqL.of (by assumption), rfl⟩, ?_⟩ | refine ⟨_, _, rfl, .inr ⟨_, SqT.of (by assumption), rfl⟩, ?_⟩))
      refine ⟨(by show 2 ≤ sizeLine; rw [sizeLine_eq]; omega), fun t nt => ?_⟩
      refine ⟨t, _, rfl, .inr (SqT.of upd_same), rfl, rfl, ?_⟩
      have q := k _ (s1.trans (Same.new (o := .tup [V.int ((xs.map V.str).length : Nat), V.int ((ys.map V.str).length : Nat)]) nt))
      rw [decide_eq_true (by omega), Bool.true_and] at q
      have e : (if true = true then !inV (V.int (n : Nat)) [V.int ((xs.map V.str).length : Nat), V.int ((ys.map V.str).length : Nat)] else inV (V.int (n : Nat)) [V.int ((xs.map V.str).length : Nat), V.int ((ys.map V.str).length : Nat)]) = (!decide (n = xs.length) && !decide (n = ys.length)) := by
        rw [if_pos rfl]
        show (!(decide ((((xs.map V.str).length : Nat) : Int) = (n : Int)) || (decide ((((ys.map V.str).length : Nat) : Int) = (n : Int)) || false))) = _
        rw [Bool.or_false, Bool.not_or, List.length_map, List.length_map]
        congr 2
        · exact decide_eq_decide.mpr ⟨fun h => by omega, fun h => by omega⟩
        · exact decide_eq_decide.mpr ⟨fun h => by omega, fun h => by omega⟩
      rw [e]
      exact q
    · rw [decide_eq_false h0]
      (repeat (first | refine ⟨_, rfl, ?_⟩ | refine ⟨rfl, ?_⟩ | refine ⟨_, _, rfl, rfl, ?_⟩ | refine iteT ?_ | refine iteF ?_ | refine ⟨(by show (0 : Int) < _; omega), ?_⟩ | refine ⟨(⟨by omega, by omega⟩ : CDiv _ _), ?_⟩ | refine ⟨(⟨by decide, by decide, by decide⟩ : CPow _ _), ?_⟩ | refine ⟨(.inl ⟨by omega, by omega⟩ : CMul _ _), ?_⟩ | refine ⟨(.inr ⟨by omega, by omega⟩ : CMul _ _), ?_⟩ | refine Or.inl ⟨_, rfl, ?_⟩ | refine Or.inr ⟨_, rfl, ?_⟩ | refine ⟨_, _, _, _, true, rfl, .ty _, .base (.str _), kit_ty (by decide +kernel), ?_⟩ | refine ⟨_, _, rfl, ⟨by rw [sizeLine_eq]; omega, rfl⟩, ?_⟩ | refine ⟨_, _, rfl, .inl ⟨_, SqL.of (by assumption), rfl⟩, ?_⟩ | refine ⟨_, _, rfl, .inr ⟨_, SqT.of (by assumption), rfl⟩, ?_⟩))
      have q := k H1 s1
      rw [decide_eq_false (by omega)] at q
      exact q
theorem cal_is_room (T : Txt K mg A) (L : Lk base mg A cL PL) : Cal P w K mg base 7 "_is_room" (spIsRoom K (tabsL PL)) [] := by
  refine cal0 T.d_is_room T.b_is_room .nil sc_is_room (fun vs H Q E h => ?_) (fun cdv B outer s H vs Q E hr h => ?_)
  · obtain ⟨v, qv, a, things, rfl, _⟩ := h
    rfl
  · obtain ⟨v, qv, a, things, rfl, hv, ha, ht, k⟩ := h
    refine ⟨_, (pss_cons (ps_if (PW.pt (pw_or (pt_not (pt_val (pe_callB (isiK K) (by rfl) T.z_isinstance (by decide +kernel) (pa_cons (pv 0) (pa_cons (pe_bltn (v := .ty "tuple") (by rfl) T.z_tuple (by decide +kernel) rfl) pa_nil))))) (pw_or1 (pt_cmpR op_ne (pe_callB (lenK K) (by rfl) T.z_len (by decide +kernel) (pa_cons (pv 0) pa_nil)) pe_int (nomark _))))) (pss_one (ps_ret pe_bl)) pss_nil)
 (pss_one (ps_ret (pe_and (pe_c (cal_is_lot T L) hr (by decide) rfl (pa_cons (pe_ix (ixTK K) (pv 0) pe_int (fun _ _ => rfl)) (pa_cons (pv 1) pa_nil))) (pe_and (pe_c (cal_is_integer T) hr (by decide) rfl (pa_cons (pe_ix (ixTK K) (pv 0) pe_int (fun _ _ => rfl)) pa_nil)) (pe_one (pe_cmpR op_ge (pe_ix (ixTK K) (pv 0) pe_int (fun _ _ => rfl)) pe_int (nomark _)))))))), ?_⟩
    (repeat (first | refine ⟨_, rfl, ?_⟩ | refine ⟨rfl, ?_⟩ | refine ⟨_, _, rfl, rfl, ?_⟩ | refine iteT ?_ | refine iteF ?_ | refine ⟨(by show (0 : Int) < _; omega), ?_⟩ | refine ⟨(⟨by omega, by omega⟩ : CDiv _ _), ?_⟩ | refine ⟨(⟨by decide, by decide, by decide⟩ : CPow _ _), ?_⟩ | refine ⟨(.inl ⟨by omega, by omega⟩ : CMul _ _), ?_⟩ | refine ⟨(.inr ⟨by omega, by omega⟩ : CMul _ _), ?_⟩ | refine Or.inl ⟨_, rfl, ?_⟩ | refine Or.inr ⟨_, rfl, ?_⟩ | refine ⟨_, _, _, _, true, rfl, .ty _, .base (.str _), kit_ty (by decide +kernel), ?_⟩ | refine ⟨_, _, rfl, ⟨by rw [sizeLine_eq]; omega, rfl⟩, ?_⟩ | refine ⟨_, _, rfl, .inl ⟨_, SqL.of (by assumption), rfl⟩, ?_⟩ | refine ⟨_, _, rfl, .inr ⟨_, SqT.of (by assumption), rfl⟩, ?_⟩))
    cases hv with
    | no ty kt =>
      refine ⟨_, _, _, _, false, rfl, .ty _, ty, kt, ?_⟩
      (repeat (first | refine ⟨_, rfl, ?_⟩ | refine ⟨rfl, ?_⟩ | refine ⟨_, _, rfl, rfl, ?_⟩ | refine iteT ?_ | refine iteF ?_ | refine ⟨(by show (0 : Int) < _; omega), ?_⟩ | refine ⟨(⟨by omega, by omega⟩ : CDiv _ _), ?_⟩ | refine ⟨(⟨by decide, by decide, by decide⟩ : CPow _ _), ?_⟩ | refine ⟨(.inl ⟨by omega, by omega⟩ : CMul _ _), ?_⟩ | refine ⟨(.inr ⟨by omega, by omega⟩ : CMul _ _), ?_⟩ | refine Or.inl ⟨_, rfl, ?_⟩ | refine Or.inr ⟨_, rfl, ?_⟩ | refine ⟨_, _, _, _, true, rfl, .ty _, .base (.str _), kit_ty (by decide +kernel), ?_⟩ | refine ⟨_, _, rfl, ⟨by rw [sizeLine_eq]; omega, rfl⟩, ?_⟩ | refine ⟨_, _, rfl, .inl ⟨_, SqL.of (by assumption), rfl⟩, ?_⟩ | refine ⟨_, _, rfl, .inr ⟨_, SqT.of (by assumption), rfl⟩, ?_⟩))
      have q : Q (.bl false) H := k H (SmT.refl _ H)
      exact q
    | long hp hn =>
      refine ⟨_, _, _, _, true, rfl, .ty _, .base (.tup hp), kit_ty (by decide +kernel), ?_⟩
      (repeat (first | refine ⟨_, rfl, ?_⟩ | refine ⟨rfl, ?_⟩ | refine ⟨_, _, rfl, rfl, ?_⟩ | refine iteT ?_ | refine iteF ?_ | refine ⟨(by show (0 : Int) < _; omega), ?_⟩ | refine ⟨(⟨by omega, by omega⟩ : CDiv _ _), ?_⟩ | refine ⟨(⟨by decide, by decide, by decide⟩ : CPow _ _), ?_⟩ | refine ⟨(.inl ⟨by omega, by omega⟩ : CMul _ _), ?_⟩ | refine ⟨(.inr ⟨by omega, by omega⟩ : CMul _ _), ?_⟩ | refine Or.inl ⟨_, rfl, ?_⟩ | refine Or.inr ⟨_, rfl, ?_⟩ | refine ⟨_, _, _, _, true, rfl, .ty _, .base (.str _), kit_ty (by decide +kernel), ?_⟩ | refine ⟨_, _, rfl, ⟨by rw [sizeLine_eq]; omega, rfl⟩, ?_⟩ | refine ⟨_, _, rfl, .inl ⟨_, SqL.of (by assumption), rfl⟩, ?_⟩ | refine ⟨_, _, rfl, .inr ⟨_, SqT.of (by assumption), rfl⟩, ?_⟩))
      rw [decide_eq_false (fun e => hn (by have := V.int.inj e; omega))]
      (repeat (first | refine ⟨_, rfl, ?_⟩ | refine ⟨rfl, ?_⟩ | refine ⟨_, _, rfl, rfl, ?_⟩ | refine iteT ?_ | refine iteF ?_ | refine ⟨(by show (0 : Int) < _; omega), ?_⟩ | refine ⟨(⟨by omega, by omega⟩ : CDiv _ _), ?_⟩ | refine ⟨(⟨by decide, by decide, by decide⟩ : CPow _ _), ?_⟩ | refine ⟨(.inl ⟨by omega, by omega⟩ : CMul _ _), ?_⟩ | refine ⟨(.inr ⟨by omega, by omega⟩ : CMul _ _), ?_⟩ | refine Or.inl ⟨_, rfl, ?_⟩ | refine Or.inr ⟨_, rfl, ?_⟩ | refine ⟨_, _, _, _, true, rfl, .ty _, .base (.str _), kit_ty (by decide +kernel), ?_⟩ | refine ⟨_, _, rfl, ⟨by rw [sizeLine_eq]; omega, rfl⟩, ?_⟩ | refine ⟨_, _, rfl, .inl ⟨_, SqL.of (by assumption), rfl⟩, ?_⟩ | refine ⟨_, _, rfl, .inr ⟨_, SqT.of (by assumption), rfl⟩, ?_⟩))
      have q : Q (.bl false) H := k H (SmT.refl _ H)
      exact q
    | @pair p x y l o hp hx hy =>
      refine ⟨_, _, _, _, true, rfl, .ty _, .base (.tup hp), kit_ty (by decide +kernel), ?_⟩
      (repeat (first | refine ⟨_, rfl, ?_⟩ | refine ⟨rfl, ?_⟩ | refine ⟨_, _, rfl, rfl, ?_⟩ | refine iteT ?_ | refine iteF ?_ | refine ⟨(by show (0 : Int) < _; omega), ?_⟩ | refine ⟨(⟨by omega, by omega⟩ : CDiv _ _), ?_⟩ | refine ⟨(⟨by decide, by decide, by decide⟩ : CPow _ _), ?_⟩ | refine ⟨(.inl ⟨by omega, by omega⟩ : CMul _ _), ?_⟩ | refine ⟨(.inr ⟨by omega, by omega⟩ : CMul _ _), ?_⟩ | refine Or.inl ⟨_, rfl, ?_⟩ | refine Or.inr ⟨_, rfl, ?_⟩ | refine ⟨_, _, _, _, true, rfl, .ty _, .base (.str _), kit_ty (by decide +kernel), ?_⟩ | refine ⟨_, _, rfl, ⟨by rw [sizeLine_eq]; omega, rfl⟩, ?_⟩ | refine ⟨_, _, rfl, .inl ⟨_, SqL.of (by assumption), rfl⟩, ?_⟩ | refine ⟨_, _, rfl, .inr ⟨_, SqT.of (by assumption), rfl⟩, ?_⟩))
      refine ⟨p, _, 0, x, rfl, rfl, SqT.of hp, rfl, ?_⟩
      (repeat (first | refine ⟨_, rfl, ?_⟩ | refine ⟨rfl, ?_⟩ | refine ⟨_, _, rfl, rfl, ?_⟩ | refine iteT ?_ | refine iteF ?_ | refine ⟨(by show (0 : Int) < _; omega), ?_⟩ | refine ⟨(⟨by omega, by omega⟩ : CDiv _ _), ?_⟩ | refine ⟨(⟨by decide, by decide, by decide⟩ : CPow _ _), ?_⟩ | refine ⟨(.inl ⟨by omega, by omega⟩ : CMul _ _), ?_⟩ | refine ⟨(.inr ⟨by omega, by omega⟩ : CMul _ _), ?_⟩ | refine Or.inl ⟨_, rfl, ?_⟩ | refine Or.inr ⟨_, rfl, ?_⟩ | refine ⟨_, _, _, _, true, rfl, .ty _, .base (.str _), kit_ty (by decide +kernel), ?_⟩ | refine ⟨_, _, rfl, ⟨by rw [sizeLine_eq]; omega, rfl⟩, ?_⟩ | refine ⟨_, _, rfl, .inl ⟨_, SqL.of (by assumption), rfl⟩, ?_⟩ | refine ⟨_, _, rfl, .inr ⟨_, SqT.of (by assumption), rfl⟩, ?_⟩))
      refine ⟨x, l, a, things, rfl, hx, ha, ht, fun H1 s1 => ?_⟩
      cases hg : goodL things l with
      | false =>
        (repeat (first | refine ⟨_, rfl, ?_⟩ | refine ⟨rfl, ?_⟩ | refine ⟨_, _, rfl, rfl, ?_⟩ | refine iteT ?_ | refine iteF ?_ | refine ⟨(by show (0 : Int) < _; omega), ?_⟩ | refine ⟨(⟨by omega, by omega⟩ : CDiv _ _), ?_⟩ | refine ⟨(⟨by decide, by decide, by decide⟩ : CPow _ _), ?_⟩ | refine ⟨(.inl ⟨by omega, by omega⟩ : CMul _ _), ?_⟩ | refine ⟨(.inr ⟨by omega, by omega⟩ : CMul _ _), ?_⟩ | refine Or.inl ⟨_, rfl, ?_⟩ | refine Or.inr ⟨_, rfl, ?_⟩ | refine ⟨_, _, _, _, true, rfl, .ty _, .base (.str _), kit_ty (by decide +kernel), ?_⟩ | refine ⟨_, _, rfl, ⟨by rw [sizeLine_eq]; omega, rfl⟩, ?_⟩ | refine ⟨_, _, rfl, .inl ⟨_, SqL.of (by assumption), rfl⟩, ?_⟩ | refine ⟨_, _, rfl, .inr ⟨_, SqT.of (by assumption), rfl⟩, ?_⟩))
        have q := k H1 s1
        rw [show goodP things (.pair l o) = (goodL things l && _) from rfl, hg, Bool.false_and] at q
        exact q
      | true =>
        (repeat (first | refine ⟨_, rfl, ?_⟩ | refine ⟨rfl, ?_⟩ | refine ⟨_, _, rfl, rfl, ?_⟩ | refine iteT ?_ | refine iteF ?_ | refine ⟨(by show (0 : Int) < _; omega), ?_⟩ | refine ⟨(⟨by omega, by omega⟩ : CDiv _ _), ?_⟩ | refine ⟨(⟨by decide, by decide, by decide⟩ : CPow _ _), ?_⟩ | refine ⟨(.inl ⟨by omega, by omega⟩ : CMul _ _), ?_⟩ | refine ⟨(.inr ⟨by omega, by omega⟩ : CMul _ _), ?_⟩ | refine Or.inl ⟨_, rfl, ?_⟩ | refine Or.inr ⟨_, rfl, ?_⟩ | refine ⟨_, _, _, _, true, rfl, .ty _, .base (.str _), kit_ty (by decide +kernel), ?_⟩ | refine ⟨_, _, rfl, ⟨by rw [sizeLine_eq]; omega, rfl⟩, ?_⟩ | refine ⟨_, _, rfl, .inl ⟨_, SqL.of (by assumption), rfl⟩, ?_⟩ | refine ⟨_, _, rfl, .inr ⟨_, SqT.of (by assumption), rfl⟩, ?_⟩))
        refine ⟨p, _, 1, y, rfl, rfl, SqT.of (s1.keep _ _ rfl hp), rfl, ?_⟩
        (repeat (first | refine ⟨_, rfl, ?_⟩ | refine ⟨rfl, ?_⟩ | refine ⟨_, _, rfl, rfl, ?_⟩ | refine iteT ?_ | refine iteF ?_ | refine ⟨(by show (0 : Int) < _; omega), ?_⟩ | refine ⟨(⟨by omega, by omega⟩ : CDiv _ _), ?_⟩ | refine ⟨(⟨by decide, by decide, by decide⟩ : CPow _ _), ?_⟩ | refine ⟨(.inl ⟨by omega, by omega⟩ : CMul _ _), ?_⟩ | refine ⟨(.inr ⟨by omega, by omega⟩ : CMul _ _), ?_⟩ | refine Or.inl ⟨_, rfl, ?_⟩ | refine Or.inr ⟨_, rfl, ?_⟩ | refine ⟨_, _, _, _, true, rfl, .ty _, .base (.str _), kit_ty (by decide +kernel), ?_⟩ | refine ⟨_, _, rfl, ⟨by rw [sizeLine_eq]; omega, rfl⟩, ?_⟩ | refine ⟨_, _, rfl, .inl ⟨_, SqL.of (by assumption), rfl⟩, ?_⟩ | refine ⟨_, _, rfl, .inr ⟨_, SqT.of (by assumption), rfl⟩, ?_⟩))
        refine ⟨y, o, rfl, hy.sm s1, fun H2 s2 => ?_⟩
        have s12 := s1.trans (.of s2)
        cases hy with
        | int i =>
          (repeat (first | refine ⟨_, rfl, ?_⟩ | refine ⟨rfl, ?_⟩ | refine ⟨_, _, rfl, rfl, ?_⟩ | refine iteT ?_ | refine iteF ?_ | refine ⟨(by show (0 : Int) < _; omega), ?_⟩ | refine ⟨(⟨by omega, by omega⟩ : CDiv _ _), ?_⟩ | refine ⟨(⟨by decide, by decide, by decide⟩ : CPow _ _), ?_⟩ | refine ⟨(.inl ⟨by omega, by omega⟩ : CMul _ _), ?_⟩ | refine ⟨(.inr ⟨by omega, by omega⟩ : CMul _ _), ?_⟩ | refine Or.inl ⟨_, rfl, ?_⟩ | refine Or.inr ⟨_, rfl, ?_⟩ | refine ⟨_, _, _, _, true, rfl, .ty _, .base (.str _), kit_ty (by decide +kernel), ?_⟩ | refine ⟨_, _, rfl, ⟨by rw [sizeLine_eq]; omega, rfl⟩, ?_⟩ | refine ⟨_, _, rfl, .inl ⟨_, SqL.of (by assumption), rfl⟩, ?_⟩ | refine ⟨_, _, rfl, .inr ⟨_, SqT.of (by assumption), rfl⟩, ?_⟩))
          refine ⟨p, _, 1, .int i, rfl, rfl, SqT.of (s12.keep _ _ rfl hp), rfl, ?_⟩
          (repeat (first | refine ⟨_, rfl, ?_⟩ | refine ⟨rfl, ?_⟩ | refine ⟨_, _, rfl, rfl, ?_⟩ | refine iteT ?_ | refine iteF ?_ | refine ⟨(by show (0 : Int) < _; omega), ?_⟩ | refine ⟨(⟨by omega, by omega⟩ : CDiv _ _), ?_⟩ | refine ⟨(⟨by decide, by decide, by decide⟩ : CPow _ _), ?_⟩ | refine ⟨(.inl ⟨by omega, by omega⟩ : CMul _ _), ?_⟩ | refine ⟨(.inr ⟨by omega, by omega⟩ : CMul _ _), ?_⟩ | refine Or.inl ⟨_, rfl, ?_⟩ | refine Or.inr ⟨_, rfl, ?_⟩ | refine ⟨_, _, _, _, true, rfl, .ty _, .base (.str _), kit_ty (by decide +kernel), ?_⟩ | refine ⟨_, _, rfl, ⟨by rw [sizeLine_eq]; omega, rfl⟩, ?_⟩ | refine ⟨_, _, rfl, .inl ⟨_, SqL.of (by assumption), rfl⟩, ?_⟩ | refine ⟨_, _, rfl, .inr ⟨_, SqT.of (by assumption), rfl⟩, ?_⟩))
          have q := k H2 s12
          rw [show goodP things (.pair l (some i)) = (goodL things l && decide (0 ≤ i)) from rfl, hg, Bool.true_and] at q
          exact q
        | bl b =>
          (repeat (first | refine ⟨_, rfl, ?_⟩ | refine ⟨rfl, ?_⟩ | refine ⟨_, _, rfl, rfl, ?_⟩ | refine iteT ?_ | refine iteF ?_ | refine ⟨(by show (0 : Int) < _; omega), ?_⟩ | refine ⟨(⟨by omega, by omega⟩ : CDiv _ _), ?_⟩ | refine ⟨(⟨by decide, by decide, by decide⟩ : CPow _ _), ?_⟩ | refine ⟨(.inl ⟨by omega, by omega⟩ : CMul _ _), ?_⟩ | refine ⟨(.inr ⟨by omega, by omega⟩ : CMul _ _), ?_⟩ | refine Or.inl ⟨_, rfl, ?_⟩ | refine Or.inr ⟨_, rfl, ?_⟩ | refine ⟨_, _, _, _, true, rfl, .ty _, .base (.str _), kit_ty (by decide +kernel), ?_⟩ | refine ⟨_, _, rfl, ⟨by rw [sizeLine_eq]; omega, rfl⟩, ?_⟩ | refine ⟨_, _, rfl, .inl ⟨_, SqL.of (by assumption), rfl⟩, ?_⟩ | refine ⟨_, _, rfl, .inr ⟨_, SqT.of (by assumption), rfl⟩, ?_⟩))
          have q := k H2 s12
          rw [show goodP things (.pair l none) = (goodL things l && false) from rfl, hg, Bool.true_and] at q
          exact q
        | no ty kt =>
          (repeat (first | refine ⟨_, rfl, ?_⟩ | refine ⟨rfl, ?_⟩ | refine ⟨_, _, rfl, rfl, ?_⟩ | refine iteT ?_ | refine iteF ?_ | refine ⟨(by show (0 : Int) < _; omega), ?_⟩ | refine ⟨(⟨by omega, by omega⟩ : CDiv _ _), ?_⟩ | refine ⟨(⟨by decide, by decide, by decide⟩ : CPow _ _), ?_⟩ | refine ⟨(.inl ⟨by omega, by omega⟩ : CMul _ _), ?_⟩ | refine ⟨(.inr ⟨by omega, by omega⟩ : CMul _ _), ?_⟩ | refine Or.inl ⟨_, rfl, ?_⟩ | refine Or.inr ⟨_, rfl, ?_⟩ | refine ⟨_, _, _, _, true, rfl, .ty _, .base (.str _), kit_ty (by decide +kernel), ?_⟩ | refine ⟨_, _, rfl, ⟨by rw [sizeLine_eq]; omega, rfl⟩, ?_⟩ | refine ⟨_, _, rfl, .inl ⟨_, SqL.of (by assumption), rfl⟩, ?_⟩ | refine ⟨_, _, rfl, .inr ⟨_, SqT.of (by assumption), rfl⟩, ?_⟩))
          have q := k H2 s12
          rw [show goodP things (.pair l none) = (goodL things l && false) from rfl, hg, Bool.true_and] at q
          exact q
end
end BF47
set_option Elab.async false
set_option linter.all false
set_option maxRecDepth 100000
set_option maxHeartbeats 4000000
namespace BF47
open BF
open PySem PySem.Spec PyProof.Rows L2
open C8 (Cal CalAt Met Mak cal0 met0 mak0 fn0 pe_c pe_mk pe_mt pe_mt0 pe_gc fnScope fnBody fnArgs fnScope_by)
open SX
open LamX (Tabs TabB ExtN CodeO)
section
variable {P : Program} {w : World} {K : PySem.W.Frag} {mg : Str → Option Value} {base : Heap} {A : Ad} {cL PL : Addr}
theorem cal_checked_rooms (T : Txt K mg A) (L : Lk base mg A cL PL) : CalX P w K mg base 8 "_checked_rooms" (spCkR K (tabsL PL) A.C_BadRooms A.C_CrossedRooms) := by
  refine ⟨_, _, _, fnX T.d_checked_rooms.fn sc_checked_rooms (fun vs H Q E h => ?_) (fun cdv B outer s H vs Q E hr h => ?_), T.d_checked_rooms.mgf, T.d_checked_rooms.kp, T.b_checked_rooms⟩
  · obtain ⟨r, a, xs, ps, things, rfl, _⟩ := h
    rfl
  · obtain ⟨r, a, xs, ps, things, rfl, hr0, hp, hl, ha, ht, kM, kB, kX, kQ⟩ := h
    refine ⟨_, (pss_cons (ps_if (pt_cmpR op_gt (pe_callB (lenK K) (by rfl) T.z_len (by decide +kernel) (pa_cons (pv 0) pa_nil)) (pe_gint rfl T.g_MOST_ROOMS) (nomark _)) (pss_one (ps_raise rfl (takes_of rfl rfl rfl rfl) (pm_BadRooms T (hr.mono (by decide)) (pa_cons (pe_un un_neg pe_int) pa_nil)))) pss_nil)
 (pss_cons (ps_for (passes_of rfl) rfl (pi_enum (by rfl) T.z_enumerate (pa_cons (pv 0) pa_nil)) (pg_tup (by rfl) (pgs_cons (pg_name (i := 2) sc_checked_rooms.nd rfl (by first | exact Or.inl rfl | exact Or.inr rfl)) (pgs_cons (pg_name (i := 3) sc_checked_rooms.nd rfl (by first | exact Or.inl rfl | exact Or.inr rfl)) pgs_nil))) (pss_one (ps_if (pt_not (pt_val (pe_c (cal_is_room T L) hr (by decide) rfl (pa_cons (pv 3) (pa_cons (pv 1) pa_nil))))) (pss_one (ps_raise rfl (takes_of rfl rfl rfl rfl) (pm_BadRooms T (hr.mono (by decide)) (pa_cons (pv 2) pa_nil)))) pss_nil)))
 (pss_cons (ps_for (passes_of rfl) rfl (pi_enum (by rfl) T.z_enumerate (pa_cons (pv 0) pa_nil)) (pg_tup (by rfl) (pgs_cons (pg_name (i := 4) sc_checked_rooms.nd rfl (by first | exact Or.inl rfl | exact Or.inr rfl)) (pgs_cons (pg_tup (by rfl) (pgs_cons (pg_name (i := 5) sc_checked_rooms.nd rfl (by first | exact Or.inl rfl | exact Or.inr rfl)) (pgs_cons (pg_name (i := 6) sc_checked_rooms.nd rfl (by first | exact Or.inl rfl | exact Or.inr rfl)) pgs_nil))) pgs_nil))) (pss_one (ps_for (passes_of rfl) rfl (pi_range2 (by rfl) T.z_range (pa_cons (pe_op op_add (pv 4) pe_int) (pa_cons (pe_callB (lenK K) (by rfl) T.z_len (by decide +kernel) (pa_cons (pv 0) pa_nil)) pa_nil))) (pg_name (i := 7) sc_checked_rooms.nd rfl (by first | exact Or.inl rfl | exact Or.inr rfl)) (pss_one (ps_if (pt_val (pe_c (cal_are_crossed T) hr (by decide) rfl (pa_cons (pv 5) (pa_cons (pe_ix (ixTK K) (pe_ix (ixLK K) (pv 0) (pv 7) (fun _ _ => rfl)) pe_int (fun _ _ => rfl)) pa_nil)))) (pss_one (ps_raise rfl (takes_of rfl rfl rfl rfl) (pm_CrossedRooms T (hr.mono (by decide)) (pa_cons (pv 4) (pa_cons (pv 7) pa_nil))))) pss_nil)))))
 (pss_one (ps_ret (pe_lc (own := [("lot", 5), ("number", 8)]) (g := gTup _ 2 (gCons (gName 5) (gCons (gName 8) gNil))) rfl sc_checked_rooms.nd (pi_list (pv 0)) (blkOk_by (own := [("lot", 5), ("number", 8)]) (N := N_checked_rooms) (sc := fnScope s_checked_rooms) (by decide +kernel)) (fun _ _ _ _ _ => (by exact (pg_tup (by rfl) (pgs_cons (pg_name (i := 5) sc_checked_rooms.nd rfl (by first | exact Or.inl rfl | exact Or.inr rfl)) (pgs_cons (pg_name (i := 8) sc_checked_rooms.nd rfl (by first | exact Or.inl rfl | exact Or.inr rfl)) pgs_nil))))) (fun _ _ _ _ _ => pts_nil) (fun _ _ _ _ _ => (pe_tup (pa_cons (pe_callB (sortedSK K) (by rfl) T.z_sorted (by decide +kernel) (pa_cons (pv 5) pa_nil)) (pa_cons (pv 8) pa_nil)))))))))), ?_⟩
    have hlen : xs.length = ps.length := hp.length
    (repeat (first | refine ⟨_, rfl, ?_⟩ | refine ⟨rfl, ?_⟩ | refine ⟨_, _, rfl, rfl, ?_⟩ | refine iteT ?_ | refine iteF ?_ | refine ⟨(by show (0 : Int) < _; omega), ?_⟩ | refine ⟨(⟨by omega, by omega⟩ : CDiv _ _), ?_⟩ | refine ⟨(⟨by decide, by decide, by decide⟩ : CPow _ _), ?_⟩ | refine ⟨(.inl ⟨by omega, by omega⟩ : CMul _ _), ?_⟩ | refine ⟨(.inr ⟨by omega, by omega⟩ : CMul _ _), ?_⟩ | refine Or.inl ⟨_, rfl, ?_⟩ | refine Or.inr ⟨_, rfl, ?_⟩ | refine ⟨_, _, _, _, true, rfl, .ty _, .base (.str _), kit_ty (by decide +kernel), ?_⟩ | refine ⟨_, _, rfl, ⟨by rw [sizeLine_eq]; omega, rfl⟩, ?_⟩ | refine ⟨_, _, rfl, .inl ⟨_, SqL.of (by assumption), rfl⟩, ?_⟩ | refine ⟨_, _, rfl, .inr ⟨_, SqT.of (by assumption), rfl⟩, ?_⟩))
    refine ite2 (fun hb => ?_) (fun hb => ?_)
    · have h60 : 60 < ps.length := by
        have := of_decide_eq_true hb
        omega
      (repeat (first | refine ⟨_, rfl, ?_⟩ | refine ⟨rfl, ?_⟩ | refine ⟨_, _, rfl, rfl, ?_⟩ | refine iteT ?_ | refine iteF ?_ | refine ⟨(by show (0 : Int) < _; omega), ?_⟩ | refine ⟨(⟨by omega, by omega⟩ : CDiv _ _), ?_⟩ | refine ⟨(⟨by decide, by decide, by decide⟩ : CPow _ _), ?_⟩ | refine ⟨(.inl ⟨by omega, by omega⟩ : CMul _ _), ?_⟩ | refine ⟨(.inr ⟨by omega, by omega⟩ : CMul _ _), ?_⟩ | refine Or.inl ⟨_, rfl, ?_⟩ | refine Or.inr ⟨_, rfl, ?_⟩ | refine ⟨_, _, _, _, true, rfl, .ty _, .base (.str _), kit_ty (by decide +kernel), ?_⟩ | refine ⟨_, _, rfl, ⟨by rw [sizeLine_eq]; omega, rfl⟩, ?_⟩ | refine ⟨_, _, rfl, .inl ⟨_, SqL.of (by assumption), rfl⟩, ?_⟩ | refine ⟨_, _, rfl, .inr ⟨_, SqT.of (by assumption), rfl⟩, ?_⟩))
      exact fun d H1 _ s1 hd => kM h60 d H1 (.of s1) hd
    · have h60 : ps.length ≤ 60 := by
        simp at hb
        omega
      (repeat (first | refine ⟨_, rfl, ?_⟩ | refine ⟨rfl, ?_⟩ | refine ⟨_, _, rfl, rfl, ?_⟩ | refine iteT ?_ | refine iteF ?_ | refine ⟨(by show (0 : Int) < _; omega), ?_⟩ | refine ⟨(⟨by omega, by omega⟩ : CDiv _ _), ?_⟩ | refine ⟨(⟨by decide, by decide, by decide⟩ : CPow _ _), ?_⟩ | refine ⟨(.inl ⟨by omega, by omega⟩ : CMul _ _), ?_⟩ | refine ⟨(.inr ⟨by omega, by omega⟩ : CMul _ _), ?_⟩ | refine Or.inl ⟨_, rfl, ?_⟩ | refine Or.inr ⟨_, rfl, ?_⟩ | refine ⟨_, _, _, _, true, rfl, .ty _, .base (.str _), kit_ty (by decide +kernel), ?_⟩ | refine ⟨_, _, rfl, ⟨by rw [sizeLine_eq]; omega, rfl⟩, ?_⟩ | refine ⟨_, _, rfl, .inl ⟨_, SqL.of (by assumption), rfl⟩, ?_⟩ | refine ⟨_, _, rfl, .inr ⟨_, SqT.of (by assumption), rfl⟩, ?_⟩))
      refine ⟨r, xs, rfl, SqL.of hr0, for_it walk_enum (fun i σ H' => ∃ (v2 v3 : Option V), σ = [some (.ref r), some (.ref a), v2, v3, none, none, none, none, none] ∧ SmT (tabsL PL) H H' ∧ ∀ j, j < i → ∀ q, ps[j]? = some q → goodP things q = true)
        ⟨_, _, rfl, SmT.refl _ H, fun j hj => absurd hj (Nat.not_lt_zero _)⟩ (fun i σ H' _ ⟨_, _, _, s1, _⟩ => SqL.of (s1.keep _ _ rfl hr0)) ?_ ?_⟩
      · rintro i v σ H1 H2 hi ⟨v2, v3, rfl, s1, hok⟩ ⟨tp, y1, y2, rfl, ntp, rfl, e1, e2⟩
        have e2 : xs[i]? = some y2 := e2
        obtain ⟨q, hq, hqv⟩ := paired_at hp e2
        cases Option.some.inj e1
        have s2 : SmT (tabsL PL) H (upd H1 tp (.tup [V.int (i : Nat), y2])) := s1.new ntp
        refine ⟨tp, _, rfl, SqT.of upd_same, rfl, _, _, rfl, _, _, rfl, rfl, ?_⟩
        (repeat (first | refine ⟨_, rfl, ?_⟩ | refine ⟨rfl, ?_⟩ | refine ⟨_, _, rfl, rfl, ?_⟩ | refine iteT ?_ | refine iteF ?_ | refine ⟨(by show (0 : Int) < _; omega), ?_⟩ | refine ⟨(⟨by omega, by omega⟩ : CDiv _ _), ?_⟩ | refine ⟨(⟨by decide, by decide, by decide⟩ : CPow _ _), ?_⟩ | refine ⟨(.inl ⟨by omega, by omega⟩ : CMul _ _), ?_⟩ | refine ⟨(.inr ⟨by omega, by omega⟩ : CMul _ _), ?_⟩ | refine Or.inl ⟨_, rfl, ?_⟩ | refine Or.inr ⟨_, rfl, ?_⟩ | refine ⟨_, _, _, _, true, rfl, .ty _, .base (.str _), kit_ty (by decide +kernel), ?_⟩ | refine ⟨_, _, rfl, ⟨by rw [sizeLine_eq]; omega, rfl⟩, ?_⟩ | refine ⟨_, _, rfl, .inl ⟨_, SqL.of (by assumption), rfl⟩, ?_⟩ | refine ⟨_, _, rfl, .inr ⟨_, SqT.of (by assumption), rfl⟩, ?_⟩))
        refine ⟨y2, q, a, things, rfl, hqv.sm s2, s2.keep _ _ rfl ha, s2.tabs ht, fun H3 s3 => ?_⟩
        have s23 := s2.trans s3
        cases hg : goodP things q with
        | false =>
          (repeat (first | refine ⟨_, rfl, ?_⟩ | refine ⟨rfl, ?_⟩ | refine ⟨_, _, rfl, rfl, ?_⟩ | refine iteT ?_ | refine iteF ?_ | refine ⟨(by show (0 : Int) < _; omega), ?_⟩ | refine ⟨(⟨by omega, by omega⟩ : CDiv _ _), ?_⟩ | refine ⟨(⟨by decide, by decide, by decide⟩ : CPow _ _), ?_⟩ | refine ⟨(.inl ⟨by omega, by omega⟩ : CMul _ _), ?_⟩ | refine ⟨(.inr ⟨by omega, by omega⟩ : CMul _ _), ?_⟩ | refine Or.inl ⟨_, rfl, ?_⟩ | refine Or.inr ⟨_, rfl, ?_⟩ | refine ⟨_, _, _, _, true, rfl, .ty _, .base (.str _), kit_ty (by decide +kernel), ?_⟩ | refine ⟨_, _, rfl, ⟨by rw [sizeLine_eq]; omega, rfl⟩, ?_⟩ | refine ⟨_, _, rfl, .inl ⟨_, SqL.of (by assumption), rfl⟩, ?_⟩ | refine ⟨_, _, rfl, .inr ⟨_, SqT.of (by assumption), rfl⟩, ?_⟩))
          exact fun d H4 _ s4 hd => kB h60 i (badP_some hq hg hok) d H4 (s23.trans (.of s4)) hd
        | true =>
          (repeat (first | refine ⟨_, rfl, ?_⟩ | refine ⟨rfl, ?_⟩ | refine ⟨_, _, rfl, rfl, ?_⟩ | refine iteT ?_ | refine iteF ?_ | refine ⟨(by show (0 : Int) < _; omega), ?_⟩ | refine ⟨(⟨by omega, by omega⟩ : CDiv _ _), ?_⟩ | refine ⟨(⟨by decide, by decide, by decide⟩ : CPow _ _), ?_⟩ | refine ⟨(.inl ⟨by omega, by omega⟩ : CMul _ _), ?_⟩ | refine ⟨(.inr ⟨by omega, by omega⟩ : CMul _ _), ?_⟩ | refine Or.inl ⟨_, rfl, ?_⟩ | refine Or.inr ⟨_, rfl, ?_⟩ | refine ⟨_, _, _, _, true, rfl, .ty _, .base (.str _), kit_ty (by decide +kernel), ?_⟩ | refine ⟨_, _, rfl, ⟨by rw [sizeLine_eq]; omega, rfl⟩, ?_⟩ | refine ⟨_, _, rfl, .inl ⟨_, SqL.of (by assumption), rfl⟩, ?_⟩ | refine ⟨_, _, rfl, .inr ⟨_, SqT.of (by assumption), rfl⟩, ?_⟩))
          refine ⟨_, _, rfl, s23, fun j hj u hu => ?_⟩
          by_cases e : j = i
          · subst e
            rw [hq] at hu
            cases hu
            exact hg
          · exact hok j (by omega) u hu
      · rintro σ H1 ⟨v2, v3, rfl, s1, hok⟩
        rw [hlen] at hok
        obtain ⟨rs, ers, hrs⟩ := rooms_good (things := things) (ps := ps) fun q hq => by
          obtain ⟨j, hj⟩ := List.mem_iff_getElem?.mp hq
          exact hok j (List.getElem?_eq_some_iff.mp hj).1 q hj
        have hrl : rs.length = ps.length := by rw [ers, List.length_map]
        have inv : ∀ {j : Nat} {v : V}, xs[j]? = some v → ∃ u t q, rs[j]? = some u ∧ v = .ref t ∧ H t = some (.tup [.ref q, .int u.2]) ∧ H q = some (.lst (u.1.map V.str)) ∧ u.1.length ≤ 63 := by
          intro j v hv
          obtain ⟨z, hz, hzv⟩ := paired_at hp hv
          rw [ers, List.getElem?_map] at hz
          cases hu : rs[j]? with
          | none => rw [hu] at hz; cases hz
          | some u =>
            rw [hu] at hz
            cases hz
            obtain ⟨t, q, e, h1, h2, h3⟩ := pv_inv hzv
            exact ⟨u, t, q, rfl, e, h1, h2, h3⟩
        (repeat (first | refine ⟨_, rfl, ?_⟩ | refine ⟨rfl, ?_⟩ | refine ⟨_, _, rfl, rfl, ?_⟩ | refine iteT ?_ | refine iteF ?_ | refine ⟨(by show (0 : Int) < _; omega), ?_⟩ | refine ⟨(⟨by omega, by omega⟩ : CDiv _ _), ?_⟩ | refine ⟨(⟨by decide, by decide, by decide⟩ : CPow _ _), ?_⟩ | refine ⟨(.inl ⟨by omega, by omega⟩ : CMul _ _), ?_⟩ | refine ⟨(.inr ⟨by omega, by omega⟩ : CMul _ _), ?_⟩ | refine Or.inl ⟨_, rfl, ?_⟩ | refine Or.inr ⟨_, rfl, ?_⟩ | refine ⟨_, _, _, _, true, rfl, .ty _, .base (.str _), kit_ty (by decide +kernel), ?_⟩ | refine ⟨_, _, rfl, ⟨by rw [sizeLine_eq]; omega, rfl⟩, ?_⟩ | refine ⟨_, _, rfl, .inl ⟨_, SqL.of (by assumption), rfl⟩, ?_⟩ | refine ⟨_, _, rfl, .inr ⟨_, SqT.of (by assumption), rfl⟩, ?_⟩))
        refine ⟨r, xs, rfl, SqL.of (s1.keep _ _ rfl hr0), for_it walk_enum (fun i σ H' => ∃ (v4 v5 v6 v7 : Option V), σ = [some (.ref r), some (.ref a), v2, v3, v4, v5, v6, v7, none] ∧ SmT (tabsL PL) H H' ∧ ∀ x y, x < i → x < y → y < rs.length → xr rs x y = false)
          ⟨_, _, _, _, rfl, s1, fun x y hx => absurd hx (Nat.not_lt_zero _)⟩ (fun i σ H' _ ⟨_, _, _, _, _, s1, _⟩ => SqL.of (s1.keep _ _ rfl hr0)) ?_ ?_⟩
        · rintro i v σ H2 H3 hi ⟨v4, v5, v6, v7, rfl, s2, hno⟩ ⟨tp, y1, y2, rfl, ntp, rfl, e1, e2⟩
          have e2 : xs[i]? = some y2 := e2
          obtain ⟨u, t, q, hu, rfl, ht1, hq1, _⟩ := inv e2
          cases Option.some.inj e1
          have s3 : SmT (tabsL PL) H (upd H2 tp (.tup [V.int (i : Nat), .ref t])) := s2.new ntp
          refine ⟨tp, _, rfl, SqT.of upd_same, rfl, _, _, rfl, _, _, rfl, t, _, rfl, SqT.of (s3.keep _ _ rfl ht1), rfl, ?_⟩
          refine ⟨_, _, rfl, _, _, rfl, rfl, rfl, ?_⟩
          try dsimp only
          (repeat (first | refine ⟨_, rfl, ?_⟩ | refine ⟨rfl, ?_⟩ | refine ⟨_, _, rfl, rfl, ?_⟩ | refine iteT ?_ | refine iteF ?_ | refine ⟨(by show (0 : Int) < _; omega), ?_⟩ | refine ⟨(⟨by omega, by omega⟩ : CDiv _ _), ?_⟩ | refine ⟨(⟨by decide, by decide, by decide⟩ : CPow _ _), ?_⟩ | refine ⟨(.inl ⟨by omega, by omega⟩ : CMul _ _), ?_⟩ | refine ⟨(.inr ⟨by omega, by omega⟩ : CMul _ _), ?_⟩ | refine Or.inl ⟨_, rfl, ?_⟩ | refine Or.inr ⟨_, rfl, ?_⟩ | refine ⟨_, _, _, _, true, rfl, .ty _, .base (.str _), kit_ty (by decide +kernel), ?_⟩ | refine ⟨_, _, rfl, ⟨by rw [sizeLine_eq]; omega, rfl⟩, ?_⟩ | refine ⟨_, _, rfl, .inl ⟨_, SqL.of (by assumption), rfl⟩, ?_⟩ | refine ⟨_, _, rfl, .inr ⟨_, SqT.of (by assumption), rfl⟩, ?_⟩))
          refine ⟨_, _, rfl, .inl ⟨_, SqL.of (s3.keep _ _ rfl hr0), rfl⟩, ?_⟩
          (repeat (first | refine ⟨_, rfl, ?_⟩ | refine ⟨rfl, ?_⟩ | refine ⟨_, _, rfl, rfl, ?_⟩ | refine iteT ?_ | refine iteF ?_ | refine ⟨(by show (0 : Int) < _; omega), ?_⟩ | refine ⟨(⟨by omega, by omega⟩ : CDiv _ _), ?_⟩ | refine ⟨(⟨by decide, by decide, by decide⟩ : CPow _ _), ?_⟩ | refine ⟨(.inl ⟨by omega, by omega⟩ : CMul _ _), ?_⟩ | refine ⟨(.inr ⟨by omega, by omega⟩ : CMul _ _), ?_⟩ | refine Or.inl ⟨_, rfl, ?_⟩ | refine Or.inr ⟨_, rfl, ?_⟩ | refine ⟨_, _, _, _, true, rfl, .ty _, .base (.str _), kit_ty (by decide +kernel), ?_⟩ | refine ⟨_, _, rfl, ⟨by rw [sizeLine_eq]; omega, rfl⟩, ?_⟩ | refine ⟨_, _, rfl, .inl ⟨_, SqL.of (by assumption), rfl⟩, ?_⟩ | refine ⟨_, _, rfl, .inr ⟨_, SqT.of (by assumption), rfl⟩, ?_⟩))
          have hix : i < rs.length := (List.getElem?_eq_some_iff.mp hu).1
          refine ⟨_, _, rfl, ⟨by omega, by omega, by omega, by omega⟩, for_it walk_range (fun j σ H' => ∃ (v7 : Option V), σ = [some (.ref r), some (.ref a), v2, v3, some (.int (i : Nat)), some (.ref q), some (.int u.2), v7, none] ∧ SmT (tabsL PL) H H' ∧ ∀ y, i < y → y < i + 1 + j → xr rs i y = false)
            ⟨_, rfl, s3, fun y h1 h2 => by omega⟩ (fun _ _ _ _ _ => True.intro) ?_ ?_⟩
          · rintro j v σ H4 H5 hj ⟨v7, rfl, s4, hno2⟩ ⟨rfl, rfl⟩
            have hj2 : i + 1 + j < xs.length := by omega
            obtain ⟨u2, t2, q2, hu2, e2', ht2, hq2, hl2⟩ := inv (List.getElem?_eq_getElem hj2)
            (repeat (first | refine ⟨_, rfl, ?_⟩ | refine ⟨rfl, ?_⟩ | refine ⟨_, _, rfl, rfl, ?_⟩ | refine iteT ?_ | refine iteF ?_ | refine ⟨(by show (0 : Int) < _; omega), ?_⟩ | refine ⟨(⟨by omega, by omega⟩ : CDiv _ _), ?_⟩ | refine ⟨(⟨by decide, by decide, by decide⟩ : CPow _ _), ?_⟩ | refine ⟨(.inl ⟨by omega, by omega⟩ : CMul _ _), ?_⟩ | refine ⟨(.inr ⟨by omega, by omega⟩ : CMul _ _), ?_⟩ | refine Or.inl ⟨_, rfl, ?_⟩ | refine Or.inr ⟨_, rfl, ?_⟩ | refine ⟨_, _, _, _, true, rfl, .ty _, .base (.str _), kit_ty (by decide +kernel), ?_⟩ | refine ⟨_, _, rfl, ⟨by rw [sizeLine_eq]; omega, rfl⟩, ?_⟩ | refine ⟨_, _, rfl, .inl ⟨_, SqL.of (by assumption), rfl⟩, ?_⟩ | refine ⟨_, _, rfl, .inr ⟨_, SqT.of (by assumption), rfl⟩, ?_⟩))
            refine ⟨r, xs, _, _, rfl, rfl, SqL.of (s4.keep _ _ rfl hr0), atI_nat (j := i + 1 + j) (List.getElem?_eq_getElem hj2), ?_⟩
            rw [e2']
            (repeat (first | refine ⟨_, rfl, ?_⟩ | refine ⟨rfl, ?_⟩ | refine ⟨_, _, rfl, rfl, ?_⟩ | refine iteT ?_ | refine iteF ?_ | refine ⟨(by show (0 : Int) < _; omega), ?_⟩ | refine ⟨(⟨by omega, by omega⟩ : CDiv _ _), ?_⟩ | refine ⟨(⟨by decide, by decide, by decide⟩ : CPow _ _), ?_⟩ | refine ⟨(.inl ⟨by omega, by omega⟩ : CMul _ _), ?_⟩ | refine ⟨(.inr ⟨by omega, by omega⟩ : CMul _ _), ?_⟩ | refine Or.inl ⟨_, rfl, ?_⟩ | refine Or.inr ⟨_, rfl, ?_⟩ | refine ⟨_, _, _, _, true, rfl, .ty _, .base (.str _), kit_ty (by decide +kernel), ?_⟩ | refine ⟨_, _, rfl, ⟨by rw [sizeLine_eq]; omega, rfl⟩, ?_⟩ | refine ⟨_, _, rfl, .inl ⟨_, SqL.of (by assumption), rfl⟩, ?_⟩ | refine ⟨_, _, rfl, .inr ⟨_, SqT.of (by assumption), rfl⟩, ?_⟩))
            refine ⟨t2, _, 0, .ref q2, rfl, rfl, SqT.of (s4.keep _ _ rfl ht2), rfl, ?_⟩
            (repeat (first | refine ⟨_, rfl, ?_⟩ | refine ⟨rfl, ?_⟩ | refine ⟨_, _, rfl, rfl, ?_⟩ | refine iteT ?_ | refine iteF ?_ | refine ⟨(by show (0 : Int) < _; omega), ?_⟩ | refine ⟨(⟨by omega, by omega⟩ : CDiv _ _), ?_⟩ | refine ⟨(⟨by decide, by decide, by decide⟩ : CPow _ _), ?_⟩ | refine ⟨(.inl ⟨by omega, by omega⟩ : CMul _ _), ?_⟩ | refine ⟨(.inr ⟨by omega, by omega⟩ : CMul _ _), ?_⟩ | refine Or.inl ⟨_, rfl, ?_⟩ | refine Or.inr ⟨_, rfl, ?_⟩ | refine ⟨_, _, _, _, true, rfl, .ty _, .base (.str _), kit_ty (by decide +kernel), ?_⟩ | refine ⟨_, _, rfl, ⟨by rw [sizeLine_eq]; omega, rfl⟩, ?_⟩ | refine ⟨_, _, rfl, .inl ⟨_, SqL.of (by assumption), rfl⟩, ?_⟩ | refine ⟨_, _, rfl, .inr ⟨_, SqT.of (by assumption), rfl⟩, ?_⟩))
            refine ⟨q, q2, u.1, u2.1, rfl, s4.keep _ _ rfl hq1, s4.keep _ _ rfl hq2, by omega, fun H6 s6 => ?_⟩
            have s46 := s4.trans (.of s6)
            have hxr : xr rs i (i + 1 + j) = crossedB u.1 u2.1 := by
              unfold xr
              rw [hu, hu2]
            have hlr : i + 1 + j < rs.length := (List.getElem?_eq_some_iff.mp hu2).1
            cases hc : crossedB u.1 u2.1 with
            | true =>
              (repeat (first | refine ⟨_, rfl, ?_⟩ | refine ⟨rfl, ?_⟩ | refine ⟨_, _, rfl, rfl, ?_⟩ | refine iteT ?_ | refine iteF ?_ | refine ⟨(by show (0 : Int) < _; omega), ?_⟩ | refine ⟨(⟨by omega, by omega⟩ : CDiv _ _), ?_⟩ | refine ⟨(⟨by decide, by decide, by decide⟩ : CPow _ _), ?_⟩ | refine ⟨(.inl ⟨by omega, by omega⟩ : CMul _ _), ?_⟩ | refine ⟨(.inr ⟨by omega, by omega⟩ : CMul _ _), ?_⟩ | refine Or.inl ⟨_, rfl, ?_⟩ | refine Or.inr ⟨_, rfl, ?_⟩ | refine ⟨_, _, _, _, true, rfl, .ty _, .base (.str _), kit_ty (by decide +kernel), ?_⟩ | refine ⟨_, _, rfl, ⟨by rw [sizeLine_eq]; omega, rfl⟩, ?_⟩ | refine ⟨_, _, rfl, .inl ⟨_, SqL.of (by assumption), rfl⟩, ?_⟩ | refine ⟨_, _, rfl, .inr ⟨_, SqT.of (by assumption), rfl⟩, ?_⟩))
              refine ⟨_, _, rfl, fun d H7 _ s7 hdd => ?_⟩
              have cx : CrossAt rs i (i + 1 + j) := ⟨by omega, hlr, by rw [hxr, hc], fun x y hxy hy hlt => by
                rcases hlt with h | ⟨h1, h2⟩
                · exact hno x y h hxy hy
                · rw [h1]
                  exact hno2 y (by omega) h2⟩
              refine kX h60 rs i (i + 1 + j) ers hrs cx d H7 (s46.trans (.of s7)) ?_
              rw [show (((i + 1 + j : Nat)) : Int) = (i : Int) + 1 + (j : Int) from by omega]
              exact hdd
            | false =>
              (repeat (first | refine ⟨_, rfl, ?_⟩ | refine ⟨rfl, ?_⟩ | refine ⟨_, _, rfl, rfl, ?_⟩ | refine iteT ?_ | refine iteF ?_ | refine ⟨(by show (0 : Int) < _; omega), ?_⟩ | refine ⟨(⟨by omega, by omega⟩ : CDiv _ _), ?_⟩ | refine ⟨(⟨by decide, by decide, by decide⟩ : CPow _ _), ?_⟩ | refine ⟨(.inl ⟨by omega, by omega⟩ : CMul _ _), ?_⟩ | refine ⟨(.inr ⟨by omega, by omega⟩ : CMul _ _), ?_⟩ | refine Or.inl ⟨_, rfl, ?_⟩ | refine Or.inr ⟨_, rfl, ?_⟩ | refine ⟨_, _, _, _, true, rfl, .ty _, .base (.str _), kit_ty (by decide +kernel), ?_⟩ | refine ⟨_, _, rfl, ⟨by rw [sizeLine_eq]; omega, rfl⟩, ?_⟩ | refine ⟨_, _, rfl, .inl ⟨_, SqL.of (by assumption), rfl⟩, ?_⟩ | refine ⟨_, _, rfl, .inr ⟨_, SqT.of (by assumption), rfl⟩, ?_⟩))
              refine ⟨s46, fun y h1 h2 => ?_⟩
              by_cases e : y = i + 1 + j
              · rw [e, hxr, hc]
              · exact hno2 y h1 (by omega)
          · rintro σ H4 ⟨v7, rfl, s4, hno2⟩
            refine ⟨_, _, _, _, rfl, s4, fun x y hx hxy hy => ?_⟩
            by_cases e : x = i
            · subst e
              exact hno2 y hxy (by omega)
            · exact hno x y (by omega) hxy hy
        · rintro σ H2 ⟨v4, v5, v6, v7, rfl, s2, hno⟩
          have nox : NoX rs := fun x y hxy hy => hno x y (by omega) hxy hy
          (repeat (first | refine ⟨_, rfl, ?_⟩ | refine ⟨rfl, ?_⟩ | refine ⟨_, _, rfl, rfl, ?_⟩ | refine iteT ?_ | refine iteF ?_ | refine ⟨(by show (0 : Int) < _; omega), ?_⟩ | refine ⟨(⟨by omega, by omega⟩ : CDiv _ _), ?_⟩ | refine ⟨(⟨by decide, by decide, by decide⟩ : CPow _ _), ?_⟩ | refine ⟨(.inl ⟨by omega, by omega⟩ : CMul _ _), ?_⟩ | refine ⟨(.inr ⟨by omega, by omega⟩ : CMul _ _), ?_⟩ | refine Or.inl ⟨_, rfl, ?_⟩ | refine Or.inr ⟨_, rfl, ?_⟩ | refine ⟨_, _, _, _, true, rfl, .ty _, .base (.str _), kit_ty (by decide +kernel), ?_⟩ | refine ⟨_, _, rfl, ⟨by rw [sizeLine_eq]; omega, rfl⟩, ?_⟩ | refine ⟨_, _, rfl, .inl ⟨_, SqL.of (by assumption), rfl⟩, ?_⟩ | refine ⟨_, _, rfl, .inr ⟨_, SqT.of (by assumption), rfl⟩, ?_⟩))
          refine ⟨⟨_, SqL.of (s2.keep _ _ rfl hr0)⟩, fun D nD => ?_⟩
          have fD : Fre H D := s2.free nD
          refine lc_it walk_list (fun i H' => ∃ vs : List V, SmT (tabsL PL) H H' ∧ H' D = some (.lst vs) ∧ Paired (RoomK (fun a => Fre H a ∧ a ≠ D) H') vs ((rs.take i).map srtR))
            ⟨[], s2.new nD, upd_same, .nil⟩ (fun _ H' _ ⟨_, q, _⟩ => SqL.of (q.keep _ _ rfl hr0)) ?_ ?_
          · rintro i v H4 H5 hi ⟨vs, s4, hD, hP⟩ ⟨rfl, hv⟩
            obtain ⟨u, t, q, hu, rfl, ht1, hq1, hl1⟩ := inv hv
            refine ⟨t, _, rfl, SqT.of (s4.keep _ _ rfl ht1), rfl, _, _, rfl, _, _, rfl, rfl, rfl, ?_⟩
            (repeat (first | refine ⟨_, rfl, ?_⟩ | refine ⟨rfl, ?_⟩ | refine ⟨_, _, rfl, rfl, ?_⟩ | refine iteT ?_ | refine iteF ?_ | refine ⟨(by show (0 : Int) < _; omega), ?_⟩ | refine ⟨(⟨by omega, by omega⟩ : CDiv _ _), ?_⟩ | refine ⟨(⟨by decide, by decide, by decide⟩ : CPow _ _), ?_⟩ | refine ⟨(.inl ⟨by omega, by omega⟩ : CMul _ _), ?_⟩ | refine ⟨(.inr ⟨by omega, by omega⟩ : CMul _ _), ?_⟩ | refine Or.inl ⟨_, rfl, ?_⟩ | refine Or.inr ⟨_, rfl, ?_⟩ | refine ⟨_, _, _, _, true, rfl, .ty _, .base (.str _), kit_ty (by decide +kernel), ?_⟩ | refine ⟨_, _, rfl, ⟨by rw [sizeLine_eq]; omega, rfl⟩, ?_⟩ | refine ⟨_, _, rfl, .inl ⟨_, SqL.of (by assumption), rfl⟩, ?_⟩ | refine ⟨_, _, rfl, .inr ⟨_, SqT.of (by assumption), rfl⟩, ?_⟩))
            refine ⟨q, u.1, rfl, SqL.of (s4.keep _ _ rfl hq1), by omega, fun ys l pm so nl => ?_⟩
            rw [sortS_eq pm so]
            (repeat (first | refine ⟨_, rfl, ?_⟩ | refine ⟨rfl, ?_⟩ | refine ⟨_, _, rfl, rfl, ?_⟩ | refine iteT ?_ | refine iteF ?_ | refine ⟨(by show (0 : Int) < _; omega), ?_⟩ | refine ⟨(⟨by omega, by omega⟩ : CDiv _ _), ?_⟩ | refine ⟨(⟨by decide, by decide, by decide⟩ : CPow _ _), ?_⟩ | refine ⟨(.inl ⟨by omega, by omega⟩ : CMul _ _), ?_⟩ | refine ⟨(.inr ⟨by omega, by omega⟩ : CMul _ _), ?_⟩ | refine Or.inl ⟨_, rfl, ?_⟩ | refine Or.inr ⟨_, rfl, ?_⟩ | refine ⟨_, _, _, _, true, rfl, .ty _, .base (.str _), kit_ty (by decide +kernel), ?_⟩ | refine ⟨_, _, rfl, ⟨by rw [sizeLine_eq]; omega, rfl⟩, ?_⟩ | refine ⟨_, _, rfl, .inl ⟨_, SqL.of (by assumption), rfl⟩, ?_⟩ | refine ⟨_, _, rfl, .inr ⟨_, SqT.of (by assumption), rfl⟩, ?_⟩))
            refine ⟨(by show 2 ≤ sizeLine; rw [sizeLine_eq]; omega), fun z nz => ?_⟩
            have s5 : SmT (tabsL PL) H (upd H5 l (.lst ((sortS u.1).map V.str))) := s4.new nl
            have lD : l ≠ D := fun e => by rw [e, hD] at nl; cases nl
            have zl : z ≠ l := fun e => by rw [e, upd_same] at nz; cases nz
            have zD : z ≠ D := fun e => by rw [e, upd_ne lD.symm, hD] at nz; cases nz
            have fl : Fre H l := s4.free nl
            have fz : Fre H z := s5.free nz
            have s6 : SmT (tabsL PL) H (upd (upd H5 l (.lst ((sortS u.1).map V.str))) z (.tup [.ref l, .int u.2])) := s5.new nz
            have hD6 : upd (upd H5 l (.lst ((sortS u.1).map V.str))) z (.tup [.ref l, .int u.2]) D = some (.lst vs) := by rw [upd_ne zD.symm, upd_ne lD.symm]; exact hD
            have lv : vs.length = i := by
              rw [hP.length, List.length_map, List.length_take]
              have := (List.getElem?_eq_some_iff.mp hu).1
              omega
            refine ⟨_, hD6, small1000 (by omega), vs ++ [.ref z], s6.chg fD hD6, upd_same, ?_⟩
            rw [take_snoc srtR hu]
            refine Paired.snoc ⟨z, l, rfl, ⟨fz, zD⟩, ?_, ⟨fl, lD⟩, ?_⟩ (Paired.imp (fun _ _ ⟨t2, q2, e1, n1, e2, n2, e3⟩ => ⟨t2, q2, e1, n1, ?_, n2, ?_⟩) hP)
            · rw [upd_ne zD, upd_same]
              rfl
            · rw [upd_ne lD, upd_ne zl.symm, upd_same]
              rfl
            · have h1 : t2 ≠ z := fun e => by rw [← e, upd_ne (fun e3 => by rw [e3, nl] at e2; cases e2), e2] at nz; cases nz
              have h2 : t2 ≠ l := fun e => by rw [e, nl] at e2; cases e2
              rw [upd_ne n1.2, upd_ne h1, upd_ne h2]
              exact e2
            · have h2 : q2 ≠ l := fun e => by rw [e, nl] at e3; cases e3
              have h1 : q2 ≠ z := fun e => by rw [← e, upd_ne h2, e3] at nz; cases nz
              rw [upd_ne n2.2, upd_ne h1, upd_ne h2]
              exact e3
          · rintro H4 ⟨vs, s4, hD, hP⟩
            rw [hlen, ← hrl, List.take_of_length_le (Nat.le_refl _)] at hP
            exact kQ h60 rs ers hrs nox D H4 s4 ⟨fD, vs, hD, roomK_wk hP fun a ha => ha.1⟩
end
end BF47
set_option Elab.async false
set_option linter.all false
set_option maxRecDepth 100000
set_option maxHeartbeats 4000000
namespace BF47
open BF
open PySem PySem.Spec PyProof.Rows L2
open C8 (Cal CalAt Met Mak cal0 met0 mak0 fn0 pe_c pe_mk pe_mt pe_mt0 pe_gc fnScope fnBody fnArgs fnScope_by)
open SX
open LamX (Tabs TabB ExtN CodeO)
section
variable {P : Program} {w : World} {K : PySem.W.Frag} {mg : Str → Option Value} {base : Heap} {A : Ad} {cL PL : Addr}
theorem ok_Counts__init (T : Txt K mg A) (L : Lk base mg A cL PL) : FnOk P w K mg base (L2.CX P w) 9 A.f_Counts__init A.fd_Counts__init ["self", "things", "rooms"] (spCI K (tabsL PL) A.C_Counts A.C_BadThings A.C_BadRooms A.C_CrossedRooms) := by
  refine fnX T.u_Counts__init sc_Counts__init (fun vs H Q E h => ?_) (fun cdv B outer s H vs Q E hr h => ?_)
  · obtain ⟨x, dx, a, r, xs, ys, os, ps, rfl, _⟩ := h
    rfl
  · obtain ⟨x, dx, a, r, xs, ys, os, ps, rfl, hx, ha, he, hl, hz, hr0, hp, hpl, ht, kT, kR⟩ := h
    refine ⟨_, (pss_cons (ps_fld (pv 0) (by exact (pe_cX (cal_sorted_things T) hr (by decide) rfl (pa_cons (pv 1) (pa_cons (pe_gint rfl T.g_MOST_THINGS) pa_nil)) (takes_of rfl rfl rfl rfl))) rfl)
 (pss_one (ps_fld (pv 0) (by exact (pe_cX (cal_checked_rooms T L) hr (by decide) rfl (pa_cons (pv 2) (pa_cons (pe_fldK K (pv 0) rfl) pa_nil)) (takes_of rfl rfl rfl rfl))) rfl))), ?_⟩
    (repeat (first | refine ⟨_, rfl, ?_⟩ | refine ⟨rfl, ?_⟩ | refine ⟨_, _, rfl, rfl, ?_⟩ | refine iteT ?_ | refine iteF ?_ | refine ⟨(by show (0 : Int) < _; omega), ?_⟩ | refine ⟨(⟨by omega, by omega⟩ : CDiv _ _), ?_⟩ | refine ⟨(⟨by decide, by decide, by decide⟩ : CPow _ _), ?_⟩ | refine ⟨(.inl ⟨by omega, by omega⟩ : CMul _ _), ?_⟩ | refine ⟨(.inr ⟨by omega, by omega⟩ : CMul _ _), ?_⟩ | refine Or.inl ⟨_, rfl, ?_⟩ | refine Or.inr ⟨_, rfl, ?_⟩ | refine ⟨_, _, _, _, true, rfl, .ty _, .base (.str _), kit_ty (by decide +kernel), ?_⟩ | refine ⟨_, _, rfl, ⟨by rw [sizeLine_eq]; omega, rfl⟩, ?_⟩ | refine ⟨_, _, rfl, .inl ⟨_, SqL.of (by assumption), rfl⟩, ?_⟩ | refine ⟨_, _, rfl, .inr ⟨_, SqT.of (by assumption), rfl⟩, ?_⟩))
    refine ⟨a, xs, os, rfl, ha, he, hl, hz, fun k hk d H1 s1 hd => kT k hk d H1 (.of (.of s1)) hd, fun zs h0 ez t H1 nt s1 ht1 => ?_⟩
    obtain ⟨kM, kB, kX, kQ⟩ := kR zs h0 ez
    have tx : t ≠ x := fun e => by rw [e, hx] at nt; cases nt
    refine ⟨_, rfl, x, A.C_Counts, dx, [], rfl, s1 _ _ hx, T.cl_Counts, T.na_Counts__things, (by decide), ?_⟩
    have f1 : ∀ b o, b ≠ x → H b = some o → upd H1 x (.ins A.C_Counts dx (putF "_things" (.ref t) [])) b = some o := fun b o n e => by rw [upd_ne n]; exact s1 _ _ e
    have t1 : Tabs (tabsL PL) (upd H1 x (.ins A.C_Counts dx (putF "_things" (.ref t) []))) := tabs_upd (ht.ext s1) fun u e => by rw [s1 _ _ hx] at e; cases e; rfl
    have ax : a ≠ x := fun e => by rw [e, hx] at ha; cases ha
    have rx : r ≠ x := fun e => by rw [e, hx] at hr0; cases hr0
    have ht2 : upd H1 x (.ins A.C_Counts dx (putF "_things" (.ref t) [])) t = some (.lst ((sortS zs).map V.str)) := by rw [upd_ne tx]; exact ht1
    have hx2 : upd H1 x (.ins A.C_Counts dx (putF "_things" (.ref t) [])) x = some (.ins A.C_Counts dx (putF "_things" (.ref t) [])) := upd_same
    have hp2 : Paired (PVr K (upd H1 x (.ins A.C_Counts dx (putF "_things" (.ref t) [])))) ys ps := Paired.imp (fun v p q => (q.sm (T := []) (.of s1)).fwI (s1 _ _ hx) hx2 fun b o n e => by rw [upd_ne n]; exact e) hp
    generalize upd H1 x (.ins A.C_Counts dx (putF "_things" (.ref t) [])) = H2 at *
    (repeat (first | refine ⟨_, rfl, ?_⟩ | refine ⟨rfl, ?_⟩ | refine ⟨_, _, rfl, rfl, ?_⟩ | refine iteT ?_ | refine iteF ?_ | refine ⟨(by show (0 : Int) < _; omega), ?_⟩ | refine ⟨(⟨by omega, by omega⟩ : CDiv _ _), ?_⟩ | refine ⟨(⟨by decide, by decide, by decide⟩ : CPow _ _), ?_⟩ | refine ⟨(.inl ⟨by omega, by omega⟩ : CMul _ _), ?_⟩ | refine ⟨(.inr ⟨by omega, by omega⟩ : CMul _ _), ?_⟩ | refine Or.inl ⟨_, rfl, ?_⟩ | refine Or.inr ⟨_, rfl, ?_⟩ | refine ⟨_, _, _, _, true, rfl, .ty _, .base (.str _), kit_ty (by decide +kernel), ?_⟩ | refine ⟨_, _, rfl, ⟨by rw [sizeLine_eq]; omega, rfl⟩, ?_⟩ | refine ⟨_, _, rfl, .inl ⟨_, SqL.of (by assumption), rfl⟩, ?_⟩ | refine ⟨_, _, rfl, .inr ⟨_, SqT.of (by assumption), rfl⟩, ?_⟩))
    have ft : FrT (tabsL PL) x H H2 := ⟨fun b o n _ e => f1 b o n e, fun _ => t1⟩
    have tr : ∀ {H3}, SmT (tabsL PL) H2 H3 → FrT (tabsL PL) x H H3 := fun s => ⟨fun b o n m e => s.keep b o m (f1 b o n e), fun _ => s.tabs t1⟩
    refine ⟨x, A.C_Counts, dx, _, .ref t, rfl, hx2, T.cl_Counts, T.na_Counts__things, (by rw [lookup_putF, if_pos rfl]), ?_⟩
    (repeat (first | refine ⟨_, rfl, ?_⟩ | refine ⟨rfl, ?_⟩ | refine ⟨_, _, rfl, rfl, ?_⟩ | refine iteT ?_ | refine iteF ?_ | refine ⟨(by show (0 : Int) < _; omega), ?_⟩ | refine ⟨(⟨by omega, by omega⟩ : CDiv _ _), ?_⟩ | refine ⟨(⟨by decide, by decide, by decide⟩ : CPow _ _), ?_⟩ | refine ⟨(.inl ⟨by omega, by omega⟩ : CMul _ _), ?_⟩ | refine ⟨(.inr ⟨by omega, by omega⟩ : CMul _ _), ?_⟩ | refine Or.inl ⟨_, rfl, ?_⟩ | refine Or.inr ⟨_, rfl, ?_⟩ | refine ⟨_, _, _, _, true, rfl, .ty _, .base (.str _), kit_ty (by decide +kernel), ?_⟩ | refine ⟨_, _, rfl, ⟨by rw [sizeLine_eq]; omega, rfl⟩, ?_⟩ | refine ⟨_, _, rfl, .inl ⟨_, SqL.of (by assumption), rfl⟩, ?_⟩ | refine ⟨_, _, rfl, .inr ⟨_, SqT.of (by assumption), rfl⟩, ?_⟩))
    refine ⟨r, t, ys, ps, sortS zs, rfl, f1 _ _ rx hr0, hp2, hpl, ht2, t1, fun h d H3 s3 hd => kM h d H3 (tr s3) hd, fun h k hk d H3 s3 hd => kB h k hk d H3 (tr s3) hd, fun h rs i j e1 e2 e3 d H3 s3 hd => kX h rs i j e1 e2 e3 d H3 (tr s3) hd, fun h rs e1 e2 e3 q H3 s3 hR => ?_⟩
    have hx3 := s3.keep _ _ rfl hx2
    refine ⟨_, rfl, x, A.C_Counts, dx, _, rfl, hx3, T.cl_Counts, T.na_Counts__rooms, (by show 1 < 1000; decide), ?_⟩
    have fr2 : ∀ {b : Addr}, Fre H2 b → b = x ∨ Fre H b := fun {b} h => by
      by_cases e : b = x
      · exact .inl e
      · exact .inr fun o n q => h o n (f1 b o e q)
    have xn : ∀ {b : Addr}, Fre H2 b → b ≠ x := fun {b} h => (h.ne hx2).symm
    refine kQ h rs e1 e2 e3 _ ⟨fun b o n m e => by rw [upd_ne n]; exact s3.keep b o m (f1 b o n e), fun _ => tabs_upd (s3.tabs t1) fun u e => by rw [hx3] at e; cases e; rfl⟩ ⟨.inl rfl, dx, t, q, upd_same, .inr (Fre.of nt), by rw [upd_ne tx]; exact s3.keep _ _ rfl ht2, ?_⟩
    refine (hR.mv fun b o nb m e => ?_).wk fun b nb => fr2 nb
    rw [upd_ne (xn nb)]
    exact e
theorem mak_Counts (T : Txt K mg A) (L : Lk base mg A cL PL) : MakX P w K mg base 9 "Counts" A.C_Counts (spCI K (tabsL PL) A.C_Counts A.C_BadThings A.C_BadRooms A.C_CrossedRooms) := ⟨_, _, _, ⟨T.mk_Counts, T.fi_Counts__init, T.fn_Counts__init, T.kc_Counts⟩, ok_Counts__init T L, T.gC_Counts, T.b_Counts__init⟩
theorem met_Counts_things (T : Txt K mg A) : Met P w K mg base 1 A.C_Counts "things" (spCTh A.C_Counts) [] := by
  refine met0 T.cl_Counts ⟨T.fi_Counts_things, T.fn_Counts_things, T.kp_Counts_things⟩ T.u_Counts_things T.b_Counts_things sc_Counts_things (fun vs H Q E h => ?_) (fun cdv B outer s H vs Q E hr h => ?_)
  · obtain ⟨x, ts, rs, N, rfl, _⟩ := h
    rfl
  · obtain ⟨x, ts, rs, N, rfl, ⟨_, dx, t, r, h1, _, h2, _⟩, k⟩ := h
    refine ⟨_, (pss_one (ps_ret (pe_callTy (listK K) (by rfl) T.z_list (by decide +kernel) (pa_cons (pe_fldK K (pv 0) rfl) pa_nil)))), ?_⟩
    (repeat (first | refine ⟨_, rfl, ?_⟩ | refine ⟨rfl, ?_⟩ | refine ⟨_, _, rfl, rfl, ?_⟩ | refine iteT ?_ | refine iteF ?_ | refine ⟨(by show (0 : Int) < _; omega), ?_⟩ | refine ⟨(⟨by omega, by omega⟩ : CDiv _ _), ?_⟩ | refine ⟨(⟨by decide, by decide, by decide⟩ : CPow _ _), ?_⟩ | refine ⟨(.inl ⟨by omega, by omega⟩ : CMul _ _), ?_⟩ | refine ⟨(.inr ⟨by omega, by omega⟩ : CMul _ _), ?_⟩ | refine Or.inl ⟨_, rfl, ?_⟩ | refine Or.inr ⟨_, rfl, ?_⟩ | refine ⟨_, _, _, _, true, rfl, .ty _, .base (.str _), kit_ty (by decide +kernel), ?_⟩ | refine ⟨_, _, rfl, ⟨by rw [sizeLine_eq]; omega, rfl⟩, ?_⟩ | refine ⟨_, _, rfl, .inl ⟨_, SqL.of (by assumption), rfl⟩, ?_⟩ | refine ⟨_, _, rfl, .inr ⟨_, SqT.of (by assumption), rfl⟩, ?_⟩))
    refine ⟨x, A.C_Counts, dx, _, _, rfl, h1, T.cl_Counts, T.na_Counts__things, cf_things _ _, ?_⟩
    (repeat (first | refine ⟨_, rfl, ?_⟩ | refine ⟨rfl, ?_⟩ | refine ⟨_, _, rfl, rfl, ?_⟩ | refine iteT ?_ | refine iteF ?_ | refine ⟨(by show (0 : Int) < _; omega), ?_⟩ | refine ⟨(⟨by omega, by omega⟩ : CDiv _ _), ?_⟩ | refine ⟨(⟨by decide, by decide, by decide⟩ : CPow _ _), ?_⟩ | refine ⟨(.inl ⟨by omega, by omega⟩ : CMul _ _), ?_⟩ | refine ⟨(.inr ⟨by omega, by omega⟩ : CMul _ _), ?_⟩ | refine Or.inl ⟨_, rfl, ?_⟩ | refine Or.inr ⟨_, rfl, ?_⟩ | refine ⟨_, _, _, _, true, rfl, .ty _, .base (.str _), kit_ty (by decide +kernel), ?_⟩ | refine ⟨_, _, rfl, ⟨by rw [sizeLine_eq]; omega, rfl⟩, ?_⟩ | refine ⟨_, _, rfl, .inl ⟨_, SqL.of (by assumption), rfl⟩, ?_⟩ | refine ⟨_, _, rfl, .inr ⟨_, SqT.of (by assumption), rfl⟩, ?_⟩))
    exact ⟨t, _, rfl, .inl (SqL.of h2), fun p hp => k p _ hp (Same.new hp) upd_same⟩
theorem met_Counts_rooms (T : Txt K mg A) : Met P w K mg base 1 A.C_Counts "rooms" (spCRs A.C_Counts) [] := by
  refine met0 T.cl_Counts ⟨T.fi_Counts_rooms, T.fn_Counts_rooms, T.kp_Counts_rooms⟩ T.u_Counts_rooms T.b_Counts_rooms sc_Counts_rooms (fun vs H Q E h => ?_) (fun cdv B outer s H vs Q E hr h => ?_)
  · obtain ⟨x, ts, rs, N, rfl, _⟩ := h
    rfl
  · obtain ⟨x, ts, rs, N, rfl, ⟨_, dx, t, r, h1, _, _, _, vs, h2, h3⟩, hl, k⟩ := h
    refine ⟨_, (pss_one (ps_ret (pe_lc (own := [("lot", 1), ("number", 2)]) (g := gTup _ 2 (gCons (gName 1) (gCons (gName 2) gNil))) rfl sc_Counts_rooms.nd (pi_list (pe_fldK K (pv 0) rfl)) (blkOk_by (own := [("lot", 1), ("number", 2)]) (N := N_Counts_rooms) (sc := fnScope s_Counts_rooms) (by decide +kernel)) (fun _ _ _ _ _ => (by exact (pg_tup (by rfl) (pgs_cons (pg_name (i := 1) sc_Counts_rooms.nd rfl (by first | exact Or.inl rfl | exact Or.inr rfl)) (pgs_cons (pg_name (i := 2) sc_Counts_rooms.nd rfl (by first | exact Or.inl rfl | exact Or.inr rfl)) pgs_nil))))) (fun _ _ _ _ _ => pts_nil) (fun _ _ _ _ _ => (pe_tup (pa_cons (pe_callTy (listK K) (by rfl) T.z_list (by decide +kernel) (pa_cons (pv 1) pa_nil)) (pa_cons (pv 2) pa_nil))))))), ?_⟩
    (repeat (first | refine ⟨_, rfl, ?_⟩ | refine ⟨rfl, ?_⟩ | refine ⟨_, _, rfl, rfl, ?_⟩ | refine iteT ?_ | refine iteF ?_ | refine ⟨(by show (0 : Int) < _; omega), ?_⟩ | refine ⟨(⟨by omega, by omega⟩ : CDiv _ _), ?_⟩ | refine ⟨(⟨by decide, by decide, by decide⟩ : CPow _ _), ?_⟩ | refine ⟨(.inl ⟨by omega, by omega⟩ : CMul _ _), ?_⟩ | refine ⟨(.inr ⟨by omega, by omega⟩ : CMul _ _), ?_⟩ | refine Or.inl ⟨_, rfl, ?_⟩ | refine Or.inr ⟨_, rfl, ?_⟩ | refine ⟨_, _, _, _, true, rfl, .ty _, .base (.str _), kit_ty (by decide +kernel), ?_⟩ | refine ⟨_, _, rfl, ⟨by rw [sizeLine_eq]; omega, rfl⟩, ?_⟩ | refine ⟨_, _, rfl, .inl ⟨_, SqL.of (by assumption), rfl⟩, ?_⟩ | refine ⟨_, _, rfl, .inr ⟨_, SqT.of (by assumption), rfl⟩, ?_⟩))
    refine ⟨x, A.C_Counts, dx, _, _, rfl, h1, T.cl_Counts, T.na_Counts__rooms, cf_rooms _ _, ?_⟩
    refine ⟨r, rfl, ⟨_, SqL.of h2⟩, fun D nD => ?_⟩
    have hvl : vs.length = rs.length := h3.length
    refine lc_it walk_list (fun i H' => ∃ us : List V, Same H H' ∧ H' D = some (.lst us) ∧ Paired (RoomK (fun a => H a = none ∧ a ≠ D) H') us (rs.take i))
      ⟨[], Same.new nD, upd_same, .nil⟩ (fun _ H' _ ⟨_, q, _⟩ => SqL.of (q _ _ h2)) ?_ ?_
    · rintro i v H4 H5 hi ⟨us, s4, hD, hP⟩ ⟨rfl, hv⟩
      obtain ⟨u, hu, t1, q, rfl, _, ht1, _, hq1⟩ := paired_at h3 hv
      refine ⟨t1, _, rfl, SqT.of (s4 _ _ ht1), rfl, _, _, rfl, _, _, rfl, rfl, rfl, ?_⟩
      (repeat (first | refine ⟨_, rfl, ?_⟩ | refine ⟨rfl, ?_⟩ | refine ⟨_, _, rfl, rfl, ?_⟩ | refine iteT ?_ | refine iteF ?_ | refine ⟨(by show (0 : Int) < _; omega), ?_⟩ | refine ⟨(⟨by omega, by omega⟩ : CDiv _ _), ?_⟩ | refine ⟨(⟨by decide, by decide, by decide⟩ : CPow _ _), ?_⟩ | refine ⟨(.inl ⟨by omega, by omega⟩ : CMul _ _), ?_⟩ | refine ⟨(.inr ⟨by omega, by omega⟩ : CMul _ _), ?_⟩ | refine Or.inl ⟨_, rfl, ?_⟩ | refine Or.inr ⟨_, rfl, ?_⟩ | refine ⟨_, _, _, _, true, rfl, .ty _, .base (.str _), kit_ty (by decide +kernel), ?_⟩ | refine ⟨_, _, rfl, ⟨by rw [sizeLine_eq]; omega, rfl⟩, ?_⟩ | refine ⟨_, _, rfl, .inl ⟨_, SqL.of (by assumption), rfl⟩, ?_⟩ | refine ⟨_, _, rfl, .inr ⟨_, SqT.of (by assumption), rfl⟩, ?_⟩))
      refine ⟨q, _, rfl, .inl (SqL.of (s4 _ _ hq1)), fun l nl => ?_⟩
      (repeat (first | refine ⟨_, rfl, ?_⟩ | refine ⟨rfl, ?_⟩ | refine ⟨_, _, rfl, rfl, ?_⟩ | refine iteT ?_ | refine iteF ?_ | refine ⟨(by show (0 : Int) < _; omega), ?_⟩ | refine ⟨(⟨by omega, by omega⟩ : CDiv _ _), ?_⟩ | refine ⟨(⟨by decide, by decide, by decide⟩ : CPow _ _), ?_⟩ | refine ⟨(.inl ⟨by omega, by omega⟩ : CMul _ _), ?_⟩ | refine ⟨(.inr ⟨by omega, by omega⟩ : CMul _ _), ?_⟩ | refine Or.inl ⟨_, rfl, ?_⟩ | refine Or.inr ⟨_, rfl, ?_⟩ | refine ⟨_, _, _, _, true, rfl, .ty _, .base (.str _), kit_ty (by decide +kernel), ?_⟩ | refine ⟨_, _, rfl, ⟨by rw [sizeLine_eq]; omega, rfl⟩, ?_⟩ | refine ⟨_, _, rfl, .inl ⟨_, SqL.of (by assumption), rfl⟩, ?_⟩ | refine ⟨_, _, rfl, .inr ⟨_, SqT.of (by assumption), rfl⟩, ?_⟩))
      refine ⟨(by show 2 ≤ sizeLine; rw [sizeLine_eq]; omega), fun z nz => ?_⟩
      have lD : l ≠ D := fun e => by rw [e, hD] at nl; cases nl
      have zl : z ≠ l := fun e => by rw [e, upd_same] at nz; cases nz
      have zD : z ≠ D := fun e => by rw [e, upd_ne lD.symm, hD] at nz; cases nz
      have s5 : Same H (upd H5 l (.lst (u.1.map V.str))) := Same.put s4 (s4.free nl)
      have fl : H l = none := s4.free nl
      have fz : H z = none := s5.free nz
      have s6 : Same H (upd (upd H5 l (.lst (u.1.map V.str))) z (.tup [.ref l, .int u.2])) := Same.put s5 fz
      have hD6 : upd (upd H5 l (.lst (u.1.map V.str))) z (.tup [.ref l, .int u.2]) D = some (.lst us) := by rw [upd_ne zD.symm, upd_ne lD.symm]; exact hD
      have lv : us.length = i := by
        rw [hP.length, List.length_take]
        have := (List.getElem?_eq_some_iff.mp hu).1
        omega
      refine ⟨_, hD6, small1000 (by omega), us ++ [.ref z], Same.put s6 nD, upd_same, ?_⟩
      rw [List.take_succ, hu]
      refine Paired.snoc ⟨z, l, rfl, ⟨fz, zD⟩, ?_, ⟨fl, lD⟩, ?_⟩ (Paired.imp (fun _ _ ⟨t2, q2, e1, n1, e2, n2, e3⟩ => ⟨t2, q2, e1, n1, ?_, n2, ?_⟩) hP)
      · rw [upd_ne zD, upd_same]
      · rw [upd_ne lD, upd_ne zl.symm, upd_same]
      · have h1 : t2 ≠ z := fun e => by rw [← e, upd_ne (fun e3 => by rw [e3, nl] at e2; cases e2), e2] at nz; cases nz
        have h2 : t2 ≠ l := fun e => by rw [e, nl] at e2; cases e2
        rw [upd_ne n1.2, upd_ne h1, upd_ne h2]
        exact e2
      · have h2 : q2 ≠ l := fun e => by rw [e, nl] at e3; cases e3
        have h1 : q2 ≠ z := fun e => by rw [← e, upd_ne h2, e3] at nz; cases nz
        rw [upd_ne n2.2, upd_ne h1, upd_ne h2]
        exact e3
    · rintro H4 ⟨us, s4, hD, hP⟩
      rw [hvl, List.take_of_length_le (Nat.le_refl _)] at hP
      exact k D H4 s4 ⟨nD, us, hD, roomK_wk hP fun a ha => ha.1⟩
theorem ok_Counts_eq (T : Txt K mg A) : FnOk P w K mg base C8.CX0 2 A.f_Counts__eq A.fd_Counts__eq ["self", "other"] (spCEq K A.C_Counts) := by
  refine C8.fn0 T.u_Counts__eq sc_Counts__eq (fun vs H Q E h => ?_) (fun cdv B outer s H vs Q E hr h => ?_)
  · obtain ⟨x, y, ts, rs, N, rfl, _⟩ := h
    rfl
  · obtain ⟨x, y, ts, rs, N, rfl, ⟨_, dx, t, r, h1, _, h2, h3⟩, ot, orr, h⟩ := h
    refine ⟨_, (pss_one (ps_ret (pe_and (pe_callB (isiK K) (by rfl) T.z_isinstance (by decide +kernel) (pa_cons (pv 1) (pa_cons (pe_gc (v := .ref A.C_Counts) rfl ⟨_, T.gC_Counts, rfl⟩) pa_nil))) (pe_and (pe_cmpR (eqDK K hr) (pe_fldK K (pv 0) rfl) (pe_fldK K (pv 1) rfl) (nomark _)) (pe_one (pe_cmpR (eqDK K hr) (pe_fldK K (pv 0) rfl) (pe_fldK K (pv 1) rfl) (nomark _))))))), ?_⟩
    (repeat (first | refine ⟨_, rfl, ?_⟩ | refine ⟨rfl, ?_⟩ | refine ⟨_, _, rfl, rfl, ?_⟩ | refine iteT ?_ | refine iteF ?_ | refine ⟨(by show (0 : Int) < _; omega), ?_⟩ | refine ⟨(⟨by omega, by omega⟩ : CDiv _ _), ?_⟩ | refine ⟨(⟨by decide, by decide, by decide⟩ : CPow _ _), ?_⟩ | refine ⟨(.inl ⟨by omega, by omega⟩ : CMul _ _), ?_⟩ | refine ⟨(.inr ⟨by omega, by omega⟩ : CMul _ _), ?_⟩ | refine Or.inl ⟨_, rfl, ?_⟩ | refine Or.inr ⟨_, rfl, ?_⟩ | refine ⟨_, _, _, _, true, rfl, .ty _, .base (.str _), kit_ty (by decide +kernel), ?_⟩ | refine ⟨_, _, rfl, ⟨by rw [sizeLine_eq]; omega, rfl⟩, ?_⟩ | refine ⟨_, _, rfl, .inl ⟨_, SqL.of (by assumption), rfl⟩, ?_⟩ | refine ⟨_, _, rfl, .inr ⟨_, SqT.of (by assumption), rfl⟩, ?_⟩))
    rcases h with ⟨z, us, qs, M, rfl, ⟨_, dz, u, v, z1, _, z2, z3⟩, ou, oq, k⟩ | ⟨tt, ty, kt, k⟩
    · refine ⟨_, _, _, _, true, rfl, .own _, .base (.ins z1 T.cl_Counts T.wc_Counts T.wg_Counts T.wt_Counts T.wm_Counts), T.wk_Counts, ?_⟩
      (repeat (first | refine ⟨_, rfl, ?_⟩ | refine ⟨rfl, ?_⟩ | refine ⟨_, _, rfl, rfl, ?_⟩ | refine iteT ?_ | refine iteF ?_ | refine ⟨(by show (0 : Int) < _; omega), ?_⟩ | refine ⟨(⟨by omega, by omega⟩ : CDiv _ _), ?_⟩ | refine ⟨(⟨by decide, by decide, by decide⟩ : CPow _ _), ?_⟩ | refine ⟨(.inl ⟨by omega, by omega⟩ : CMul _ _), ?_⟩ | refine ⟨(.inr ⟨by omega, by omega⟩ : CMul _ _), ?_⟩ | refine Or.inl ⟨_, rfl, ?_⟩ | refine Or.inr ⟨_, rfl, ?_⟩ | refine ⟨_, _, _, _, true, rfl, .ty _, .base (.str _), kit_ty (by decide +kernel), ?_⟩ | refine ⟨_, _, rfl, ⟨by rw [sizeLine_eq]; omega, rfl⟩, ?_⟩ | refine ⟨_, _, rfl, .inl ⟨_, SqL.of (by assumption), rfl⟩, ?_⟩ | refine ⟨_, _, rfl, .inr ⟨_, SqT.of (by assumption), rfl⟩, ?_⟩))
      refine ⟨x, A.C_Counts, dx, _, _, rfl, h1, T.cl_Counts, T.na_Counts__things, cf_things _ _, ?_⟩
      (repeat (first | refine ⟨_, rfl, ?_⟩ | refine ⟨rfl, ?_⟩ | refine ⟨_, _, rfl, rfl, ?_⟩ | refine iteT ?_ | refine iteF ?_ | refine ⟨(by show (0 : Int) < _; omega), ?_⟩ | refine ⟨(⟨by omega, by omega⟩ : CDiv _ _), ?_⟩ | refine ⟨(⟨by decide, by decide, by decide⟩ : CPow _ _), ?_⟩ | refine ⟨(.inl ⟨by omega, by omega⟩ : CMul _ _), ?_⟩ | refine ⟨(.inr ⟨by omega, by omega⟩ : CMul _ _), ?_⟩ | refine Or.inl ⟨_, rfl, ?_⟩ | refine Or.inr ⟨_, rfl, ?_⟩ | refine ⟨_, _, _, _, true, rfl, .ty _, .base (.str _), kit_ty (by decide +kernel), ?_⟩ | refine ⟨_, _, rfl, ⟨by rw [sizeLine_eq]; omega, rfl⟩, ?_⟩ | refine ⟨_, _, rfl, .inl ⟨_, SqL.of (by assumption), rfl⟩, ?_⟩ | refine ⟨_, _, rfl, .inr ⟨_, SqT.of (by assumption), rfl⟩, ?_⟩))
      refine ⟨z, A.C_Counts, dz, _, _, rfl, z1, T.cl_Counts, T.na_Counts__things, cf_things _ _, ?_⟩
      refine ⟨_, _, dp_strs h2, dp_strs z2, shaped_strs ot, shaped_strs ou, ?_⟩
      rw [eqv_strs]
      by_cases e : ts = us
      · rw [decide_eq_true e]
        rw [decide_eq_true e, Bool.true_and] at k
        (repeat (first | refine ⟨_, rfl, ?_⟩ | refine ⟨rfl, ?_⟩ | refine ⟨_, _, rfl, rfl, ?_⟩ | refine iteT ?_ | refine iteF ?_ | refine ⟨(by show (0 : Int) < _; omega), ?_⟩ | refine ⟨(⟨by omega, by omega⟩ : CDiv _ _), ?_⟩ | refine ⟨(⟨by decide, by decide, by decide⟩ : CPow _ _), ?_⟩ | refine ⟨(.inl ⟨by omega, by omega⟩ : CMul _ _), ?_⟩ | refine ⟨(.inr ⟨by omega, by omega⟩ : CMul _ _), ?_⟩ | refine Or.inl ⟨_, rfl, ?_⟩ | refine Or.inr ⟨_, rfl, ?_⟩ | refine ⟨_, _, _, _, true, rfl, .ty _, .base (.str _), kit_ty (by decide +kernel), ?_⟩ | refine ⟨_, _, rfl, ⟨by rw [sizeLine_eq]; omega, rfl⟩, ?_⟩ | refine ⟨_, _, rfl, .inl ⟨_, SqL.of (by assumption), rfl⟩, ?_⟩ | refine ⟨_, _, rfl, .inr ⟨_, SqT.of (by assumption), rfl⟩, ?_⟩))
        refine ⟨x, A.C_Counts, dx, _, _, rfl, h1, T.cl_Counts, T.na_Counts__rooms, cf_rooms _ _, ?_⟩
        (repeat (first | refine ⟨_, rfl, ?_⟩ | refine ⟨rfl, ?_⟩ | refine ⟨_, _, rfl, rfl, ?_⟩ | refine iteT ?_ | refine iteF ?_ | refine ⟨(by show (0 : Int) < _; omega), ?_⟩ | refine ⟨(⟨by omega, by omega⟩ : CDiv _ _), ?_⟩ | refine ⟨(⟨by decide, by decide, by decide⟩ : CPow _ _), ?_⟩ | refine ⟨(.inl ⟨by omega, by omega⟩ : CMul _ _), ?_⟩ | refine ⟨(.inr ⟨by omega, by omega⟩ : CMul _ _), ?_⟩ | refine Or.inl ⟨_, rfl, ?_⟩ | refine Or.inr ⟨_, rfl, ?_⟩ | refine ⟨_, _, _, _, true, rfl, .ty _, .base (.str _), kit_ty (by decide +kernel), ?_⟩ | refine ⟨_, _, rfl, ⟨by rw [sizeLine_eq]; omega, rfl⟩, ?_⟩ | refine ⟨_, _, rfl, .inl ⟨_, SqL.of (by assumption), rfl⟩, ?_⟩ | refine ⟨_, _, rfl, .inr ⟨_, SqT.of (by assumption), rfl⟩, ?_⟩))
        refine ⟨z, A.C_Counts, dz, _, _, rfl, z1, T.cl_Counts, T.na_Counts__rooms, cf_rooms _ _, ?_⟩
        refine ⟨_, _, dp_rooms h3, dp_rooms z3, shaped_rooms orr, shaped_rooms oq, ?_⟩
        rw [eqv_rooms]
        exact k
      · rw [decide_eq_false e]
        rw [decide_eq_false e, Bool.false_and] at k
        (repeat (first | refine ⟨_, rfl, ?_⟩ | refine ⟨rfl, ?_⟩ | refine ⟨_, _, rfl, rfl, ?_⟩ | refine iteT ?_ | refine iteF ?_ | refine ⟨(by show (0 : Int) < _; omega), ?_⟩ | refine ⟨(⟨by omega, by omega⟩ : CDiv _ _), ?_⟩ | refine ⟨(⟨by decide, by decide, by decide⟩ : CPow _ _), ?_⟩ | refine ⟨(.inl ⟨by omega, by omega⟩ : CMul _ _), ?_⟩ | refine ⟨(.inr ⟨by omega, by omega⟩ : CMul _ _), ?_⟩ | refine Or.inl ⟨_, rfl, ?_⟩ | refine Or.inr ⟨_, rfl, ?_⟩ | refine ⟨_, _, _, _, true, rfl, .ty _, .base (.str _), kit_ty (by decide +kernel), ?_⟩ | refine ⟨_, _, rfl, ⟨by rw [sizeLine_eq]; omega, rfl⟩, ?_⟩ | refine ⟨_, _, rfl, .inl ⟨_, SqL.of (by assumption), rfl⟩, ?_⟩ | refine ⟨_, _, rfl, .inr ⟨_, SqT.of (by assumption), rfl⟩, ?_⟩))
        exact k
    · refine ⟨_, _, _, _, false, rfl, .own _, ty, kt, ?_⟩
      (repeat (first | refine ⟨_, rfl, ?_⟩ | refine ⟨rfl, ?_⟩ | refine ⟨_, _, rfl, rfl, ?_⟩ | refine iteT ?_ | refine iteF ?_ | refine ⟨(by show (0 : Int) < _; omega), ?_⟩ | refine ⟨(⟨by omega, by omega⟩ : CDiv _ _), ?_⟩ | refine ⟨(⟨by decide, by decide, by decide⟩ : CPow _ _), ?_⟩ | refine ⟨(.inl ⟨by omega, by omega⟩ : CMul _ _), ?_⟩ | refine ⟨(.inr ⟨by omega, by omega⟩ : CMul _ _), ?_⟩ | refine Or.inl ⟨_, rfl, ?_⟩ | refine Or.inr ⟨_, rfl, ?_⟩ | refine ⟨_, _, _, _, true, rfl, .ty _, .base (.str _), kit_ty (by decide +kernel), ?_⟩ | refine ⟨_, _, rfl, ⟨by rw [sizeLine_eq]; omega, rfl⟩, ?_⟩ | refine ⟨_, _, rfl, .inl ⟨_, SqL.of (by assumption), rfl⟩, ?_⟩ | refine ⟨_, _, rfl, .inr ⟨_, SqT.of (by assumption), rfl⟩, ?_⟩))
      exact k
theorem op_eq_Counts {X : Cx} (T : Txt X.K X.mg A) {j : Nat} (hr : Room (j + 2) X.A) : OpR X (compareOp .Eq) (rEqO A.C_Counts (spCEq X.K A.C_Counts) id) := op_eqO (ok_Counts_eq T) T.b_Counts__eq C8.pass0 T.nc_Counts (hr.mono (by omega))
theorem op_ne_Counts {X : Cx} (T : Txt X.K X.mg A) {j : Nat} (hr : Room (j + 3) X.A) : OpR X (compareOp .NotEq) (rEqO A.C_Counts (spCEq X.K A.C_Counts) not) := op_neO (ok_Counts_eq T) T.b_Counts__eq C8.pass0 T.nc_Counts (hr.mono (by omega))
theorem op_eqX_Counts {X : Cx} (T : Txt X.K X.mg A) {j : Nat} (hr : Room (j + 2) X.A) : OpR X (compareOp .Eq) (rEqX X.K A.C_Counts (spCEq X.K A.C_Counts)) := op_eqX X.K (ok_Counts_eq T) T.b_Counts__eq T.nc_Counts (hr.mono (by omega))
end
end BF47
set_option Elab.async false
set_option linter.all false
set_option maxRecDepth 100000
set_option maxHeartbeats 4000000
namespace BF47
open BF
open PySem PySem.Spec PyProof.Rows L2
open C8 (Cal CalAt Met Mak cal0 met0 mak0 fn0 pe_c pe_mk pe_mt pe_mt0 pe_gc fnScope fnBody fnArgs fnScope_by)
open SX
open LamX (Tabs TabB ExtN CodeO)
section
variable {P : Program} {w : World} {K : PySem.W.Frag} {mg : Str → Option Value} {base : Heap} {A : Ad} {cL PL : Addr}
/-- a making: the heap at the __init__ -/
theorem made_at {H : Hp} {x dx C : Addr} (nx : H x = none) (ndx : H dx = none) (ne : dx ≠ x) : Same H (upd (upd H dx (.own x)) x (.ins C dx [])) := fun b o e => by
  rw [upd_ne (ne_of_none e nx), upd_ne (ne_of_none e ndx)]
  exact e
theorem made_fr {T : List (Addr × Str)} {H H' : Hp} {x dx C : Addr} (nx : H x = none) (ndx : H dx = none) (ne : dx ≠ x) (f : FrT T x (upd (upd H dx (.own x)) x (.ins C dx [])) H') : SmT T H H' :=
  ⟨fun b o n e => f.keep b o (ne_of_none e nx) n (made_at nx ndx ne _ _ e), fun t => f.tabs (t.ext (made_at nx ndx ne))⟩
theorem made_fre {H : Hp} {x dx C b : Addr} (nx : H x = none) (ndx : H dx = none) (ne : dx ≠ x) (h : b = x ∨ Fre (upd (upd H dx (.own x)) x (.ins C dx [])) b) : Fre H b := by
  rcases h with rfl | h
  · exact .of nx
  · exact fun o n e => h o n (made_at nx ndx ne _ _ e)
theorem cal_law_told (T : Txt K mg A) (L : Lk base mg A cL PL) : Cal P w K mg base 11 "_law_told" (spTold47 K (tabsL PL) A.C_Counts) [] := by
  refine cal0 T.d_law_told T.b_law_told .nil sc_law_told (fun vs H Q E h => ?_) (fun cdv B outer s H vs Q E hr h => ?_)
  · obtain ⟨a, r, xs, ys, os, ps, rfl, _⟩ := h
    rfl
  · obtain ⟨a, r, xs, ys, os, ps, rfl, ha, he, hl, hz, hr0, hp, hpl, ht, kT, kR⟩ := h
    refine ⟨_, (pss_cons (ps_try_manyA sc_law_told.nd rfl rfl takes0 (fun W pn xe tk _ => (pss_one (ps_set (i := 2) sc_law_told.nd rfl (by first | exact Or.inl rfl | exact Or.inr rfl) (pe_tup (pa_cons pe_str (pa_cons (by exact (pe_mkS2 (mak_Counts (K := K) T L) hr (by decide) (fun σ => passAt tk σ) (pa_cons (pv 0) (pa_cons (pv 1) pa_nil)))) pa_nil))))))
  (HdsA.cons (i := 3) rfl rfl ⟨rfl, by decide, Or.inl T.gC_BadThings⟩ (fun a oe cls d pn hz hf => (pss_one (ps_set (i := 2) sc_law_told.nd rfl (by first | exact Or.inl rfl | exact Or.inr rfl) (pe_tup (pa_cons pe_str (pa_cons (pe_xf T.xf_BadThings T.nx_BadThings_index hz hf (pv 3)) pa_nil))))))
  (HdsA.cons (i := 3) rfl rfl ⟨rfl, by decide, Or.inl T.gC_BadRooms⟩ (fun a oe cls d pn hz hf => (pss_one (ps_set (i := 2) sc_law_told.nd rfl (by first | exact Or.inl rfl | exact Or.inr rfl) (pe_tup (pa_cons pe_str (pa_cons (pe_xf T.xf_BadRooms T.nx_BadRooms_index hz hf (pv 3)) pa_nil))))))
  (HdsA.cons (i := 3) rfl rfl ⟨rfl, by decide, Or.inl T.gC_CrossedRooms⟩ (fun a oe cls d pn hz hf => (pss_one (ps_set (i := 2) sc_law_told.nd rfl (by first | exact Or.inl rfl | exact Or.inr rfl) (pe_tup (pa_cons pe_str (pa_cons (pe_xf T.xf_CrossedRooms T.nx_CrossedRooms_one hz hf (pv 3)) (pa_cons (pe_xf T.xf_CrossedRooms T.nx_CrossedRooms_other hz hf (pv 3)) pa_nil)))))))
  HdsA.nil))))
 (pss_one (ps_ret (pv 2)))), ?_⟩
    (repeat (first | refine ⟨_, rfl, ?_⟩ | refine ⟨rfl, ?_⟩ | refine ⟨_, _, rfl, rfl, ?_⟩ | refine iteT ?_ | refine iteF ?_ | refine ⟨(by show (0 : Int) < _; omega), ?_⟩ | refine ⟨(⟨by omega, by omega⟩ : CDiv _ _), ?_⟩ | refine ⟨(⟨by decide, by decide, by decide⟩ : CPow _ _), ?_⟩ | refine ⟨(.inl ⟨by omega, by omega⟩ : CMul _ _), ?_⟩ | refine ⟨(.inr ⟨by omega, by omega⟩ : CMul _ _), ?_⟩ | refine Or.inl ⟨_, rfl, ?_⟩ | refine Or.inr ⟨_, rfl, ?_⟩ | refine ⟨_, _, _, _, true, rfl, .ty _, .base (.str _), kit_ty (by decide +kernel), ?_⟩ | refine ⟨_, _, rfl, ⟨by rw [sizeLine_eq]; omega, rfl⟩, ?_⟩ | refine ⟨_, _, rfl, .inl ⟨_, SqL.of (by assumption), rfl⟩, ?_⟩ | refine ⟨_, _, rfl, .inr ⟨_, SqT.of (by assumption), rfl⟩, ?_⟩))
    refine fun x dx nx ndx ne => ?_
    have s1 := made_at (C := A.C_Counts) nx ndx ne
    have sF : ∀ {H'}, FrT (tabsL PL) x (upd (upd H dx (.own x)) x (.ins A.C_Counts dx [])) H' → SmT (tabsL PL) H H' := fun f => made_fr nx ndx ne f
    refine ⟨x, dx, a, r, xs, ys, os, ps, rfl, upd_same, s1 _ _ ha, Paired.imp (fun _ _ q => q.same s1) he, hl, hz, s1 _ _ hr0, Paired.imp (fun _ _ q => q.sm (T := []) (.of s1)) hp, hpl, ht.ext s1, fun k hk d H' f hd => ?_, fun zs h0 ez => ⟨fun h d H' f hd => ?_, fun h k hk d H' f hd => ?_, fun h rs i j e1 e2 e3 d H' f hd => ?_, fun h rs e1 e2 e3 H' f hO => ⟨rfl, ?_⟩⟩⟩
    · have s2 := sF f
      refine ⟨true, T.xm_BadThings_BadThings, fun _ e ne => ?_, fun h => by cases h⟩
      (repeat (first | refine ⟨_, rfl, ?_⟩ | refine ⟨rfl, ?_⟩ | refine ⟨_, _, rfl, rfl, ?_⟩ | refine iteT ?_ | refine iteF ?_ | refine ⟨(by show (0 : Int) < _; omega), ?_⟩ | refine ⟨(⟨by omega, by omega⟩ : CDiv _ _), ?_⟩ | refine ⟨(⟨by decide, by decide, by decide⟩ : CPow _ _), ?_⟩ | refine ⟨(.inl ⟨by omega, by omega⟩ : CMul _ _), ?_⟩ | refine ⟨(.inr ⟨by omega, by omega⟩ : CMul _ _), ?_⟩ | refine Or.inl ⟨_, rfl, ?_⟩ | refine Or.inr ⟨_, rfl, ?_⟩ | refine ⟨_, _, _, _, true, rfl, .ty _, .base (.str _), kit_ty (by decide +kernel), ?_⟩ | refine ⟨_, _, rfl, ⟨by rw [sizeLine_eq]; omega, rfl⟩, ?_⟩ | refine ⟨_, _, rfl, .inl ⟨_, SqL.of (by assumption), rfl⟩, ?_⟩ | refine ⟨_, _, rfl, .inr ⟨_, SqT.of (by assumption), rfl⟩, ?_⟩))
      refine ⟨_, _, _, rfl, hd, rfl, ?_⟩
      (repeat (first | refine ⟨_, rfl, ?_⟩ | refine ⟨rfl, ?_⟩ | refine ⟨_, _, rfl, rfl, ?_⟩ | refine iteT ?_ | refine iteF ?_ | refine ⟨(by show (0 : Int) < _; omega), ?_⟩ | refine ⟨(⟨by omega, by omega⟩ : CDiv _ _), ?_⟩ | refine ⟨(⟨by decide, by decide, by decide⟩ : CPow _ _), ?_⟩ | refine ⟨(.inl ⟨by omega, by omega⟩ : CMul _ _), ?_⟩ | refine ⟨(.inr ⟨by omega, by omega⟩ : CMul _ _), ?_⟩ | refine Or.inl ⟨_, rfl, ?_⟩ | refine Or.inr ⟨_, rfl, ?_⟩ | refine ⟨_, _, _, _, true, rfl, .ty _, .base (.str _), kit_ty (by decide +kernel), ?_⟩ | refine ⟨_, _, rfl, ⟨by rw [sizeLine_eq]; omega, rfl⟩, ?_⟩ | refine ⟨_, _, rfl, .inl ⟨_, SqL.of (by assumption), rfl⟩, ?_⟩ | refine ⟨_, _, rfl, .inr ⟨_, SqT.of (by assumption), rfl⟩, ?_⟩))
      refine ⟨(by show 2 ≤ sizeLine; rw [sizeLine_eq]; omega), fun p np => ?_⟩
      (repeat (first | refine ⟨_, rfl, ?_⟩ | refine ⟨rfl, ?_⟩ | refine ⟨_, _, rfl, rfl, ?_⟩ | refine iteT ?_ | refine iteF ?_ | refine ⟨(by show (0 : Int) < _; omega), ?_⟩ | refine ⟨(⟨by omega, by omega⟩ : CDiv _ _), ?_⟩ | refine ⟨(⟨by decide, by decide, by decide⟩ : CPow _ _), ?_⟩ | refine ⟨(.inl ⟨by omega, by omega⟩ : CMul _ _), ?_⟩ | refine ⟨(.inr ⟨by omega, by omega⟩ : CMul _ _), ?_⟩ | refine Or.inl ⟨_, rfl, ?_⟩ | refine Or.inr ⟨_, rfl, ?_⟩ | refine ⟨_, _, _, _, true, rfl, .ty _, .base (.str _), kit_ty (by decide +kernel), ?_⟩ | refine ⟨_, _, rfl, ⟨by rw [sizeLine_eq]; omega, rfl⟩, ?_⟩ | refine ⟨_, _, rfl, .inl ⟨_, SqL.of (by assumption), rfl⟩, ?_⟩ | refine ⟨_, _, rfl, .inr ⟨_, SqT.of (by assumption), rfl⟩, ?_⟩))
      exact kT k hk p _ (s2.new np) upd_same
    · have s2 := sF f
      refine ⟨false, T.xm_BadRooms_BadThings, (fun h => by cases h), fun _ => ⟨true, T.xm_BadRooms_BadRooms, fun _ e ne => ?_, fun h => by cases h⟩⟩
      (repeat (first | refine ⟨_, rfl, ?_⟩ | refine ⟨rfl, ?_⟩ | refine ⟨_, _, rfl, rfl, ?_⟩ | refine iteT ?_ | refine iteF ?_ | refine ⟨(by show (0 : Int) < _; omega), ?_⟩ | refine ⟨(⟨by omega, by omega⟩ : CDiv _ _), ?_⟩ | refine ⟨(⟨by decide, by decide, by decide⟩ : CPow _ _), ?_⟩ | refine ⟨(.inl ⟨by omega, by omega⟩ : CMul _ _), ?_⟩ | refine ⟨(.inr ⟨by omega, by omega⟩ : CMul _ _), ?_⟩ | refine Or.inl ⟨_, rfl, ?_⟩ | refine Or.inr ⟨_, rfl, ?_⟩ | refine ⟨_, _, _, _, true, rfl, .ty _, .base (.str _), kit_ty (by decide +kernel), ?_⟩ | refine ⟨_, _, rfl, ⟨by rw [sizeLine_eq]; omega, rfl⟩, ?_⟩ | refine ⟨_, _, rfl, .inl ⟨_, SqL.of (by assumption), rfl⟩, ?_⟩ | refine ⟨_, _, rfl, .inr ⟨_, SqT.of (by assumption), rfl⟩, ?_⟩))
      refine ⟨_, _, _, rfl, hd, rfl, ?_⟩
      (repeat (first | refine ⟨_, rfl, ?_⟩ | refine ⟨rfl, ?_⟩ | refine ⟨_, _, rfl, rfl, ?_⟩ | refine iteT ?_ | refine iteF ?_ | refine ⟨(by show (0 : Int) < _; omega), ?_⟩ | refine ⟨(⟨by omega, by omega⟩ : CDiv _ _), ?_⟩ | refine ⟨(⟨by decide, by decide, by decide⟩ : CPow _ _), ?_⟩ | refine ⟨(.inl ⟨by omega, by omega⟩ : CMul _ _), ?_⟩ | refine ⟨(.inr ⟨by omega, by omega⟩ : CMul _ _), ?_⟩ | refine Or.inl ⟨_, rfl, ?_⟩ | refine Or.inr ⟨_, rfl, ?_⟩ | refine ⟨_, _, _, _, true, rfl, .ty _, .base (.str _), kit_ty (by decide +kernel), ?_⟩ | refine ⟨_, _, rfl, ⟨by rw [sizeLine_eq]; omega, rfl⟩, ?_⟩ | refine ⟨_, _, rfl, .inl ⟨_, SqL.of (by assumption), rfl⟩, ?_⟩ | refine ⟨_, _, rfl, .inr ⟨_, SqT.of (by assumption), rfl⟩, ?_⟩))
      refine ⟨(by show 2 ≤ sizeLine; rw [sizeLine_eq]; omega), fun p np => ?_⟩
      (repeat (first | refine ⟨_, rfl, ?_⟩ | refine ⟨rfl, ?_⟩ | refine ⟨_, _, rfl, rfl, ?_⟩ | refine iteT ?_ | refine iteF ?_ | refine ⟨(by show (0 : Int) < _; omega), ?_⟩ | refine ⟨(⟨by omega, by omega⟩ : CDiv _ _), ?_⟩ | refine ⟨(⟨by decide, by decide, by decide⟩ : CPow _ _), ?_⟩ | refine ⟨(.inl ⟨by omega, by omega⟩ : CMul _ _), ?_⟩ | refine ⟨(.inr ⟨by omega, by omega⟩ : CMul _ _), ?_⟩ | refine Or.inl ⟨_, rfl, ?_⟩ | refine Or.inr ⟨_, rfl, ?_⟩ | refine ⟨_, _, _, _, true, rfl, .ty _, .base (.str _), kit_ty (by decide +kernel), ?_⟩ | refine ⟨_, _, rfl, ⟨by rw [sizeLine_eq]; omega, rfl⟩, ?_⟩ | refine ⟨_, _, rfl, .inl ⟨_, SqL.of (by assumption), rfl⟩, ?_⟩ | refine ⟨_, _, rfl, .inr ⟨_, SqT.of (by assumption), rfl⟩, ?_⟩))
      exact (kR zs h0 ez).1 h p _ (s2.new np) upd_same
    · have s2 := sF f
      refine ⟨false, T.xm_BadRooms_BadThings, (fun h => by cases h), fun _ => ⟨true, T.xm_BadRooms_BadRooms, fun _ e ne => ?_, fun h => by cases h⟩⟩
      (repeat (first | refine ⟨_, rfl, ?_⟩ | refine ⟨rfl, ?_⟩ | refine ⟨_, _, rfl, rfl, ?_⟩ | refine iteT ?_ | refine iteF ?_ | refine ⟨(by show (0 : Int) < _; omega), ?_⟩ | refine ⟨(⟨by omega, by omega⟩ : CDiv _ _), ?_⟩ | refine ⟨(⟨by decide, by decide, by decide⟩ : CPow _ _), ?_⟩ | refine ⟨(.inl ⟨by omega, by omega⟩ : CMul _ _), ?_⟩ | refine ⟨(.inr ⟨by omega, by omega⟩ : CMul _ _), ?_⟩ | refine Or.inl ⟨_, rfl, ?_⟩ | refine Or.inr ⟨_, rfl, ?_⟩ | refine ⟨_, _, _, _, true, rfl, .ty _, .base (.str _), kit_ty (by decide +kernel), ?_⟩ | refine ⟨_, _, rfl, ⟨by rw [sizeLine_eq]; omega, rfl⟩, ?_⟩ | refine ⟨_, _, rfl, .inl ⟨_, SqL.of (by assumption), rfl⟩, ?_⟩ | refine ⟨_, _, rfl, .inr ⟨_, SqT.of (by assumption), rfl⟩, ?_⟩))
      refine ⟨_, _, _, rfl, hd, rfl, ?_⟩
      (repeat (first | refine ⟨_, rfl, ?_⟩ | refine ⟨rfl, ?_⟩ | refine ⟨_, _, rfl, rfl, ?_⟩ | refine iteT ?_ | refine iteF ?_ | refine ⟨(by show (0 : Int) < _; omega), ?_⟩ | refine ⟨(⟨by omega, by omega⟩ : CDiv _ _), ?_⟩ | refine ⟨(⟨by decide, by decide, by decide⟩ : CPow _ _), ?_⟩ | refine ⟨(.inl ⟨by omega, by omega⟩ : CMul _ _), ?_⟩ | refine ⟨(.inr ⟨by omega, by omega⟩ : CMul _ _), ?_⟩ | refine Or.inl ⟨_, rfl, ?_⟩ | refine Or.inr ⟨_, rfl, ?_⟩ | refine ⟨_, _, _, _, true, rfl, .ty _, .base (.str _), kit_ty (by decide +kernel), ?_⟩ | refine ⟨_, _, rfl, ⟨by rw [sizeLine_eq]; omega, rfl⟩, ?_⟩ | refine ⟨_, _, rfl, .inl ⟨_, SqL.of (by assumption), rfl⟩, ?_⟩ | refine ⟨_, _, rfl, .inr ⟨_, SqT.of (by assumption), rfl⟩, ?_⟩))
      refine ⟨(by show 2 ≤ sizeLine; rw [sizeLine_eq]; omega), fun p np => ?_⟩
      (repeat (first | refine ⟨_, rfl, ?_⟩ | refine ⟨rfl, ?_⟩ | refine ⟨_, _, rfl, rfl, ?_⟩ | refine iteT ?_ | refine iteF ?_ | refine ⟨(by show (0 : Int) < _; omega), ?_⟩ | refine ⟨(⟨by omega, by omega⟩ : CDiv _ _), ?_⟩ | refine ⟨(⟨by decide, by decide, by decide⟩ : CPow _ _), ?_⟩ | refine ⟨(.inl ⟨by omega, by omega⟩ : CMul _ _), ?_⟩ | refine ⟨(.inr ⟨by omega, by omega⟩ : CMul _ _), ?_⟩ | refine Or.inl ⟨_, rfl, ?_⟩ | refine Or.inr ⟨_, rfl, ?_⟩ | refine ⟨_, _, _, _, true, rfl, .ty _, .base (.str _), kit_ty (by decide +kernel), ?_⟩ | refine ⟨_, _, rfl, ⟨by rw [sizeLine_eq]; omega, rfl⟩, ?_⟩ | refine ⟨_, _, rfl, .inl ⟨_, SqL.of (by assumption), rfl⟩, ?_⟩ | refine ⟨_, _, rfl, .inr ⟨_, SqT.of (by assumption), rfl⟩, ?_⟩))
      exact (kR zs h0 ez).2.1 h k hk p _ (s2.new np) upd_same
    · have s2 := sF f
      refine ⟨false, T.xm_CrossedRooms_BadThings, (fun h => by cases h), fun _ => ⟨false, T.xm_CrossedRooms_BadRooms, (fun h => by cases h), fun _ => ⟨true, T.xm_CrossedRooms_CrossedRooms, fun _ e ne => ?_, fun h => by cases h⟩⟩⟩
      (repeat (first | refine ⟨_, rfl, ?_⟩ | refine ⟨rfl, ?_⟩ | refine ⟨_, _, rfl, rfl, ?_⟩ | refine iteT ?_ | refine iteF ?_ | refine ⟨(by show (0 : Int) < _; omega), ?_⟩ | refine ⟨(⟨by omega, by omega⟩ : CDiv _ _), ?_⟩ | refine ⟨(⟨by decide, by decide, by decide⟩ : CPow _ _), ?_⟩ | refine ⟨(.inl ⟨by omega, by omega⟩ : CMul _ _), ?_⟩ | refine ⟨(.inr ⟨by omega, by omega⟩ : CMul _ _), ?_⟩ | refine Or.inl ⟨_, rfl, ?_⟩ | refine Or.inr ⟨_, rfl, ?_⟩ | refine ⟨_, _, _, _, true, rfl, .ty _, .base (.str _), kit_ty (by decide +kernel), ?_⟩ | refine ⟨_, _, rfl, ⟨by rw [sizeLine_eq]; omega, rfl⟩, ?_⟩ | refine ⟨_, _, rfl, .inl ⟨_, SqL.of (by assumption), rfl⟩, ?_⟩ | refine ⟨_, _, rfl, .inr ⟨_, SqT.of (by assumption), rfl⟩, ?_⟩))
      refine ⟨_, _, _, rfl, hd, rfl, ?_⟩
      (repeat (first | refine ⟨_, rfl, ?_⟩ | refine ⟨rfl, ?_⟩ | refine ⟨_, _, rfl, rfl, ?_⟩ | refine iteT ?_ | refine iteF ?_ | refine ⟨(by show (0 : Int) < _; omega), ?_⟩ | refine ⟨(⟨by omega, by omega⟩ : CDiv _ _), ?_⟩ | refine ⟨(⟨by decide, by decide, by decide⟩ : CPow _ _), ?_⟩ | refine ⟨(.inl ⟨by omega, by omega⟩ : CMul _ _), ?_⟩ | refine ⟨(.inr ⟨by omega, by omega⟩ : CMul _ _), ?_⟩ | refine Or.inl ⟨_, rfl, ?_⟩ | refine Or.inr ⟨_, rfl, ?_⟩ | refine ⟨_, _, _, _, true, rfl, .ty _, .base (.str _), kit_ty (by decide +kernel), ?_⟩ | refine ⟨_, _, rfl, ⟨by rw [sizeLine_eq]; omega, rfl⟩, ?_⟩ | refine ⟨_, _, rfl, .inl ⟨_, SqL.of (by assumption), rfl⟩, ?_⟩ | refine ⟨_, _, rfl, .inr ⟨_, SqT.of (by assumption), rfl⟩, ?_⟩))
      refine ⟨_, _, _, rfl, hd, rfl, ?_⟩
      (repeat (first | refine ⟨_, rfl, ?_⟩ | refine ⟨rfl, ?_⟩ | refine ⟨_, _, rfl, rfl, ?_⟩ | refine iteT ?_ | refine iteF ?_ | refine ⟨(by show (0 : Int) < _; omega), ?_⟩ | refine ⟨(⟨by omega, by omega⟩ : CDiv _ _), ?_⟩ | refine ⟨(⟨by decide, by decide, by decide⟩ : CPow _ _), ?_⟩ | refine ⟨(.inl ⟨by omega, by omega⟩ : CMul _ _), ?_⟩ | refine ⟨(.inr ⟨by omega, by omega⟩ : CMul _ _), ?_⟩ | refine Or.inl ⟨_, rfl, ?_⟩ | refine Or.inr ⟨_, rfl, ?_⟩ | refine ⟨_, _, _, _, true, rfl, .ty _, .base (.str _), kit_ty (by decide +kernel), ?_⟩ | refine ⟨_, _, rfl, ⟨by rw [sizeLine_eq]; omega, rfl⟩, ?_⟩ | refine ⟨_, _, rfl, .inl ⟨_, SqL.of (by assumption), rfl⟩, ?_⟩ | refine ⟨_, _, rfl, .inr ⟨_, SqT.of (by assumption), rfl⟩, ?_⟩))
      refine ⟨(by show 3 ≤ sizeLine; rw [sizeLine_eq]; omega), fun p np => ?_⟩
      (repeat (first | refine ⟨_, rfl, ?_⟩ | refine ⟨rfl, ?_⟩ | refine ⟨_, _, rfl, rfl, ?_⟩ | refine iteT ?_ | refine iteF ?_ | refine ⟨(by show (0 : Int) < _; omega), ?_⟩ | refine ⟨(⟨by omega, by omega⟩ : CDiv _ _), ?_⟩ | refine ⟨(⟨by decide, by decide, by decide⟩ : CPow _ _), ?_⟩ | refine ⟨(.inl ⟨by omega, by omega⟩ : CMul _ _), ?_⟩ | refine ⟨(.inr ⟨by omega, by omega⟩ : CMul _ _), ?_⟩ | refine Or.inl ⟨_, rfl, ?_⟩ | refine Or.inr ⟨_, rfl, ?_⟩ | refine ⟨_, _, _, _, true, rfl, .ty _, .base (.str _), kit_ty (by decide +kernel), ?_⟩ | refine ⟨_, _, rfl, ⟨by rw [sizeLine_eq]; omega, rfl⟩, ?_⟩ | refine ⟨_, _, rfl, .inl ⟨_, SqL.of (by assumption), rfl⟩, ?_⟩ | refine ⟨_, _, rfl, .inr ⟨_, SqT.of (by assumption), rfl⟩, ?_⟩))
      exact (kR zs h0 ez).2.2.1 h rs i j e1 e2 e3 p _ (s2.new np) upd_same
    · have s2 := sF f
      (repeat (first | refine ⟨_, rfl, ?_⟩ | refine ⟨rfl, ?_⟩ | refine ⟨_, _, rfl, rfl, ?_⟩ | refine iteT ?_ | refine iteF ?_ | refine ⟨(by show (0 : Int) < _; omega), ?_⟩ | refine ⟨(⟨by omega, by omega⟩ : CDiv _ _), ?_⟩ | refine ⟨(⟨by decide, by decide, by decide⟩ : CPow _ _), ?_⟩ | refine ⟨(.inl ⟨by omega, by omega⟩ : CMul _ _), ?_⟩ | refine ⟨(.inr ⟨by omega, by omega⟩ : CMul _ _), ?_⟩ | refine Or.inl ⟨_, rfl, ?_⟩ | refine Or.inr ⟨_, rfl, ?_⟩ | refine ⟨_, _, _, _, true, rfl, .ty _, .base (.str _), kit_ty (by decide +kernel), ?_⟩ | refine ⟨_, _, rfl, ⟨by rw [sizeLine_eq]; omega, rfl⟩, ?_⟩ | refine ⟨_, _, rfl, .inl ⟨_, SqL.of (by assumption), rfl⟩, ?_⟩ | refine ⟨_, _, rfl, .inr ⟨_, SqT.of (by assumption), rfl⟩, ?_⟩))
      refine ⟨(by show 2 ≤ sizeLine; rw [sizeLine_eq]; omega), fun p np => ?_⟩
      (repeat (first | refine ⟨_, rfl, ?_⟩ | refine ⟨rfl, ?_⟩ | refine ⟨_, _, rfl, rfl, ?_⟩ | refine iteT ?_ | refine iteF ?_ | refine ⟨(by show (0 : Int) < _; omega), ?_⟩ | refine ⟨(⟨by omega, by omega⟩ : CDiv _ _), ?_⟩ | refine ⟨(⟨by decide, by decide, by decide⟩ : CPow _ _), ?_⟩ | refine ⟨(.inl ⟨by omega, by omega⟩ : CMul _ _), ?_⟩ | refine ⟨(.inr ⟨by omega, by omega⟩ : CMul _ _), ?_⟩ | refine Or.inl ⟨_, rfl, ?_⟩ | refine Or.inr ⟨_, rfl, ?_⟩ | refine ⟨_, _, _, _, true, rfl, .ty _, .base (.str _), kit_ty (by decide +kernel), ?_⟩ | refine ⟨_, _, rfl, ⟨by rw [sizeLine_eq]; omega, rfl⟩, ?_⟩ | refine ⟨_, _, rfl, .inl ⟨_, SqL.of (by assumption), rfl⟩, ?_⟩ | refine ⟨_, _, rfl, .inr ⟨_, SqT.of (by assumption), rfl⟩, ?_⟩))
      exact (kR zs h0 ez).2.2.2 h rs e1 e2 e3 p x _ (s2.new np) upd_same ((hO.mv fun b o _ _ e => Same.new np b o e).wk fun b hb => made_fre nx ndx ne hb)
end
end BF47
set_option Elab.async false
set_option linter.all false
set_option maxRecDepth 100000
set_option maxHeartbeats 4000000
namespace BF47
open BF
open PySem PySem.Spec PyProof.Rows L2
open C8 (Cal CalAt Met Mak cal0 met0 mak0 fn0 pe_c pe_mk pe_mt pe_mt0 pe_gc fnScope fnBody fnArgs fnScope_by)
open SX
open LamX (Tabs TabB ExtN CodeO)
section
variable {P : Program} {w : World} {K : PySem.W.Frag} {mg : Str → Option Value} {base : Heap} {A : Ad} {cL PL : Addr}
theorem cal_rooms_no (T : Txt K mg A) (k : Nat) : Cal P w K mg base (k + 1) "_law_rooms" (fun _ _ _ _ => False) [] :=
  cal0 T.d_law_rooms T.b_law_rooms .nil sc_law_rooms (fun vs H Q E h => h.elim) (fun cdv B outer s H vs Q E hr h => h.elim)
theorem cal_rooms_step (T : Txt K mg A) (d : Nat) (rec : Cal P w K mg base (d + 2) "_law_rooms" (spRec d) []) : Cal P w K mg base (d + 3) "_law_rooms" (spRoomsR d) [] := by
  refine cal0 T.d_law_rooms T.b_law_rooms .nil sc_law_rooms (fun vs H Q E h => ?_) (fun cdv B outer s H vs Q E hrR h => ?_)
  · obtain ⟨w, c, a, xs, rfl, _⟩ := h
    rfl
  · obtain ⟨wl, c, a, xs, rfl, hS, ha, hnd, hl, hok, hd2, k⟩ := h
    have hr := hrR.mono (show 2 ≤ d + 2 by omega)
    refine ⟨_, (pss_cons (ps_set (i := 3) sc_law_rooms.nd rfl (by first | exact Or.inl rfl | exact Or.inr rfl) (pe_lst pa_nil))
 (pss_cons (ps_set (i := 4) sc_law_rooms.nd rfl (by first | exact Or.inl rfl | exact Or.inr rfl) (pe_c (cal_law_mixed T) hr (by decide) rfl (pa_cons (pv 0) (pa_cons (pv 1) pa_nil))))
 (pss_cons (ps_while PassesOwn.never (pt_cmpR (neDK K hr) (pv 4) (pe_lst pa_nil) (nomark _)) (pss_cons (ps_set (i := 5) sc_law_rooms.nd rfl (by first | exact Or.inl rfl | exact Or.inr rfl) (pe_op op_add pe_int (pe_c (cal_law_draw T) hr (by decide) rfl (pa_cons (pv 0) (pa_cons (pe_callB (lenK K) (by rfl) T.z_len (by decide +kernel) (pa_cons (pv 4) pa_nil)) pa_nil)))))
 (pss_cons (ps_set (i := 6) sc_law_rooms.nd rfl (by first | exact Or.inl rfl | exact Or.inr rfl) (pe_slice (slLK K) (pv 4) po_none (po_some (pv 5))))
 (pss_cons (ps_set (i := 4) sc_law_rooms.nd rfl (by first | exact Or.inl rfl | exact Or.inr rfl) (pe_slice (slLK K) (pv 4) (po_some (pv 5)) po_none))
 (pss_cons (ps_if (pt_cmpR op_gt (pe_c (cal_law_draw T) hr (by decide) rfl (pa_cons (pv 0) (pa_cons pe_int pa_nil))) pe_int (nomark _)) (pss_one (ps_expr (pe_bm PySem.F.plainAttrs_list PySem.F.slot_list_append PySem.F.type_list_append mt_append (pv 3) (pa_cons (pe_tup (pa_cons (pv 6) (pa_cons (pe_c (cal_law_draw T) hr (by decide) rfl (pa_cons (pv 0) (pa_cons (pe_op op_add (pe_callB (call_min2 rfl) (by rfl) T.z_min (by decide +kernel) (pa_cons (pe_callB (lenK K) (by rfl) T.z_len (by decide +kernel) (pa_cons (pv 6) pa_nil)) (pa_cons pe_int pa_nil))) pe_int) pa_nil))) pa_nil))) pa_nil)))) pss_nil)
 (pss_one (ps_if (PW.pt (pw_and (pt_cmpR op_gt (pv 2) pe_int (nomark _)) (pw_and1 (pt_cmpR op_gt (pe_callB (lenK K) (by rfl) T.z_len (by decide +kernel) (pa_cons (pv 6) pa_nil)) pe_int (nomark _))))) (pss_one (ps_set (i := 3) sc_law_rooms.nd rfl (by first | exact Or.inl rfl | exact Or.inr rfl) (pe_op op_cat (pv 3) (pe_c rec hrR (by omega) rfl (pa_cons (pv 0) (pa_cons (pv 6) (pa_cons (pe_op op_sub (pv 2) pe_int) pa_nil))))))) pss_nil)))))))
 (pss_one (ps_ret (pv 3)))))), ?_⟩
    (repeat (first | refine ⟨_, rfl, ?_⟩ | refine ⟨rfl, ?_⟩ | refine ⟨_, _, rfl, rfl, ?_⟩ | refine iteT ?_ | refine iteF ?_ | refine ⟨(by show (0 : Int) < _; omega), ?_⟩ | refine ⟨(⟨by omega, by omega⟩ : CDiv _ _), ?_⟩ | refine ⟨(⟨by decide, by decide, by decide⟩ : CPow _ _), ?_⟩ | refine ⟨(.inl ⟨by omega, by omega⟩ : CMul _ _), ?_⟩ | refine ⟨(.inr ⟨by omega, by omega⟩ : CMul _ _), ?_⟩ | refine Or.inl ⟨_, rfl, ?_⟩ | refine Or.inr ⟨_, rfl, ?_⟩ | refine ⟨_, _, _, _, true, rfl, .ty _, .base (.str _), kit_ty (by decide +kernel), ?_⟩ | refine ⟨_, _, rfl, ⟨by rw [sizeLine_eq]; omega, rfl⟩, ?_⟩ | refine ⟨_, _, rfl, .inl ⟨_, SqL.of (by assumption), rfl⟩, ?_⟩ | refine ⟨_, _, rfl, .inr ⟨_, SqT.of (by assumption), rfl⟩, ?_⟩))
    refine ⟨Nat.zero_le _, fun f nf => ?_⟩
    refine g_name ?_
    try dsimp only
    have k0 : KpS wl c H (upd H f (.lst [])) := (KpS.refl wl c H).put hS nf
    (repeat (first | refine ⟨_, rfl, ?_⟩ | refine ⟨rfl, ?_⟩ | refine ⟨_, _, rfl, rfl, ?_⟩ | refine iteT ?_ | refine iteF ?_ | refine ⟨(by show (0 : Int) < _; omega), ?_⟩ | refine ⟨(⟨by omega, by omega⟩ : CDiv _ _), ?_⟩ | refine ⟨(⟨by decide, by decide, by decide⟩ : CPow _ _), ?_⟩ | refine ⟨(.inl ⟨by omega, by omega⟩ : CMul _ _), ?_⟩ | refine ⟨(.inr ⟨by omega, by omega⟩ : CMul _ _), ?_⟩ | refine Or.inl ⟨_, rfl, ?_⟩ | refine Or.inr ⟨_, rfl, ?_⟩ | refine ⟨_, _, _, _, true, rfl, .ty _, .base (.str _), kit_ty (by decide +kernel), ?_⟩ | refine ⟨_, _, rfl, ⟨by rw [sizeLine_eq]; omega, rfl⟩, ?_⟩ | refine ⟨_, _, rfl, .inl ⟨_, SqL.of (by assumption), rfl⟩, ?_⟩ | refine ⟨_, _, rfl, .inr ⟨_, SqT.of (by assumption), rfl⟩, ?_⟩))
    refine ⟨wl, c, a, _, rfl, k0.st hS, k0.get hS ha (isSt_strs xs), isSt_strs xs, by rw [List.length_map]; omega, fun r ys H1 nr k1 hr1 pm => ?_⟩
    obtain ⟨zs, rfl, pz⟩ := perm_strs pm
    refine g_name ?_
    try dsimp only
    have hf1 := k1.keep _ _ (hS.ne nf) upd_same
    have nr0 : H r = none := k0.free hS nr
    have kk := k0.trans k1
    refine ⟨fun m σ H' => ∃ (f r : Addr) (v5 v6 : Option V) (us : List V) (rs : List Rm) (ps ys : List Str), σ = [some (.ref wl), some (.ref a), some (.int d), some (.ref f), some (.ref r), v5, v6] ∧ m = ys.length ∧ KpS wl c H H' ∧ H f = none ∧ H r = none ∧ H' f = some (.lst us) ∧ Paired (RoomK (fun b => H b = none ∧ b ≠ f) H') us rs ∧ H' r = some (.lst (ys.map V.str)) ∧ (ps ++ ys).Perm xs ∧ Lam ps rs ∧ rs.length ≤ (d + 1) * ps.length,
      ⟨_, f, r, _, _, [], [], [], zs, rfl, rfl, kk, nf, nr0, hf1, .nil, hr1, pz, Lam.nil _, by simp⟩, ?_⟩
    rintro m σ H2 ⟨f, r, v5, v6, us, rs, ps, ys, rfl, rfl, k2, nf, nr0, hf, hP, hr2, pm, hLam, hlen⟩
    have hoky : ∀ y ∈ ys, PyData.strOk y = true := fun y hy => hok y (pm.subset (List.mem_append_right _ hy))
    have hyl : ps.length + ys.length = xs.length := by rw [← pm.length_eq, List.length_append]
    (repeat (first | refine ⟨_, rfl, ?_⟩ | refine ⟨rfl, ?_⟩ | refine ⟨_, _, rfl, rfl, ?_⟩ | refine iteT ?_ | refine iteF ?_ | refine ⟨(by show (0 : Int) < _; omega), ?_⟩ | refine ⟨(⟨by omega, by omega⟩ : CDiv _ _), ?_⟩ | refine ⟨(⟨by decide, by decide, by decide⟩ : CPow _ _), ?_⟩ | refine ⟨(.inl ⟨by omega, by omega⟩ : CMul _ _), ?_⟩ | refine ⟨(.inr ⟨by omega, by omega⟩ : CMul _ _), ?_⟩ | refine Or.inl ⟨_, rfl, ?_⟩ | refine Or.inr ⟨_, rfl, ?_⟩ | refine ⟨_, _, _, _, true, rfl, .ty _, .base (.str _), kit_ty (by decide +kernel), ?_⟩ | refine ⟨_, _, rfl, ⟨by rw [sizeLine_eq]; omega, rfl⟩, ?_⟩ | refine ⟨_, _, rfl, .inl ⟨_, SqL.of (by assumption), rfl⟩, ?_⟩ | refine ⟨_, _, rfl, .inr ⟨_, SqT.of (by assumption), rfl⟩, ?_⟩))
    refine ⟨Nat.zero_le _, fun z nz => ?_⟩
    have hz := upd_same (H := H2) (a := z) (o := .lst [])
    have s3 : Same H2 (upd H2 z (.lst [])) := Same.new nz
    refine ⟨_, _, dp_strs (s3 _ _ hr2), dp_strs (ps := []) hz, shaped_strs hoky, shaped_strs (fun _ h => by cases h), ?_⟩
    rw [eqv_strs]
    have k3 : KpS wl c H (upd H2 z (.lst [])) := k2.put hS (k2.free hS nz)
    have hf3 := s3 _ _ hf
    have hr3 := s3 _ _ hr2
    have hP3 : Paired (RoomK (fun b => H b = none ∧ b ≠ f) (upd H2 z (.lst []))) us rs := roomK_mv hP fun b o _ _ e => s3 b o e
    generalize upd H2 z (.lst []) = H3 at *
    by_cases hy0 : ys = []
    · subst hy0
      (repeat (first | refine ⟨_, rfl, ?_⟩ | refine ⟨rfl, ?_⟩ | refine ⟨_, _, rfl, rfl, ?_⟩ | refine iteT ?_ | refine iteF ?_ | refine ⟨(by show (0 : Int) < _; omega), ?_⟩ | refine ⟨(⟨by omega, by omega⟩ : CDiv _ _), ?_⟩ | refine ⟨(⟨by decide, by decide, by decide⟩ : CPow _ _), ?_⟩ | refine ⟨(.inl ⟨by omega, by omega⟩ : CMul _ _), ?_⟩ | refine ⟨(.inr ⟨by omega, by omega⟩ : CMul _ _), ?_⟩ | refine Or.inl ⟨_, rfl, ?_⟩ | refine Or.inr ⟨_, rfl, ?_⟩ | refine ⟨_, _, _, _, true, rfl, .ty _, .base (.str _), kit_ty (by decide +kernel), ?_⟩ | refine ⟨_, _, rfl, ⟨by rw [sizeLine_eq]; omega, rfl⟩, ?_⟩ | refine ⟨_, _, rfl, .inl ⟨_, SqL.of (by assumption), rfl⟩, ?_⟩ | refine ⟨_, _, rfl, .inr ⟨_, SqT.of (by assumption), rfl⟩, ?_⟩))
      rw [List.append_nil] at pm
      refine k f rs H3 k3 ⟨nf, us, hf3, roomK_wk hP3 fun b hb => hb.1⟩ (hLam.perm pm) ?_
      rw [← pm.length_eq]
      exact hlen
    · have hy1 : 1 ≤ ys.length := by
        cases ys with
        | nil => exact absurd rfl hy0
        | cons _ _ => simp
      rw [show (!decide (ys = [])) = true by rw [decide_eq_false hy0]; rfl]
      (repeat (first | refine ⟨_, rfl, ?_⟩ | refine ⟨rfl, ?_⟩ | refine ⟨_, _, rfl, rfl, ?_⟩ | refine iteT ?_ | refine iteF ?_ | refine ⟨(by show (0 : Int) < _; omega), ?_⟩ | refine ⟨(⟨by omega, by omega⟩ : CDiv _ _), ?_⟩ | refine ⟨(⟨by decide, by decide, by decide⟩ : CPow _ _), ?_⟩ | refine ⟨(.inl ⟨by omega, by omega⟩ : CMul _ _), ?_⟩ | refine ⟨(.inr ⟨by omega, by omega⟩ : CMul _ _), ?_⟩ | refine Or.inl ⟨_, rfl, ?_⟩ | refine Or.inr ⟨_, rfl, ?_⟩ | refine ⟨_, _, _, _, true, rfl, .ty _, .base (.str _), kit_ty (by decide +kernel), ?_⟩ | refine ⟨_, _, rfl, ⟨by rw [sizeLine_eq]; omega, rfl⟩, ?_⟩ | refine ⟨_, _, rfl, .inl ⟨_, SqL.of (by assumption), rfl⟩, ?_⟩ | refine ⟨_, _, rfl, .inr ⟨_, SqT.of (by assumption), rfl⟩, ?_⟩))
      refine ⟨fun σ' H' => ∃ m', m' < ys.length ∧ ∃ (f r : Addr) (v5 v6 : Option V) (us : List V) (rs : List Rm) (ps ys : List Str), σ' = [some (.ref wl), some (.ref a), some (.int d), some (.ref f), some (.ref r), v5, v6] ∧ m' = ys.length ∧ KpS wl c H H' ∧ H f = none ∧ H r = none ∧ H' f = some (.lst us) ∧ Paired (RoomK (fun b => H b = none ∧ b ≠ f) H') us rs ∧ H' r = some (.lst (ys.map V.str)) ∧ (ps ++ ys).Perm xs ∧ Lam ps rs ∧ rs.length ≤ (d + 1) * ps.length, fun σ' H' q => q, ?_⟩
      (repeat (first | refine ⟨_, rfl, ?_⟩ | refine ⟨rfl, ?_⟩ | refine ⟨_, _, rfl, rfl, ?_⟩ | refine iteT ?_ | refine iteF ?_ | refine ⟨(by show (0 : Int) < _; omega), ?_⟩ | refine ⟨(⟨by omega, by omega⟩ : CDiv _ _), ?_⟩ | refine ⟨(⟨by decide, by decide, by decide⟩ : CPow _ _), ?_⟩ | refine ⟨(.inl ⟨by omega, by omega⟩ : CMul _ _), ?_⟩ | refine ⟨(.inr ⟨by omega, by omega⟩ : CMul _ _), ?_⟩ | refine Or.inl ⟨_, rfl, ?_⟩ | refine Or.inr ⟨_, rfl, ?_⟩ | refine ⟨_, _, _, _, true, rfl, .ty _, .base (.str _), kit_ty (by decide +kernel), ?_⟩ | refine ⟨_, _, rfl, ⟨by rw [sizeLine_eq]; omega, rfl⟩, ?_⟩ | refine ⟨_, _, rfl, .inl ⟨_, SqL.of (by assumption), rfl⟩, ?_⟩ | refine ⟨_, _, rfl, .inr ⟨_, SqT.of (by assumption), rfl⟩, ?_⟩))
      refine ⟨wl, c, ((ys.map V.str).length : Nat), rfl, k3.st hS, by rw [List.length_map]; omega, by rw [List.length_map]; omega, fun n H4 a4 b4 k4 => ?_⟩
      rw [List.length_map] at b4
      have k34 := k3.trans k4
      have hf4 := k4.keep _ _ (hS.ne nf) hf3
      have hr4 := k4.keep _ _ (hS.ne nr0) hr3
      have hP4 := roomK_mv (H' := H4) hP3 fun b o nb _ e => k4.keep _ _ (hS.ne nb.1) e
      obtain ⟨sz, hsz⟩ : ∃ sz : Nat, (sz : Int) = 1 + n := ⟨(1 + n).toNat, by omega⟩
      refine ⟨_, _, rfl, rfl, ?_⟩
      refine g_name ?_
      try dsimp only
      rw [← hsz]
      refine seq_asg ?_
      refine ⟨_, rfl, _, rfl, sz, rfl, r, _, rfl, SqL.of hr4, fun l nl => ?_⟩
      rw [cut_lo, ← List.map_take]
      have nl0 : H l = none := k34.free hS nl
      have s5 := Same.new (o := .lst ((ys.take sz).map V.str)) nl
      have k5 := k34.put (o := .lst ((ys.take sz).map V.str)) hS nl0
      have hl5 := upd_same (H := H4) (a := l) (o := .lst ((ys.take sz).map V.str))
      have hf5 := s5 _ _ hf4
      have hr5 := s5 _ _ hr4
      have hP5 := roomK_mv (H' := upd H4 l (.lst ((ys.take sz).map V.str))) hP4 fun b o nb _ e => s5 _ _ e
      have lf : l ≠ f := fun e => by rw [e, hf4] at nl; cases nl
      generalize upd H4 l (.lst ((ys.take sz).map V.str)) = H5 at *
      refine g_name ?_
      try dsimp only
      refine seq_asg ?_
      refine ⟨_, rfl, _, rfl, sz, rfl, r, _, rfl, SqL.of hr5, fun r2 nr2 => ?_⟩
      rw [cut_hi, ← List.map_drop]
      have nr20 : H r2 = none := k5.free hS nr2
      have s6 := Same.new (o := .lst ((ys.drop sz).map V.str)) nr2
      have k6 := k5.put (o := .lst ((ys.drop sz).map V.str)) hS nr20
      have hr6 := upd_same (H := H5) (a := r2) (o := .lst ((ys.drop sz).map V.str))
      have hf6 := s6 _ _ hf5
      have hl6 := s6 _ _ hl5
      have hP6 := roomK_mv (H' := upd H5 r2 (.lst ((ys.drop sz).map V.str))) hP5 fun b o nb _ e => s6 _ _ e
      have r2f : r2 ≠ f := fun e => by rw [e, hf5] at nr2; cases nr2
      have r2l : r2 ≠ l := fun e => by rw [e, hl5] at nr2; cases nr2
      generalize upd H5 r2 (.lst ((ys.drop sz).map V.str)) = H6 at *
      have ndp : (ps ++ ys).Nodup := pm.nodup_iff.mpr hnd
      have hsz1 : 1 ≤ sz := by omega
      have hszl : sz ≤ ys.length := by omega
      have hbl : (ys.take sz).length = sz := by rw [List.length_take]; omega
      have hdis : ∀ x ∈ ps, x ∉ ys := fun x hx hy => (List.nodup_append.mp ndp).2.2 x hx x hy rfl
      have hndy : ys.Nodup := (List.nodup_append.mp ndp).2.1
      have hpm : (ps ++ ys.take sz ++ ys.drop sz).Perm xs := by rw [List.append_assoc, List.take_append_drop]; exact pm
      have hdl : (ys.drop sz).length < ys.length := by rw [List.length_drop]; omega
      obtain ⟨bs, hbs⟩ : ∃ bs, bs = ys.take sz := ⟨_, rfl⟩
      have hbn : bs.Nodup := by rw [hbs]; exact (List.take_sublist _ _).nodup hndy
      have hbd : ∀ x ∈ ps, x ∉ bs := fun x hx hb => hdis x hx (by rw [hbs] at hb; exact List.mem_of_mem_take hb)
      have hbk : ∀ x ∈ bs, PyData.strOk x = true := fun x hx => hoky x (by rw [hbs] at hx; exact List.mem_of_mem_take hx)
      rw [← hbs] at hbl hl6 hpm
      -- the block's own rooms: vs, as
      have fin : ∀ (f2 : Addr) (us2 : List V) (as : List Rm) (G : Hp), KpS wl c H G → H f2 = none → G f2 = some (.lst us2) → Paired (RoomK (fun b => H b = none ∧ b ≠ f2) G) us2 (rs ++ as) → G r2 = some (.lst ((ys.drop sz).map V.str)) → Lam bs as → as.length ≤ (d + 1) * bs.length → ∃ m', m' < ys.length ∧ ∃ (f r : Addr) (v5 v6 : Option V) (us : List V) (rs : List Rm) (ps ys : List Str), [some (.ref wl), some (.ref a), some (.int d), some (.ref f2), some (.ref r2), some (.int (sz : Nat)), some (.ref l)] = [some (.ref wl), some (.ref a), some (.int d), some (.ref f), some (.ref r), v5, v6] ∧ m' = ys.length ∧ KpS wl c H G ∧ H f = none ∧ H r = none ∧ G f = some (.lst us) ∧ Paired (RoomK (fun b => H b = none ∧ b ≠ f) G) us rs ∧ G r = some (.lst (ys.map V.str)) ∧ (ps ++ ys).Perm xs ∧ Lam ps rs ∧ rs.length ≤ (d + 1) * ps.length := by
        intro f2 us2 as G kG nf2 hf2 hP2 hr2 hLa hal
        refine ⟨_, hdl, f2, r2, _, _, us2, rs ++ as, ps ++ bs, ys.drop sz, rfl, rfl, kG, nf2, nr20, hf2, hP2, hr2, hpm, hLam.app hLa hbd, ?_⟩
        rw [List.length_append, List.length_append, Nat.mul_add]
        omega
      refine g_name ?_
      try dsimp only
      (repeat (first | refine ⟨_, rfl, ?_⟩ | refine ⟨rfl, ?_⟩ | refine ⟨_, _, rfl, rfl, ?_⟩ | refine iteT ?_ | refine iteF ?_ | refine ⟨(by show (0 : Int) < _; omega), ?_⟩ | refine ⟨(⟨by omega, by omega⟩ : CDiv _ _), ?_⟩ | refine ⟨(⟨by decide, by decide, by decide⟩ : CPow _ _), ?_⟩ | refine ⟨(.inl ⟨by omega, by omega⟩ : CMul _ _), ?_⟩ | refine ⟨(.inr ⟨by omega, by omega⟩ : CMul _ _), ?_⟩ | refine Or.inl ⟨_, rfl, ?_⟩ | refine Or.inr ⟨_, rfl, ?_⟩ | refine ⟨_, _, _, _, true, rfl, .ty _, .base (.str _), kit_ty (by decide +kernel), ?_⟩ | refine ⟨_, _, rfl, ⟨by rw [sizeLine_eq]; omega, rfl⟩, ?_⟩ | refine ⟨_, _, rfl, .inl ⟨_, SqL.of (by assumption), rfl⟩, ?_⟩ | refine ⟨_, _, rfl, .inr ⟨_, SqT.of (by assumption), rfl⟩, ?_⟩))
      refine ⟨wl, c, 3, rfl, k6.st hS, by omega, by omega, fun n2 G1 a7 b7 k7 => ?_⟩
      have k67 := k6.trans k7
      have hf7 := k7.keep _ _ (hS.ne nf) hf6
      have hr7 := k7.keep _ _ (hS.ne nr20) hr6
      have hl7 := k7.keep _ _ (hS.ne nl0) hl6
      have hP7 := roomK_mv (H' := G1) hP6 fun b o nb _ e => k7.keep _ _ (hS.ne nb.1) e
      (repeat (first | refine ⟨_, rfl, ?_⟩ | refine ⟨rfl, ?_⟩ | refine ⟨_, _, rfl, rfl, ?_⟩ | refine iteT ?_ | refine iteF ?_ | refine ⟨(by show (0 : Int) < _; omega), ?_⟩ | refine ⟨(⟨by omega, by omega⟩ : CDiv _ _), ?_⟩ | refine ⟨(⟨by decide, by decide, by decide⟩ : CPow _ _), ?_⟩ | refine ⟨(.inl ⟨by omega, by omega⟩ : CMul _ _), ?_⟩ | refine ⟨(.inr ⟨by omega, by omega⟩ : CMul _ _), ?_⟩ | refine Or.inl ⟨_, rfl, ?_⟩ | refine Or.inr ⟨_, rfl, ?_⟩ | refine ⟨_, _, _, _, true, rfl, .ty _, .base (.str _), kit_ty (by decide +kernel), ?_⟩ | refine ⟨_, _, rfl, ⟨by rw [sizeLine_eq]; omega, rfl⟩, ?_⟩ | refine ⟨_, _, rfl, .inl ⟨_, SqL.of (by assumption), rfl⟩, ?_⟩ | refine ⟨_, _, rfl, .inr ⟨_, SqT.of (by assumption), rfl⟩, ?_⟩))
      refine ite2 (fun c7 => ?_) (fun c7 => ?_)
      · (repeat (first | refine ⟨_, rfl, ?_⟩ | refine ⟨rfl, ?_⟩ | refine ⟨_, _, rfl, rfl, ?_⟩ | refine iteT ?_ | refine iteF ?_ | refine ⟨(by show (0 : Int) < _; omega), ?_⟩ | refine ⟨(⟨by omega, by omega⟩ : CDiv _ _), ?_⟩ | refine ⟨(⟨by decide, by decide, by decide⟩ : CPow _ _), ?_⟩ | refine ⟨(.inl ⟨by omega, by omega⟩ : CMul _ _), ?_⟩ | refine ⟨(.inr ⟨by omega, by omega⟩ : CMul _ _), ?_⟩ | refine Or.inl ⟨_, rfl, ?_⟩ | refine Or.inr ⟨_, rfl, ?_⟩ | refine ⟨_, _, _, _, true, rfl, .ty _, .base (.str _), kit_ty (by decide +kernel), ?_⟩ | refine ⟨_, _, rfl, ⟨by rw [sizeLine_eq]; omega, rfl⟩, ?_⟩ | refine ⟨_, _, rfl, .inl ⟨_, SqL.of (by assumption), rfl⟩, ?_⟩ | refine ⟨_, _, rfl, .inr ⟨_, SqT.of (by assumption), rfl⟩, ?_⟩))
        refine ⟨.inl ⟨rfl, _, SqL.of hf7⟩, ?_⟩
        (repeat (first | refine ⟨_, rfl, ?_⟩ | refine ⟨rfl, ?_⟩ | refine ⟨_, _, rfl, rfl, ?_⟩ | refine iteT ?_ | refine iteF ?_ | refine ⟨(by show (0 : Int) < _; omega), ?_⟩ | refine ⟨(⟨by omega, by omega⟩ : CDiv _ _), ?_⟩ | refine ⟨(⟨by decide, by decide, by decide⟩ : CPow _ _), ?_⟩ | refine ⟨(.inl ⟨by omega, by omega⟩ : CMul _ _), ?_⟩ | refine ⟨(.inr ⟨by omega, by omega⟩ : CMul _ _), ?_⟩ | refine Or.inl ⟨_, rfl, ?_⟩ | refine Or.inr ⟨_, rfl, ?_⟩ | refine ⟨_, _, _, _, true, rfl, .ty _, .base (.str _), kit_ty (by decide +kernel), ?_⟩ | refine ⟨_, _, rfl, ⟨by rw [sizeLine_eq]; omega, rfl⟩, ?_⟩ | refine ⟨_, _, rfl, .inl ⟨_, SqL.of (by assumption), rfl⟩, ?_⟩ | refine ⟨_, _, rfl, .inr ⟨_, SqT.of (by assumption), rfl⟩, ?_⟩))
        refine ⟨_, _, rfl, ?_⟩
        (repeat (first | refine ⟨_, rfl, ?_⟩ | refine ⟨rfl, ?_⟩ | refine ⟨_, _, rfl, rfl, ?_⟩ | refine iteT ?_ | refine iteF ?_ | refine ⟨(by show (0 : Int) < _; omega), ?_⟩ | refine ⟨(⟨by omega, by omega⟩ : CDiv _ _), ?_⟩ | refine ⟨(⟨by decide, by decide, by decide⟩ : CPow _ _), ?_⟩ | refine ⟨(.inl ⟨by omega, by omega⟩ : CMul _ _), ?_⟩ | refine ⟨(.inr ⟨by omega, by omega⟩ : CMul _ _), ?_⟩ | refine Or.inl ⟨_, rfl, ?_⟩ | refine Or.inr ⟨_, rfl, ?_⟩ | refine ⟨_, _, _, _, true, rfl, .ty _, .base (.str _), kit_ty (by decide +kernel), ?_⟩ | refine ⟨_, _, rfl, ⟨by rw [sizeLine_eq]; omega, rfl⟩, ?_⟩ | refine ⟨_, _, rfl, .inl ⟨_, SqL.of (by assumption), rfl⟩, ?_⟩ | refine ⟨_, _, rfl, .inr ⟨_, SqT.of (by assumption), rfl⟩, ?_⟩))
        have hbl63 : bs.length ≤ 63 := by omega
        refine ⟨wl, c, _, rfl, k67.st hS, (by show (1 : Int) ≤ (if (3 : Int) < (((bs.map V.str).length : Nat) : Int) then (3 : Int) else (((bs.map V.str).length : Nat) : Int)) + 1; split <;> omega), (by show (if (3 : Int) < (((bs.map V.str).length : Nat) : Int) then (3 : Int) else (((bs.map V.str).length : Nat) : Int)) + 1 < 1073741824; rw [List.length_map]; split <;> omega), fun n3 G2 a8 b8 k8 => ?_⟩
        have k78 := k67.trans k8
        have hf8 := k8.keep _ _ (hS.ne nf) hf7
        have hr8 := k8.keep _ _ (hS.ne nr20) hr7
        have hl8 := k8.keep _ _ (hS.ne nl0) hl7
        have hP8 := roomK_mv (H' := G2) hP7 fun b o nb _ e => k8.keep _ _ (hS.ne nb.1) e
        refine ⟨(by show 2 ≤ sizeLine; rw [sizeLine_eq]; omega), fun t nt => ?_⟩
        have nt0 := k78.free hS nt
        have tf : t ≠ f := fun e => by rw [e, hf8] at nt; cases nt
        have tl : t ≠ l := fun e => by rw [e, hl8] at nt; cases nt
        have tr : t ≠ r2 := fun e => by rw [e, hr8] at nt; cases nt
        have hul : us.length ≤ 200 := by
          rw [hP.length]
          have e1 : (d + 1) * ps.length ≤ 3 * 9 := Nat.mul_le_mul (by omega) (by omega)
          omega
        refine ⟨f, us, _, rfl, rfl, by rw [upd_ne tf.symm]; exact hf8, small1000 (by omega), ?_⟩
        have kG : KpS wl c H (upd (upd G2 t (.tup [.ref l, .int n3])) f (.lst (us ++ [.ref t]))) := (k78.put hS nt0).put hS nf
        have hfG : upd (upd G2 t (.tup [.ref l, .int n3])) f (.lst (us ++ [.ref t])) f = some (.lst (us ++ [.ref t])) := upd_same
        have hr2G : upd (upd G2 t (.tup [.ref l, .int n3])) f (.lst (us ++ [.ref t])) r2 = some (.lst ((ys.drop sz).map V.str)) := by rw [upd_ne r2f, upd_ne tr.symm]; exact hr8
        have hlG : upd (upd G2 t (.tup [.ref l, .int n3])) f (.lst (us ++ [.ref t])) l = some (.lst (bs.map V.str)) := by rw [upd_ne lf, upd_ne tl.symm]; exact hl8
        have hPG : Paired (RoomK (fun b => H b = none ∧ b ≠ f) (upd (upd G2 t (.tup [.ref l, .int n3])) f (.lst (us ++ [.ref t])))) (us ++ [.ref t]) (rs ++ [((bs, n3) : Rm)]) := by
          refine Paired.snoc ⟨t, l, rfl, ⟨nt0, tf⟩, by rw [upd_ne tf, upd_same], ⟨nl0, lf⟩, hlG⟩ (roomK_mv hP8 fun b o nb _ e => ?_)
          rw [upd_ne nb.2, upd_ne (fun z => by rw [z, nt] at e; cases e)]
          exact e
        have hLas : ∀ us3, Lam bs us3 → Lam bs ([((bs, n3) : Rm)] ++ us3) := fun us3 h => h.around hbn a8
        have hasl : ([((bs, n3) : Rm)] : List Rm).length ≤ 1 := Nat.le_refl _
        generalize ([((bs, n3) : Rm)] : List Rm) = as at *
        generalize upd (upd G2 t (.tup [.ref l, .int n3])) f (.lst (us ++ [.ref t])) = G at *
        generalize us ++ [V.ref t] = us2 at *
        try dsimp only
        (repeat (first | refine ⟨_, rfl, ?_⟩ | refine ⟨rfl, ?_⟩ | refine ⟨_, _, rfl, rfl, ?_⟩ | refine iteT ?_ | refine iteF ?_ | refine ⟨(by show (0 : Int) < _; omega), ?_⟩ | refine ⟨(⟨by omega, by omega⟩ : CDiv _ _), ?_⟩ | refine ⟨(⟨by decide, by decide, by decide⟩ : CPow _ _), ?_⟩ | refine ⟨(.inl ⟨by omega, by omega⟩ : CMul _ _), ?_⟩ | refine ⟨(.inr ⟨by omega, by omega⟩ : CMul _ _), ?_⟩ | refine Or.inl ⟨_, rfl, ?_⟩ | refine Or.inr ⟨_, rfl, ?_⟩ | refine ⟨_, _, _, _, true, rfl, .ty _, .base (.str _), kit_ty (by decide +kernel), ?_⟩ | refine ⟨_, _, rfl, ⟨by rw [sizeLine_eq]; omega, rfl⟩, ?_⟩ | refine ⟨_, _, rfl, .inl ⟨_, SqL.of (by assumption), rfl⟩, ?_⟩ | refine ⟨_, _, rfl, .inr ⟨_, SqT.of (by assumption), rfl⟩, ?_⟩))
        by_cases hd : (0 : Int) < (d : Int)
        · rw [decide_eq_true hd]
          (repeat (first | refine ⟨_, rfl, ?_⟩ | refine ⟨rfl, ?_⟩ | refine ⟨_, _, rfl, rfl, ?_⟩ | refine iteT ?_ | refine iteF ?_ | refine ⟨(by show (0 : Int) < _; omega), ?_⟩ | refine ⟨(⟨by omega, by omega⟩ : CDiv _ _), ?_⟩ | refine ⟨(⟨by decide, by decide, by decide⟩ : CPow _ _), ?_⟩ | refine ⟨(.inl ⟨by omega, by omega⟩ : CMul _ _), ?_⟩ | refine ⟨(.inr ⟨by omega, by omega⟩ : CMul _ _), ?_⟩ | refine Or.inl ⟨_, rfl, ?_⟩ | refine Or.inr ⟨_, rfl, ?_⟩ | refine ⟨_, _, _, _, true, rfl, .ty _, .base (.str _), kit_ty (by decide +kernel), ?_⟩ | refine ⟨_, _, rfl, ⟨by rw [sizeLine_eq]; omega, rfl⟩, ?_⟩ | refine ⟨_, _, rfl, .inl ⟨_, SqL.of (by assumption), rfl⟩, ?_⟩ | refine ⟨_, _, rfl, .inr ⟨_, SqT.of (by assumption), rfl⟩, ?_⟩))
          refine ite2 (fun c8 => ?_) (fun c8 => ?_)
          · obtain ⟨d', ed⟩ : ∃ d', d = d' + 1 := ⟨d - 1, by omega⟩
            subst ed
            (repeat (first | refine ⟨_, rfl, ?_⟩ | refine ⟨rfl, ?_⟩ | refine ⟨_, _, rfl, rfl, ?_⟩ | refine iteT ?_ | refine iteF ?_ | refine ⟨(by show (0 : Int) < _; omega), ?_⟩ | refine ⟨(⟨by omega, by omega⟩ : CDiv _ _), ?_⟩ | refine ⟨(⟨by decide, by decide, by decide⟩ : CPow _ _), ?_⟩ | refine ⟨(.inl ⟨by omega, by omega⟩ : CMul _ _), ?_⟩ | refine ⟨(.inr ⟨by omega, by omega⟩ : CMul _ _), ?_⟩ | refine Or.inl ⟨_, rfl, ?_⟩ | refine Or.inr ⟨_, rfl, ?_⟩ | refine ⟨_, _, _, _, true, rfl, .ty _, .base (.str _), kit_ty (by decide +kernel), ?_⟩ | refine ⟨_, _, rfl, ⟨by rw [sizeLine_eq]; omega, rfl⟩, ?_⟩ | refine ⟨_, _, rfl, .inl ⟨_, SqL.of (by assumption), rfl⟩, ?_⟩ | refine ⟨_, _, rfl, .inr ⟨_, SqT.of (by assumption), rfl⟩, ?_⟩))
            refine ⟨wl, c, l, bs, (by show [V.ref wl, V.ref l, V.int (((d' + 1 : Nat) : Int) - 1)] = _; rw [show (((d' + 1 : Nat)) : Int) - 1 = (d' : Int) by omega]), kG.st hS, hlG, hbn, by omega, hbk, by omega, fun p rs2 G2 k2 hR2 hL2 hlen2 => ?_⟩
            obtain ⟨np, vs2, hp2, hP2⟩ := hR2
            have hf2 := k2.keep _ _ (hS.ne nf) hfG
            have hl2 : us2.length ≤ 200 ∧ vs2.length ≤ 200 := by
              rw [hPG.length, hP2.length, List.length_append]
              have e1 : (d' + 1 + 1) * ps.length ≤ 3 * 9 := Nat.mul_le_mul (by omega) (by omega)
              have e2 : (d' + 1) * bs.length ≤ 3 * 9 := Nat.mul_le_mul (by omega) (by omega)
              omega
            refine ⟨f, p, us2, vs2, rfl, rfl, hf2, hp2, (by rw [sizeLine_eq]; omega), fun q nq => ?_⟩
            have kG2 := kG.trans k2
            have nq0 := kG2.free hS nq
            refine g_name ?_
            try dsimp only
            refine fin q (us2 ++ vs2) (as ++ rs2) _ (kG2.put hS nq0) nq0 upd_same ?_ ?_ (hLas _ hL2) ?_
            · rw [← List.append_assoc]
              refine paired_app (rooms_live (N := fun b => H b = none) (roomK_wk (roomK_mv (H' := G2) hPG fun b o nb _ e => k2.keep _ _ (hS.ne nb.1) e) fun b nb => nb.1) nq fun b o _ _ e => (Same.new nq) _ _ e) (rooms_live (N := fun b => H b = none) (roomK_wk hP2 fun b nb => kG.free hS nb) nq fun b o _ _ e => (Same.new nq) _ _ e)
            · rw [upd_ne (fun e => by rw [← e, k2.keep _ _ (hS.ne nr20) hr2G] at nq; cases nq)]
              exact k2.keep _ _ (hS.ne nr20) hr2G
            · rw [List.length_append, Nat.add_mul]
              omega
          · (repeat (first | refine ⟨_, rfl, ?_⟩ | refine ⟨rfl, ?_⟩ | refine ⟨_, _, rfl, rfl, ?_⟩ | refine iteT ?_ | refine iteF ?_ | refine ⟨(by show (0 : Int) < _; omega), ?_⟩ | refine ⟨(⟨by omega, by omega⟩ : CDiv _ _), ?_⟩ | refine ⟨(⟨by decide, by decide, by decide⟩ : CPow _ _), ?_⟩ | refine ⟨(.inl ⟨by omega, by omega⟩ : CMul _ _), ?_⟩ | refine ⟨(.inr ⟨by omega, by omega⟩ : CMul _ _), ?_⟩ | refine Or.inl ⟨_, rfl, ?_⟩ | refine Or.inr ⟨_, rfl, ?_⟩ | refine ⟨_, _, _, _, true, rfl, .ty _, .base (.str _), kit_ty (by decide +kernel), ?_⟩ | refine ⟨_, _, rfl, ⟨by rw [sizeLine_eq]; omega, rfl⟩, ?_⟩ | refine ⟨_, _, rfl, .inl ⟨_, SqL.of (by assumption), rfl⟩, ?_⟩ | refine ⟨_, _, rfl, .inr ⟨_, SqT.of (by assumption), rfl⟩, ?_⟩))
            refine fin f us2 as G kG nf hfG hPG hr2G (by have := hLas [] (Lam.nil _); rw [List.append_nil] at this; exact this) ?_
            have : 1 * 1 ≤ (d + 1) * bs.length := Nat.mul_le_mul (by omega) (by omega)
            omega
        · rw [decide_eq_false hd]
          (repeat (first | refine ⟨_, rfl, ?_⟩ | refine ⟨rfl, ?_⟩ | refine ⟨_, _, rfl, rfl, ?_⟩ | refine iteT ?_ | refine iteF ?_ | refine ⟨(by show (0 : Int) < _; omega), ?_⟩ | refine ⟨(⟨by omega, by omega⟩ : CDiv _ _), ?_⟩ | refine ⟨(⟨by decide, by decide, by decide⟩ : CPow _ _), ?_⟩ | refine ⟨(.inl ⟨by omega, by omega⟩ : CMul _ _), ?_⟩ | refine ⟨(.inr ⟨by omega, by omega⟩ : CMul _ _), ?_⟩ | refine Or.inl ⟨_, rfl, ?_⟩ | refine Or.inr ⟨_, rfl, ?_⟩ | refine ⟨_, _, _, _, true, rfl, .ty _, .base (.str _), kit_ty (by decide +kernel), ?_⟩ | refine ⟨_, _, rfl, ⟨by rw [sizeLine_eq]; omega, rfl⟩, ?_⟩ | refine ⟨_, _, rfl, .inl ⟨_, SqL.of (by assumption), rfl⟩, ?_⟩ | refine ⟨_, _, rfl, .inr ⟨_, SqT.of (by assumption), rfl⟩, ?_⟩))
          refine fin f us2 as G kG nf hfG hPG hr2G (by have := hLas [] (Lam.nil _); rw [List.append_nil] at this; exact this) ?_
          have : 1 * 1 ≤ (d + 1) * bs.length := Nat.mul_le_mul (by omega) (by omega)
          omega
      · (repeat (first | refine ⟨_, rfl, ?_⟩ | refine ⟨rfl, ?_⟩ | refine ⟨_, _, rfl, rfl, ?_⟩ | refine iteT ?_ | refine iteF ?_ | refine ⟨(by show (0 : Int) < _; omega), ?_⟩ | refine ⟨(⟨by omega, by omega⟩ : CDiv _ _), ?_⟩ | refine ⟨(⟨by decide, by decide, by decide⟩ : CPow _ _), ?_⟩ | refine ⟨(.inl ⟨by omega, by omega⟩ : CMul _ _), ?_⟩ | refine ⟨(.inr ⟨by omega, by omega⟩ : CMul _ _), ?_⟩ | refine Or.inl ⟨_, rfl, ?_⟩ | refine Or.inr ⟨_, rfl, ?_⟩ | refine ⟨_, _, _, _, true, rfl, .ty _, .base (.str _), kit_ty (by decide +kernel), ?_⟩ | refine ⟨_, _, rfl, ⟨by rw [sizeLine_eq]; omega, rfl⟩, ?_⟩ | refine ⟨_, _, rfl, .inl ⟨_, SqL.of (by assumption), rfl⟩, ?_⟩ | refine ⟨_, _, rfl, .inr ⟨_, SqT.of (by assumption), rfl⟩, ?_⟩))
        have kG := k67
        have hfG := hf7
        have hr2G := hr7
        have hlG := hl7
        obtain ⟨us2, eus2⟩ : ∃ us2, us2 = us := ⟨_, rfl⟩
        rw [← eus2] at hfG
        have hPG : Paired (RoomK (fun b => H b = none ∧ b ≠ f) G1) us2 (rs ++ []) := by rw [List.append_nil, eus2]; exact hP7
        have hLas : ∀ us3, Lam bs us3 → Lam bs ([] ++ us3) := fun us3 h => h
        have hasl : ([] : List Rm).length ≤ 1 := Nat.zero_le _
        generalize ([] : List Rm) = as at *
        generalize G1 = G at *
        by_cases hd : (0 : Int) < (d : Int)
        · rw [decide_eq_true hd]
          (repeat (first | refine ⟨_, rfl, ?_⟩ | refine ⟨rfl, ?_⟩ | refine ⟨_, _, rfl, rfl, ?_⟩ | refine iteT ?_ | refine iteF ?_ | refine ⟨(by show (0 : Int) < _; omega), ?_⟩ | refine ⟨(⟨by omega, by omega⟩ : CDiv _ _), ?_⟩ | refine ⟨(⟨by decide, by decide, by decide⟩ : CPow _ _), ?_⟩ | refine ⟨(.inl ⟨by omega, by omega⟩ : CMul _ _), ?_⟩ | refine ⟨(.inr ⟨by omega, by omega⟩ : CMul _ _), ?_⟩ | refine Or.inl ⟨_, rfl, ?_⟩ | refine Or.inr ⟨_, rfl, ?_⟩ | refine ⟨_, _, _, _, true, rfl, .ty _, .base (.str _), kit_ty (by decide +kernel), ?_⟩ | refine ⟨_, _, rfl, ⟨by rw [sizeLine_eq]; omega, rfl⟩, ?_⟩ | refine ⟨_, _, rfl, .inl ⟨_, SqL.of (by assumption), rfl⟩, ?_⟩ | refine ⟨_, _, rfl, .inr ⟨_, SqT.of (by assumption), rfl⟩, ?_⟩))
          refine ite2 (fun c8 => ?_) (fun c8 => ?_)
          · obtain ⟨d', ed⟩ : ∃ d', d = d' + 1 := ⟨d - 1, by omega⟩
            subst ed
            (repeat (first | refine ⟨_, rfl, ?_⟩ | refine ⟨rfl, ?_⟩ | refine ⟨_, _, rfl, rfl, ?_⟩ | refine iteT ?_ | refine iteF ?_ | refine ⟨(by show (0 : Int) < _; omega), ?_⟩ | refine ⟨(⟨by omega, by omega⟩ : CDiv _ _), ?_⟩ | refine ⟨(⟨by decide, by decide, by decide⟩ : CPow _ _), ?_⟩ | refine ⟨(.inl ⟨by omega, by omega⟩ : CMul _ _), ?_⟩ | refine ⟨(.inr ⟨by omega, by omega⟩ : CMul _ _), ?_⟩ | refine Or.inl ⟨_, rfl, ?_⟩ | refine Or.inr ⟨_, rfl, ?_⟩ | refine ⟨_, _, _, _, true, rfl, .ty _, .base (.str _), kit_ty (by decide +kernel), ?_⟩ | refine ⟨_, _, rfl, ⟨by rw [sizeLine_eq]; omega, rfl⟩, ?_⟩ | refine ⟨_, _, rfl, .inl ⟨_, SqL.of (by assumption), rfl⟩, ?_⟩ | refine ⟨_, _, rfl, .inr ⟨_, SqT.of (by assumption), rfl⟩, ?_⟩))
            refine ⟨wl, c, l, bs, (by show [V.ref wl, V.ref l, V.int (((d' + 1 : Nat) : Int) - 1)] = _; rw [show (((d' + 1 : Nat)) : Int) - 1 = (d' : Int) by omega]), kG.st hS, hlG, hbn, by omega, hbk, by omega, fun p rs2 G2 k2 hR2 hL2 hlen2 => ?_⟩
            obtain ⟨np, vs2, hp2, hP2⟩ := hR2
            have hf2 := k2.keep _ _ (hS.ne nf) hfG
            have hl2 : us2.length ≤ 200 ∧ vs2.length ≤ 200 := by
              rw [hPG.length, hP2.length, List.length_append]
              have e1 : (d' + 1 + 1) * ps.length ≤ 3 * 9 := Nat.mul_le_mul (by omega) (by omega)
              have e2 : (d' + 1) * bs.length ≤ 3 * 9 := Nat.mul_le_mul (by omega) (by omega)
              omega
            refine ⟨f, p, us2, vs2, rfl, rfl, hf2, hp2, (by rw [sizeLine_eq]; omega), fun q nq => ?_⟩
            have kG2 := kG.trans k2
            have nq0 := kG2.free hS nq
            refine g_name ?_
            try dsimp only
            refine fin q (us2 ++ vs2) (as ++ rs2) _ (kG2.put hS nq0) nq0 upd_same ?_ ?_ (hLas _ hL2) ?_
            · rw [← List.append_assoc]
              refine paired_app (rooms_live (N := fun b => H b = none) (roomK_wk (roomK_mv (H' := G2) hPG fun b o nb _ e => k2.keep _ _ (hS.ne nb.1) e) fun b nb => nb.1) nq fun b o _ _ e => (Same.new nq) _ _ e) (rooms_live (N := fun b => H b = none) (roomK_wk hP2 fun b nb => kG.free hS nb) nq fun b o _ _ e => (Same.new nq) _ _ e)
            · rw [upd_ne (fun e => by rw [← e, k2.keep _ _ (hS.ne nr20) hr2G] at nq; cases nq)]
              exact k2.keep _ _ (hS.ne nr20) hr2G
            · rw [List.length_append, Nat.add_mul]
              omega
          · (repeat (first | refine ⟨_, rfl, ?_⟩ | refine ⟨rfl, ?_⟩ | refine ⟨_, _, rfl, rfl, ?_⟩ | refine iteT ?_ | refine iteF ?_ | refine ⟨(by show (0 : Int) < _; omega), ?_⟩ | refine ⟨(⟨by omega, by omega⟩ : CDiv _ _), ?_⟩ | refine ⟨(⟨by decide, by decide, by decide⟩ : CPow _ _), ?_⟩ | refine ⟨(.inl ⟨by omega, by omega⟩ : CMul _ _), ?_⟩ | refine ⟨(.inr ⟨by omega, by omega⟩ : CMul _ _), ?_⟩ | refine Or.inl ⟨_, rfl, ?_⟩ | refine Or.inr ⟨_, rfl, ?_⟩ | refine ⟨_, _, _, _, true, rfl, .ty _, .base (.str _), kit_ty (by decide +kernel), ?_⟩ | refine ⟨_, _, rfl, ⟨by rw [sizeLine_eq]; omega, rfl⟩, ?_⟩ | refine ⟨_, _, rfl, .inl ⟨_, SqL.of (by assumption), rfl⟩, ?_⟩ | refine ⟨_, _, rfl, .inr ⟨_, SqT.of (by assumption), rfl⟩, ?_⟩))
            refine fin f us2 as G kG nf hfG hPG hr2G (by have := hLas [] (Lam.nil _); rw [List.append_nil] at this; exact this) ?_
            have : 1 * 1 ≤ (d + 1) * bs.length := Nat.mul_le_mul (by omega) (by omega)
            omega
        · rw [decide_eq_false hd]
          (repeat (first | refine ⟨_, rfl, ?_⟩ | refine ⟨rfl, ?_⟩ | refine ⟨_, _, rfl, rfl, ?_⟩ | refine iteT ?_ | refine iteF ?_ | refine ⟨(by show (0 : Int) < _; omega), ?_⟩ | refine ⟨(⟨by omega, by omega⟩ : CDiv _ _), ?_⟩ | refine ⟨(⟨by decide, by decide, by decide⟩ : CPow _ _), ?_⟩ | refine ⟨(.inl ⟨by omega, by omega⟩ : CMul _ _), ?_⟩ | refine ⟨(.inr ⟨by omega, by omega⟩ : CMul _ _), ?_⟩ | refine Or.inl ⟨_, rfl, ?_⟩ | refine Or.inr ⟨_, rfl, ?_⟩ | refine ⟨_, _, _, _, true, rfl, .ty _, .base (.str _), kit_ty (by decide +kernel), ?_⟩ | refine ⟨_, _, rfl, ⟨by rw [sizeLine_eq]; omega, rfl⟩, ?_⟩ | refine ⟨_, _, rfl, .inl ⟨_, SqL.of (by assumption), rfl⟩, ?_⟩ | refine ⟨_, _, rfl, .inr ⟨_, SqT.of (by assumption), rfl⟩, ?_⟩))
          refine fin f us2 as G kG nf hfG hPG hr2G (by have := hLas [] (Lam.nil _); rw [List.append_nil] at this; exact this) ?_
          have : 1 * 1 ≤ (d + 1) * bs.length := Nat.mul_le_mul (by omega) (by omega)
          omega
theorem cal_law_rooms (T : Txt K mg A) : ∀ d : Nat, Cal P w K mg base (d + 3) "_law_rooms" (spRoomsR d) []
  | 0 => cal_rooms_step T 0 (cal_rooms_no T 1)
  | d + 1 => cal_rooms_step T (d + 1) (cal_law_rooms T d)
end
end BF47
set_option Elab.async false
set_option linter.all false
set_option maxRecDepth 100000
set_option maxHeartbeats 4000000
namespace BF47
open BF
open PySem PySem.Spec PyProof.Rows L2
open C8 (Cal CalAt Met Mak cal0 met0 mak0 fn0 pe_c pe_mk pe_mt pe_mt0 pe_gc fnScope fnBody fnArgs fnScope_by)
open SX
open LamX (Tabs TabB ExtN CodeO)
section
variable {P : Program} {w : World} {K : PySem.W.Frag} {mg : Str → Option Value} {base : Heap} {A : Ad} {cL PL : Addr}
theorem cal_law_crossed (T : Txt K mg A) : Cal P w K mg base 1 "_law_crossed" spCrossL [] := by
  refine cal0 T.d_law_crossed T.b_law_crossed .nil sc_law_crossed (fun vs H Q E h => ?_) (fun cdv B outer s H vs Q E hr h => ?_)
  · obtain ⟨r, rs, N, rfl, _⟩ := h
    rfl
  · obtain ⟨r, rs, N, rfl, ⟨_, us, hr0, hp⟩, hl, hnd, kX, kN⟩ := h
    refine ⟨_, (pss_cons (ps_for PassesOwn.never rfl (pi_range1 (by rfl) T.z_range (pa_cons (pe_callB (lenK K) (by rfl) T.z_len (by decide +kernel) (pa_cons (pv 0) pa_nil)) pa_nil)) (pg_name (i := 1) sc_law_crossed.nd rfl (by first | exact Or.inl rfl | exact Or.inr rfl)) (pss_one (ps_for PassesOwn.never rfl (pi_range2 (by rfl) T.z_range (pa_cons (pe_op op_add (pv 1) pe_int) (pa_cons (pe_callB (lenK K) (by rfl) T.z_len (by decide +kernel) (pa_cons (pv 0) pa_nil)) pa_nil))) (pg_name (i := 2) sc_law_crossed.nd rfl (by first | exact Or.inl rfl | exact Or.inr rfl)) (pss_cons (ps_set (i := 3) sc_law_crossed.nd rfl (by first | exact Or.inl rfl | exact Or.inr rfl) (pe_ix (ixTK K) (pe_ix (ixLK K) (pv 0) (pv 1) (fun _ _ => rfl)) pe_int (fun _ _ => rfl)))
 (pss_cons (ps_set (i := 4) sc_law_crossed.nd rfl (by first | exact Or.inl rfl | exact Or.inr rfl) (pe_ix (ixTK K) (pe_ix (ixLK K) (pv 0) (pv 2) (fun _ _ => rfl)) pe_int (fun _ _ => rfl)))
 (pss_cons (ps_setLc (i := 5) (own := [("thing", 6)]) (g := gName 6) (by rfl) sc_law_crossed.nd rfl rfl (sw_true rfl rfl rfl (by decide +kernel)) (pi_list (pv 3)) (blkOk_by (own := [("thing", 6)]) (N := N_law_crossed) (sc := fnScope s_law_crossed) (by decide +kernel)) (fun _ _ _ _ _ => (pg_name (i := 6) sc_law_crossed.nd rfl (by first | exact Or.inl rfl | exact Or.inr rfl))) (fun _ _ _ _ _ => (pts_one (pt_cmpR (in_seqK K) (pv 6) (pv 4) rfl))) (fun _ _ _ _ _ => (pv 6)))
 (pss_one (ps_if (PW.pt (pw_and (pt_cmpR op_gt (pe_callB (lenK K) (by rfl) T.z_len (by decide +kernel) (pa_cons (pv 5) pa_nil)) pe_int (nomark _)) (pw_and (pt_cmpR op_lt (pe_callB (lenK K) (by rfl) T.z_len (by decide +kernel) (pa_cons (pv 5) pa_nil)) (pe_callB (lenK K) (by rfl) T.z_len (by decide +kernel) (pa_cons (pv 3) pa_nil)) (nomark _)) (pw_and1 (pt_cmpR op_lt (pe_callB (lenK K) (by rfl) T.z_len (by decide +kernel) (pa_cons (pv 5) pa_nil)) (pe_callB (lenK K) (by rfl) T.z_len (by decide +kernel) (pa_cons (pv 4) pa_nil)) (nomark _)))))) (pss_one (ps_ret (pe_tup (pa_cons pe_str (pa_cons (pv 1) (pa_cons (pv 2) pa_nil)))))) pss_nil))))))))
 (pss_one (ps_ret pe_non))), ?_⟩
    have hlen : us.length = rs.length := hp.length
    have inv : ∀ {j : Nat} {v : V}, us[j]? = some v → ∃ u t q, rs[j]? = some u ∧ v = .ref t ∧ H t = some (.tup [.ref q, .int u.2]) ∧ H q = some (.lst (u.1.map V.str)) := by
      intro j v hv
      obtain ⟨u, hu, t, q, e, _, h1, _, h2⟩ := paired_at hp hv
      exact ⟨u, t, q, hu, e, h1, h2⟩
    (repeat (first | refine ⟨_, rfl, ?_⟩ | refine ⟨rfl, ?_⟩ | refine ⟨_, _, rfl, rfl, ?_⟩ | refine iteT ?_ | refine iteF ?_ | refine ⟨(by show (0 : Int) < _; omega), ?_⟩ | refine ⟨(⟨by omega, by omega⟩ : CDiv _ _), ?_⟩ | refine ⟨(⟨by decide, by decide, by decide⟩ : CPow _ _), ?_⟩ | refine ⟨(.inl ⟨by omega, by omega⟩ : CMul _ _), ?_⟩ | refine ⟨(.inr ⟨by omega, by omega⟩ : CMul _ _), ?_⟩ | refine Or.inl ⟨_, rfl, ?_⟩ | refine Or.inr ⟨_, rfl, ?_⟩ | refine ⟨_, _, _, _, true, rfl, .ty _, .base (.str _), kit_ty (by decide +kernel), ?_⟩ | refine ⟨_, _, rfl, ⟨by rw [sizeLine_eq]; omega, rfl⟩, ?_⟩ | refine ⟨_, _, rfl, .inl ⟨_, SqL.of (by assumption), rfl⟩, ?_⟩ | refine ⟨_, _, rfl, .inr ⟨_, SqT.of (by assumption), rfl⟩, ?_⟩))
    refine ⟨by omega, by omega, for_it walk_range (fun i σ H' => ∃ (v1 v2 v3 v4 v5 : Option V), σ = [some (.ref r), v1, v2, v3, v4, v5, none] ∧ Same H H' ∧ ∀ x y, x < i → x < y → y < rs.length → xr rs x y = false)
      ⟨_, _, _, _, _, rfl, Same.refl H, fun x y hx => absurd hx (Nat.not_lt_zero _)⟩ (fun _ _ _ _ _ => True.intro) ?_ ?_⟩
    · rintro i v σ H1 H2 hi ⟨v1, v2, v3, v4, v5, rfl, s1, hno⟩ ⟨rfl, rfl⟩
      have hi2 : i < us.length := by omega
      obtain ⟨u, t, q, hu, eu, ht1, hq1⟩ := inv (List.getElem?_eq_getElem hi2)
      have e0 : ((fun z : Nat => V.int (0 + (z : Int))) i) = V.int (i : Nat) := by
        show V.int (0 + (i : Int)) = _
        rw [Int.zero_add]
      rw [e0]
      (repeat (first | refine ⟨_, rfl, ?_⟩ | refine ⟨rfl, ?_⟩ | refine ⟨_, _, rfl, rfl, ?_⟩ | refine iteT ?_ | refine iteF ?_ | refine ⟨(by show (0 : Int) < _; omega), ?_⟩ | refine ⟨(⟨by omega, by omega⟩ : CDiv _ _), ?_⟩ | refine ⟨(⟨by decide, by decide, by decide⟩ : CPow _ _), ?_⟩ | refine ⟨(.inl ⟨by omega, by omega⟩ : CMul _ _), ?_⟩ | refine ⟨(.inr ⟨by omega, by omega⟩ : CMul _ _), ?_⟩ | refine Or.inl ⟨_, rfl, ?_⟩ | refine Or.inr ⟨_, rfl, ?_⟩ | refine ⟨_, _, _, _, true, rfl, .ty _, .base (.str _), kit_ty (by decide +kernel), ?_⟩ | refine ⟨_, _, rfl, ⟨by rw [sizeLine_eq]; omega, rfl⟩, ?_⟩ | refine ⟨_, _, rfl, .inl ⟨_, SqL.of (by assumption), rfl⟩, ?_⟩ | refine ⟨_, _, rfl, .inr ⟨_, SqT.of (by assumption), rfl⟩, ?_⟩))
      refine ⟨_, _, rfl, .inl ⟨_, SqL.of (s1 _ _ hr0), rfl⟩, ?_⟩
      (repeat (first | refine ⟨_, rfl, ?_⟩ | refine ⟨rfl, ?_⟩ | refine ⟨_, _, rfl, rfl, ?_⟩ | refine iteT ?_ | refine iteF ?_ | refine ⟨(by show (0 : Int) < _; omega), ?_⟩ | refine ⟨(⟨by omega, by omega⟩ : CDiv _ _), ?_⟩ | refine ⟨(⟨by decide, by decide, by decide⟩ : CPow _ _), ?_⟩ | refine ⟨(.inl ⟨by omega, by omega⟩ : CMul _ _), ?_⟩ | refine ⟨(.inr ⟨by omega, by omega⟩ : CMul _ _), ?_⟩ | refine Or.inl ⟨_, rfl, ?_⟩ | refine Or.inr ⟨_, rfl, ?_⟩ | refine ⟨_, _, _, _, true, rfl, .ty _, .base (.str _), kit_ty (by decide +kernel), ?_⟩ | refine ⟨_, _, rfl, ⟨by rw [sizeLine_eq]; omega, rfl⟩, ?_⟩ | refine ⟨_, _, rfl, .inl ⟨_, SqL.of (by assumption), rfl⟩, ?_⟩ | refine ⟨_, _, rfl, .inr ⟨_, SqT.of (by assumption), rfl⟩, ?_⟩))
      refine ⟨_, _, rfl, ⟨by omega, by omega, by omega, by omega⟩, for_it walk_range (fun j σ H' => ∃ (v2 v3 v4 v5 : Option V), σ = [some (.ref r), some (.int (i : Nat)), v2, v3, v4, v5, none] ∧ Same H H' ∧ ∀ y, i < y → y < i + 1 + j → xr rs i y = false)
        ⟨_, _, _, _, rfl, s1, fun y h1 h2 => by omega⟩ (fun _ _ _ _ _ => True.intro) ?_ ?_⟩
      · rintro j v σ H3 H4 hj ⟨v2, v3, v4, v5, rfl, s3, hno2⟩ ⟨rfl, rfl⟩
        have hj2 : i + 1 + j < us.length := by omega
        obtain ⟨u2, t2, q2, hu2, eu2, ht2, hq2⟩ := inv (List.getElem?_eq_getElem hj2)
        have e1 : ((fun z : Nat => V.int ((i : Int) + 1 + (z : Int))) j) = V.int ((i + 1 + j : Nat) : Int) := by
          show V.int ((i : Int) + 1 + (j : Int)) = _
          congr 1
        rw [e1]
        (repeat (first | refine ⟨_, rfl, ?_⟩ | refine ⟨rfl, ?_⟩ | refine ⟨_, _, rfl, rfl, ?_⟩ | refine iteT ?_ | refine iteF ?_ | refine ⟨(by show (0 : Int) < _; omega), ?_⟩ | refine ⟨(⟨by omega, by omega⟩ : CDiv _ _), ?_⟩ | refine ⟨(⟨by decide, by decide, by decide⟩ : CPow _ _), ?_⟩ | refine ⟨(.inl ⟨by omega, by omega⟩ : CMul _ _), ?_⟩ | refine ⟨(.inr ⟨by omega, by omega⟩ : CMul _ _), ?_⟩ | refine Or.inl ⟨_, rfl, ?_⟩ | refine Or.inr ⟨_, rfl, ?_⟩ | refine ⟨_, _, _, _, true, rfl, .ty _, .base (.str _), kit_ty (by decide +kernel), ?_⟩ | refine ⟨_, _, rfl, ⟨by rw [sizeLine_eq]; omega, rfl⟩, ?_⟩ | refine ⟨_, _, rfl, .inl ⟨_, SqL.of (by assumption), rfl⟩, ?_⟩ | refine ⟨_, _, rfl, .inr ⟨_, SqT.of (by assumption), rfl⟩, ?_⟩))
        refine ⟨r, us, _, _, rfl, rfl, SqL.of (s3 _ _ hr0), atI_nat (j := i) (List.getElem?_eq_getElem hi2), ?_⟩
        rw [eu]
        (repeat (first | refine ⟨_, rfl, ?_⟩ | refine ⟨rfl, ?_⟩ | refine ⟨_, _, rfl, rfl, ?_⟩ | refine iteT ?_ | refine iteF ?_ | refine ⟨(by show (0 : Int) < _; omega), ?_⟩ | refine ⟨(⟨by omega, by omega⟩ : CDiv _ _), ?_⟩ | refine ⟨(⟨by decide, by decide, by decide⟩ : CPow _ _), ?_⟩ | refine ⟨(.inl ⟨by omega, by omega⟩ : CMul _ _), ?_⟩ | refine ⟨(.inr ⟨by omega, by omega⟩ : CMul _ _), ?_⟩ | refine Or.inl ⟨_, rfl, ?_⟩ | refine Or.inr ⟨_, rfl, ?_⟩ | refine ⟨_, _, _, _, true, rfl, .ty _, .base (.str _), kit_ty (by decide +kernel), ?_⟩ | refine ⟨_, _, rfl, ⟨by rw [sizeLine_eq]; omega, rfl⟩, ?_⟩ | refine ⟨_, _, rfl, .inl ⟨_, SqL.of (by assumption), rfl⟩, ?_⟩ | refine ⟨_, _, rfl, .inr ⟨_, SqT.of (by assumption), rfl⟩, ?_⟩))
        refine ⟨t, _, 0, .ref q, rfl, rfl, SqT.of (s3 _ _ ht1), rfl, ?_⟩
        (repeat (first | refine ⟨_, rfl, ?_⟩ | refine ⟨rfl, ?_⟩ | refine ⟨_, _, rfl, rfl, ?_⟩ | refine iteT ?_ | refine iteF ?_ | refine ⟨(by show (0 : Int) < _; omega), ?_⟩ | refine ⟨(⟨by omega, by omega⟩ : CDiv _ _), ?_⟩ | refine ⟨(⟨by decide, by decide, by decide⟩ : CPow _ _), ?_⟩ | refine ⟨(.inl ⟨by omega, by omega⟩ : CMul _ _), ?_⟩ | refine ⟨(.inr ⟨by omega, by omega⟩ : CMul _ _), ?_⟩ | refine Or.inl ⟨_, rfl, ?_⟩ | refine Or.inr ⟨_, rfl, ?_⟩ | refine ⟨_, _, _, _, true, rfl, .ty _, .base (.str _), kit_ty (by decide +kernel), ?_⟩ | refine ⟨_, _, rfl, ⟨by rw [sizeLine_eq]; omega, rfl⟩, ?_⟩ | refine ⟨_, _, rfl, .inl ⟨_, SqL.of (by assumption), rfl⟩, ?_⟩ | refine ⟨_, _, rfl, .inr ⟨_, SqT.of (by assumption), rfl⟩, ?_⟩))
        refine ⟨r, us, _, _, rfl, rfl, SqL.of (s3 _ _ hr0), atI_nat (j := i + 1 + j) (List.getElem?_eq_getElem hj2), ?_⟩
        rw [eu2]
        (repeat (first | refine ⟨_, rfl, ?_⟩ | refine ⟨rfl, ?_⟩ | refine ⟨_, _, rfl, rfl, ?_⟩ | refine iteT ?_ | refine iteF ?_ | refine ⟨(by show (0 : Int) < _; omega), ?_⟩ | refine ⟨(⟨by omega, by omega⟩ : CDiv _ _), ?_⟩ | refine ⟨(⟨by decide, by decide, by decide⟩ : CPow _ _), ?_⟩ | refine ⟨(.inl ⟨by omega, by omega⟩ : CMul _ _), ?_⟩ | refine ⟨(.inr ⟨by omega, by omega⟩ : CMul _ _), ?_⟩ | refine Or.inl ⟨_, rfl, ?_⟩ | refine Or.inr ⟨_, rfl, ?_⟩ | refine ⟨_, _, _, _, true, rfl, .ty _, .base (.str _), kit_ty (by decide +kernel), ?_⟩ | refine ⟨_, _, rfl, ⟨by rw [sizeLine_eq]; omega, rfl⟩, ?_⟩ | refine ⟨_, _, rfl, .inl ⟨_, SqL.of (by assumption), rfl⟩, ?_⟩ | refine ⟨_, _, rfl, .inr ⟨_, SqT.of (by assumption), rfl⟩, ?_⟩))
        refine ⟨t2, _, 0, .ref q2, rfl, rfl, SqT.of (s3 _ _ ht2), rfl, ?_⟩
        (repeat (first | refine ⟨_, rfl, ?_⟩ | refine ⟨rfl, ?_⟩ | refine ⟨_, _, rfl, rfl, ?_⟩ | refine iteT ?_ | refine iteF ?_ | refine ⟨(by show (0 : Int) < _; omega), ?_⟩ | refine ⟨(⟨by omega, by omega⟩ : CDiv _ _), ?_⟩ | refine ⟨(⟨by decide, by decide, by decide⟩ : CPow _ _), ?_⟩ | refine ⟨(.inl ⟨by omega, by omega⟩ : CMul _ _), ?_⟩ | refine ⟨(.inr ⟨by omega, by omega⟩ : CMul _ _), ?_⟩ | refine Or.inl ⟨_, rfl, ?_⟩ | refine Or.inr ⟨_, rfl, ?_⟩ | refine ⟨_, _, _, _, true, rfl, .ty _, .base (.str _), kit_ty (by decide +kernel), ?_⟩ | refine ⟨_, _, rfl, ⟨by rw [sizeLine_eq]; omega, rfl⟩, ?_⟩ | refine ⟨_, _, rfl, .inl ⟨_, SqL.of (by assumption), rfl⟩, ?_⟩ | refine ⟨_, _, rfl, .inr ⟨_, SqT.of (by assumption), rfl⟩, ?_⟩))
        have hum := hnd u (List.mem_of_getElem? hu)
        have hum2 := hnd u2 (List.mem_of_getElem? hu2)
        refine ⟨⟨_, SqL.of (s3 _ _ hq1)⟩, fun D nD => ?_⟩
        refine lc_it walk_list (fun i H' => Same H H' ∧ H' D = some (.lst (((u.1.take i).filter fun y => decide (y ∈ u2.1)).map V.str))) ⟨Same.put s3 (s3.free nD), upd_same⟩ (fun _ H' _ q => SqL.of (q.1 _ _ hq1)) ?_ ?_
        · rintro z v H5 H6 hz ⟨s5, hD⟩ ⟨rfl, hv⟩
          rw [List.length_map] at hz
          have hy : u.1[z]? = some u.1[z] := List.getElem?_eq_getElem hz
          have ev : v = V.str u.1[z] := by
            rw [List.getElem?_map, hy] at hv
            exact (Option.some.inj hv).symm
          subst ev
          refine ⟨rfl, ?_⟩
          (repeat (first | refine ⟨_, rfl, ?_⟩ | refine ⟨rfl, ?_⟩ | refine ⟨_, _, rfl, rfl, ?_⟩ | refine iteT ?_ | refine iteF ?_ | refine ⟨(by show (0 : Int) < _; omega), ?_⟩ | refine ⟨(⟨by omega, by omega⟩ : CDiv _ _), ?_⟩ | refine ⟨(⟨by decide, by decide, by decide⟩ : CPow _ _), ?_⟩ | refine ⟨(.inl ⟨by omega, by omega⟩ : CMul _ _), ?_⟩ | refine ⟨(.inr ⟨by omega, by omega⟩ : CMul _ _), ?_⟩ | refine Or.inl ⟨_, rfl, ?_⟩ | refine Or.inr ⟨_, rfl, ?_⟩ | refine ⟨_, _, _, _, true, rfl, .ty _, .base (.str _), kit_ty (by decide +kernel), ?_⟩ | refine ⟨_, _, rfl, ⟨by rw [sizeLine_eq]; omega, rfl⟩, ?_⟩ | refine ⟨_, _, rfl, .inl ⟨_, SqL.of (by assumption), rfl⟩, ?_⟩ | refine ⟨_, _, rfl, .inr ⟨_, SqT.of (by assumption), rfl⟩, ?_⟩))
          refine ⟨q2, _, rfl, .inl (SqL.of (s5 _ _ hq2)), rfl, flat_strs u2.1, ?_⟩
          rw [if_neg (by decide), inV_strs]
          (repeat (first | refine ⟨_, rfl, ?_⟩ | refine ⟨rfl, ?_⟩ | refine ⟨_, _, rfl, rfl, ?_⟩ | refine iteT ?_ | refine iteF ?_ | refine ⟨(by show (0 : Int) < _; omega), ?_⟩ | refine ⟨(⟨by omega, by omega⟩ : CDiv _ _), ?_⟩ | refine ⟨(⟨by decide, by decide, by decide⟩ : CPow _ _), ?_⟩ | refine ⟨(.inl ⟨by omega, by omega⟩ : CMul _ _), ?_⟩ | refine ⟨(.inr ⟨by omega, by omega⟩ : CMul _ _), ?_⟩ | refine Or.inl ⟨_, rfl, ?_⟩ | refine Or.inr ⟨_, rfl, ?_⟩ | refine ⟨_, _, _, _, true, rfl, .ty _, .base (.str _), kit_ty (by decide +kernel), ?_⟩ | refine ⟨_, _, rfl, ⟨by rw [sizeLine_eq]; omega, rfl⟩, ?_⟩ | refine ⟨_, _, rfl, .inl ⟨_, SqL.of (by assumption), rfl⟩, ?_⟩ | refine ⟨_, _, rfl, .inr ⟨_, SqT.of (by assumption), rfl⟩, ?_⟩))
          refine ite2 (fun c => ?_) (fun c => ?_)
          · have c := of_decide_eq_true c
            (repeat (first | refine ⟨_, rfl, ?_⟩ | refine ⟨rfl, ?_⟩ | refine ⟨_, _, rfl, rfl, ?_⟩ | refine iteT ?_ | refine iteF ?_ | refine ⟨(by show (0 : Int) < _; omega), ?_⟩ | refine ⟨(⟨by omega, by omega⟩ : CDiv _ _), ?_⟩ | refine ⟨(⟨by decide, by decide, by decide⟩ : CPow _ _), ?_⟩ | refine ⟨(.inl ⟨by omega, by omega⟩ : CMul _ _), ?_⟩ | refine ⟨(.inr ⟨by omega, by omega⟩ : CMul _ _), ?_⟩ | refine Or.inl ⟨_, rfl, ?_⟩ | refine Or.inr ⟨_, rfl, ?_⟩ | refine ⟨_, _, _, _, true, rfl, .ty _, .base (.str _), kit_ty (by decide +kernel), ?_⟩ | refine ⟨_, _, rfl, ⟨by rw [sizeLine_eq]; omega, rfl⟩, ?_⟩ | refine ⟨_, _, rfl, .inl ⟨_, SqL.of (by assumption), rfl⟩, ?_⟩ | refine ⟨_, _, rfl, .inr ⟨_, SqT.of (by assumption), rfl⟩, ?_⟩))
            refine ⟨_, hD, small1000 (by
              have := List.length_filter_le (fun y => decide (y ∈ u2.1)) (u.1.take z)
              rw [List.length_map]
              rw [List.length_take] at this
              omega), Same.put s5 (s3.free nD), ?_⟩
            rw [upd_same, List.take_succ, hy]
            show _ = some (HO.lst (((u.1.take z ++ [u.1[z]]).filter fun y => decide (y ∈ u2.1)).map V.str))
            rw [List.filter_append, List.filter_cons, if_pos (decide_eq_true c), List.filter_nil, List.map_append]
            rfl
          · refine ⟨s5, ?_⟩
            rw [hD, List.take_succ, hy]
            show _ = some (HO.lst (((u.1.take z ++ [u.1[z]]).filter fun y => decide (y ∈ u2.1)).map V.str))
            rw [List.filter_append, List.filter_cons, if_neg c, List.filter_nil, List.append_nil]
        · rintro H5 ⟨s5, hD⟩
          rw [List.length_map, List.take_of_length_le (Nat.le_refl _)] at hD
          have hq15 := s5 _ _ hq1
          have hq25 := s5 _ _ hq2
          have hxr : xr rs i (i + 1 + j) = crossedB u.1 u2.1 := by
            unfold xr
            rw [hu, hu2]
          rw [← crossed_law hum.1 hum2.1] at hxr
          have hlr : i + 1 + j < rs.length := (List.getElem?_eq_some_iff.mp hu2).1
          obtain ⟨bs, hbs⟩ : ∃ bs, bs = u.1.filter fun y => decide (y ∈ u2.1) := ⟨_, rfl⟩
          rw [← hbs] at hD hxr
          have no : xr rs i (i + 1 + j) = false → Same H H5 ∧ ∀ y, i < y → y < i + 1 + (j + 1) → xr rs i y = false := fun h => ⟨s5, fun y h1 h2 => by
            by_cases e : y = i + 1 + j
            · rw [e, h]
            · exact hno2 y h1 (by omega)⟩
          (repeat (first | refine ⟨_, rfl, ?_⟩ | refine ⟨rfl, ?_⟩ | refine ⟨_, _, rfl, rfl, ?_⟩ | refine iteT ?_ | refine iteF ?_ | refine ⟨(by show (0 : Int) < _; omega), ?_⟩ | refine ⟨(⟨by omega, by omega⟩ : CDiv _ _), ?_⟩ | refine ⟨(⟨by decide, by decide, by decide⟩ : CPow _ _), ?_⟩ | refine ⟨(.inl ⟨by omega, by omega⟩ : CMul _ _), ?_⟩ | refine ⟨(.inr ⟨by omega, by omega⟩ : CMul _ _), ?_⟩ | refine Or.inl ⟨_, rfl, ?_⟩ | refine Or.inr ⟨_, rfl, ?_⟩ | refine ⟨_, _, _, _, true, rfl, .ty _, .base (.str _), kit_ty (by decide +kernel), ?_⟩ | refine ⟨_, _, rfl, ⟨by rw [sizeLine_eq]; omega, rfl⟩, ?_⟩ | refine ⟨_, _, rfl, .inl ⟨_, SqL.of (by assumption), rfl⟩, ?_⟩ | refine ⟨_, _, rfl, .inr ⟨_, SqT.of (by assumption), rfl⟩, ?_⟩))
          refine ite2 (fun c1 => ?_) (fun c1 => ?_)
          · have c1 := of_decide_eq_true c1
            rw [List.length_map] at c1
            (repeat (first | refine ⟨_, rfl, ?_⟩ | refine ⟨rfl, ?_⟩ | refine ⟨_, _, rfl, rfl, ?_⟩ | refine iteT ?_ | refine iteF ?_ | refine ⟨(by show (0 : Int) < _; omega), ?_⟩ | refine ⟨(⟨by omega, by omega⟩ : CDiv _ _), ?_⟩ | refine ⟨(⟨by decide, by decide, by decide⟩ : CPow _ _), ?_⟩ | refine ⟨(.inl ⟨by omega, by omega⟩ : CMul _ _), ?_⟩ | refine ⟨(.inr ⟨by omega, by omega⟩ : CMul _ _), ?_⟩ | refine Or.inl ⟨_, rfl, ?_⟩ | refine Or.inr ⟨_, rfl, ?_⟩ | refine ⟨_, _, _, _, true, rfl, .ty _, .base (.str _), kit_ty (by decide +kernel), ?_⟩ | refine ⟨_, _, rfl, ⟨by rw [sizeLine_eq]; omega, rfl⟩, ?_⟩ | refine ⟨_, _, rfl, .inl ⟨_, SqL.of (by assumption), rfl⟩, ?_⟩ | refine ⟨_, _, rfl, .inr ⟨_, SqT.of (by assumption), rfl⟩, ?_⟩))
            refine ite2 (fun c2 => ?_) (fun c2 => ?_)
            · have c2 := of_decide_eq_true c2
              rw [List.length_map, List.length_map] at c2
              (repeat (first | refine ⟨_, rfl, ?_⟩ | refine ⟨rfl, ?_⟩ | refine ⟨_, _, rfl, rfl, ?_⟩ | refine iteT ?_ | refine iteF ?_ | refine ⟨(by show (0 : Int) < _; omega), ?_⟩ | refine ⟨(⟨by omega, by omega⟩ : CDiv _ _), ?_⟩ | refine ⟨(⟨by decide, by decide, by decide⟩ : CPow _ _), ?_⟩ | refine ⟨(.inl ⟨by omega, by omega⟩ : CMul _ _), ?_⟩ | refine ⟨(.inr ⟨by omega, by omega⟩ : CMul _ _), ?_⟩ | refine Or.inl ⟨_, rfl, ?_⟩ | refine Or.inr ⟨_, rfl, ?_⟩ | refine ⟨_, _, _, _, true, rfl, .ty _, .base (.str _), kit_ty (by decide +kernel), ?_⟩ | refine ⟨_, _, rfl, ⟨by rw [sizeLine_eq]; omega, rfl⟩, ?_⟩ | refine ⟨_, _, rfl, .inl ⟨_, SqL.of (by assumption), rfl⟩, ?_⟩ | refine ⟨_, _, rfl, .inr ⟨_, SqT.of (by assumption), rfl⟩, ?_⟩))
              refine ite2 (fun c3 => ?_) (fun c3 => ?_)
              · have c3 := of_decide_eq_true c3
                rw [List.length_map, List.length_map] at c3
                (repeat (first | refine ⟨_, rfl, ?_⟩ | refine ⟨rfl, ?_⟩ | refine ⟨_, _, rfl, rfl, ?_⟩ | refine iteT ?_ | refine iteF ?_ | refine ⟨(by show (0 : Int) < _; omega), ?_⟩ | refine ⟨(⟨by omega, by omega⟩ : CDiv _ _), ?_⟩ | refine ⟨(⟨by decide, by decide, by decide⟩ : CPow _ _), ?_⟩ | refine ⟨(.inl ⟨by omega, by omega⟩ : CMul _ _), ?_⟩ | refine ⟨(.inr ⟨by omega, by omega⟩ : CMul _ _), ?_⟩ | refine Or.inl ⟨_, rfl, ?_⟩ | refine Or.inr ⟨_, rfl, ?_⟩ | refine ⟨_, _, _, _, true, rfl, .ty _, .base (.str _), kit_ty (by decide +kernel), ?_⟩ | refine ⟨_, _, rfl, ⟨by rw [sizeLine_eq]; omega, rfl⟩, ?_⟩ | refine ⟨_, _, rfl, .inl ⟨_, SqL.of (by assumption), rfl⟩, ?_⟩ | refine ⟨_, _, rfl, .inr ⟨_, SqT.of (by assumption), rfl⟩, ?_⟩))
                refine ⟨(by show 3 ≤ sizeLine; rw [sizeLine_eq]; omega), fun p np => ?_⟩
                refine kX i (i + 1 + j) ⟨by omega, hlr, by rw [hxr, decide_eq_true (by omega), decide_eq_true (by omega), decide_eq_true (by omega)]; rfl, fun x y hxy hy hlt => ?_⟩ p _ (Same.put s5 (s5.free np)) upd_same
                rcases hlt with h | ⟨h1, h2⟩
                · exact hno x y h hxy hy
                · rw [h1]
                  exact hno2 y (by omega) h2
              · (repeat (first | refine ⟨_, rfl, ?_⟩ | refine ⟨rfl, ?_⟩ | refine ⟨_, _, rfl, rfl, ?_⟩ | refine iteT ?_ | refine iteF ?_ | refine ⟨(by show (0 : Int) < _; omega), ?_⟩ | refine ⟨(⟨by omega, by omega⟩ : CDiv _ _), ?_⟩ | refine ⟨(⟨by decide, by decide, by decide⟩ : CPow _ _), ?_⟩ | refine ⟨(.inl ⟨by omega, by omega⟩ : CMul _ _), ?_⟩ | refine ⟨(.inr ⟨by omega, by omega⟩ : CMul _ _), ?_⟩ | refine Or.inl ⟨_, rfl, ?_⟩ | refine Or.inr ⟨_, rfl, ?_⟩ | refine ⟨_, _, _, _, true, rfl, .ty _, .base (.str _), kit_ty (by decide +kernel), ?_⟩ | refine ⟨_, _, rfl, ⟨by rw [sizeLine_eq]; omega, rfl⟩, ?_⟩ | refine ⟨_, _, rfl, .inl ⟨_, SqL.of (by assumption), rfl⟩, ?_⟩ | refine ⟨_, _, rfl, .inr ⟨_, SqT.of (by assumption), rfl⟩, ?_⟩))
                refine ⟨_, _, _, _, rfl, no ?_⟩
                have : ¬ bs.length < u2.1.length := fun h => c3 (decide_eq_true (by rw [List.length_map, List.length_map]; omega))
                rw [hxr, decide_eq_false this, Bool.and_false, Bool.and_false]
            · (repeat (first | refine ⟨_, rfl, ?_⟩ | refine ⟨rfl, ?_⟩ | refine ⟨_, _, rfl, rfl, ?_⟩ | refine iteT ?_ | refine iteF ?_ | refine ⟨(by show (0 : Int) < _; omega), ?_⟩ | refine ⟨(⟨by omega, by omega⟩ : CDiv _ _), ?_⟩ | refine ⟨(⟨by decide, by decide, by decide⟩ : CPow _ _), ?_⟩ | refine ⟨(.inl ⟨by omega, by omega⟩ : CMul _ _), ?_⟩ | refine ⟨(.inr ⟨by omega, by omega⟩ : CMul _ _), ?_⟩ | refine Or.inl ⟨_, rfl, ?_⟩ | refine Or.inr ⟨_, rfl, ?_⟩ | refine ⟨_, _, _, _, true, rfl, .ty _, .base (.str _), kit_ty (by decide +kernel), ?_⟩ | refine ⟨_, _, rfl, ⟨by rw [sizeLine_eq]; omega, rfl⟩, ?_⟩ | refine ⟨_, _, rfl, .inl ⟨_, SqL.of (by assumption), rfl⟩, ?_⟩ | refine ⟨_, _, rfl, .inr ⟨_, SqT.of (by assumption), rfl⟩, ?_⟩))
              refine ⟨_, _, _, _, rfl, no ?_⟩
              have : ¬ bs.length < u.1.length := fun h => c2 (decide_eq_true (by rw [List.length_map, List.length_map]; omega))
              rw [hxr, decide_eq_false this, Bool.false_and, Bool.and_false]
          · (repeat (first | refine ⟨_, rfl, ?_⟩ | refine ⟨rfl, ?_⟩ | refine ⟨_, _, rfl, rfl, ?_⟩ | refine iteT ?_ | refine iteF ?_ | refine ⟨(by show (0 : Int) < _; omega), ?_⟩ | refine ⟨(⟨by omega, by omega⟩ : CDiv _ _), ?_⟩ | refine ⟨(⟨by decide, by decide, by decide⟩ : CPow _ _), ?_⟩ | refine ⟨(.inl ⟨by omega, by omega⟩ : CMul _ _), ?_⟩ | refine ⟨(.inr ⟨by omega, by omega⟩ : CMul _ _), ?_⟩ | refine Or.inl ⟨_, rfl, ?_⟩ | refine Or.inr ⟨_, rfl, ?_⟩ | refine ⟨_, _, _, _, true, rfl, .ty _, .base (.str _), kit_ty (by decide +kernel), ?_⟩ | refine ⟨_, _, rfl, ⟨by rw [sizeLine_eq]; omega, rfl⟩, ?_⟩ | refine ⟨_, _, rfl, .inl ⟨_, SqL.of (by assumption), rfl⟩, ?_⟩ | refine ⟨_, _, rfl, .inr ⟨_, SqT.of (by assumption), rfl⟩, ?_⟩))
            refine ⟨_, _, _, _, rfl, no ?_⟩
            have : ¬ 0 < bs.length := fun h => c1 (decide_eq_true (by rw [List.length_map]; omega))
            rw [hxr, decide_eq_false this, Bool.false_and]
      · rintro σ H3 ⟨v2, v3, v4, v5, rfl, s3, hno2⟩
        refine ⟨_, _, _, _, _, rfl, s3, fun x y hx hxy hy => ?_⟩
        by_cases e : x = i
        · subst e
          exact hno2 y hxy (by omega)
        · exact hno x y (by omega) hxy hy
    · rintro σ H1 ⟨v1, v2, v3, v4, v5, rfl, s1, hno⟩
      (repeat (first | refine ⟨_, rfl, ?_⟩ | refine ⟨rfl, ?_⟩ | refine ⟨_, _, rfl, rfl, ?_⟩ | refine iteT ?_ | refine iteF ?_ | refine ⟨(by show (0 : Int) < _; omega), ?_⟩ | refine ⟨(⟨by omega, by omega⟩ : CDiv _ _), ?_⟩ | refine ⟨(⟨by decide, by decide, by decide⟩ : CPow _ _), ?_⟩ | refine ⟨(.inl ⟨by omega, by omega⟩ : CMul _ _), ?_⟩ | refine ⟨(.inr ⟨by omega, by omega⟩ : CMul _ _), ?_⟩ | refine Or.inl ⟨_, rfl, ?_⟩ | refine Or.inr ⟨_, rfl, ?_⟩ | refine ⟨_, _, _, _, true, rfl, .ty _, .base (.str _), kit_ty (by decide +kernel), ?_⟩ | refine ⟨_, _, rfl, ⟨by rw [sizeLine_eq]; omega, rfl⟩, ?_⟩ | refine ⟨_, _, rfl, .inl ⟨_, SqL.of (by assumption), rfl⟩, ?_⟩ | refine ⟨_, _, rfl, .inr ⟨_, SqT.of (by assumption), rfl⟩, ?_⟩))
      exact kN (fun x y hxy hy => hno x y (by omega) hxy hy) H1 s1
end
end BF47
set_option Elab.async false
set_option linter.all false
set_option maxRecDepth 100000
set_option maxHeartbeats 4000000
namespace BF47
open BF
open PySem PySem.Spec PyProof.Rows L2
open C8 (Cal CalAt Met Mak cal0 met0 mak0 fn0 pe_c pe_mk pe_mt pe_mt0 pe_gc fnScope fnBody fnArgs fnScope_by)
open SX
open LamX (Tabs TabB ExtN CodeO)
section
variable {P : Program} {w : World} {K : PySem.W.Frag} {mg : Str → Option Value} {base : Heap} {A : Ad} {cL PL : Addr}
theorem nm_len {x : Str} (h : isNm x = true) : x.length ≤ 1000 := by
  unfold isNm at h
  simp only [Bool.and_eq_true, decide_eq_true_eq] at h
  omega
theorem cal_law_wrong_room (T : Txt K mg A) : Cal P w K mg base 2 "_law_wrong_room" (spWrongR K) [] := by
  refine cal0 T.d_law_wrong_room T.b_law_wrong_room .nil sc_law_wrong_room (fun vs H Q E h => ?_) (fun cdv B outer s H vs Q E hr h => ?_)
  · obtain ⟨wl, c, a, p1, x, r, us1, rfl, _⟩ := h
    rfl
  · obtain ⟨wl, c, a, p1, x, r, us1, rfl, hS, ha, hnm, hp1, p1w, p1c, ap1, k⟩ := h
    refine ⟨_, (pss_cons (ps_set (i := 2) sc_law_wrong_room.nd rfl (by first | exact Or.inl rfl | exact Or.inr rfl) (pe_lst (pa_cons (pe_ix (ixLK K) (pv 1) pe_int (fun _ _ => rfl)) pa_nil)))
 (pss_cons (ps_set (i := 3) sc_law_wrong_room.nd rfl (by first | exact Or.inl rfl | exact Or.inr rfl) (pe_lst (pa_cons pe_non (pa_cons pe_int (pa_cons pe_str (pa_cons (pe_lst (pa_cons (pv 2) (pa_cons pe_int pa_nil))) (pa_cons (pe_tup (pa_cons (pv 2) pa_nil)) (pa_cons (pe_tup (pa_cons (pv 2) (pa_cons pe_int (pa_cons pe_int pa_nil)))) (pa_cons (pe_tup (pa_cons (pv 2) (pa_cons (pe_un un_neg pe_int) pa_nil))) (pa_cons (pe_tup (pa_cons (pv 2) (pa_cons pe_non pa_nil))) (pa_cons (pe_tup (pa_cons (pv 2) (pa_cons pe_bl pa_nil))) (pa_cons (pe_tup (pa_cons (pv 2) (pa_cons pe_str pa_nil))) (pa_cons (pe_tup (pa_cons pe_str (pa_cons pe_int pa_nil))) (pa_cons (pe_tup (pa_cons pe_non (pa_cons pe_int pa_nil))) pa_nil))))))))))))))
 (pss_cons (ps_set (i := 3) sc_law_wrong_room.nd rfl (by first | exact Or.inl rfl | exact Or.inr rfl) (pe_op op_cat (pv 3) (pe_lst (pa_cons (pe_tup (pa_cons (pe_callTy (tupleK K) (by rfl) T.z_tuple (by decide +kernel) (pa_cons (pv 2) pa_nil)) (pa_cons pe_int pa_nil))) (pa_cons (pe_tup (pa_cons (pe_op op_cat (pv 2) (pv 2)) (pa_cons pe_int pa_nil))) (pa_cons (pe_tup (pa_cons (pe_lst (pa_cons pe_str pa_nil)) (pa_cons pe_int pa_nil))) (pa_cons (pe_tup (pa_cons (pe_lst (pa_cons pe_non pa_nil)) (pa_cons pe_int pa_nil))) (pa_cons (pe_tup (pa_cons (pe_lst (pa_cons (pv 2) pa_nil)) (pa_cons pe_int pa_nil))) (pa_cons (pe_tup (pa_cons (pe_disp (pps_cons (pe_ix (ixLK K) (pv 1) pe_int (fun _ _ => rfl)) pe_int pps_nil) rfl rfl (by decide) (by decide)) (pa_cons pe_int pa_nil))) pa_nil)))))))))
 (pss_one (ps_ret (pe_ix (ixLK K) (pv 3) (pe_c (cal_law_draw T) hr (by decide) rfl (pa_cons (pv 0) (pa_cons (pe_callB (lenK K) (by rfl) T.z_len (by decide +kernel) (pa_cons (pv 3) pa_nil)) pa_nil))) (fun _ _ => rfl))))))), ?_⟩
    have hxl : x.length ≤ 1000 := nm_len (hnm x List.mem_cons_self).1
    have hz : ("zzzzzzzz" : Str) ∉ x :: r := fun h => (hnm _ h).2 (by decide +kernel)
    (repeat (first | refine ⟨_, rfl, ?_⟩ | refine ⟨rfl, ?_⟩ | refine ⟨_, _, rfl, rfl, ?_⟩ | refine iteT ?_ | refine iteF ?_ | refine ⟨(by show (0 : Int) < _; omega), ?_⟩ | refine ⟨(⟨by omega, by omega⟩ : CDiv _ _), ?_⟩ | refine ⟨(⟨by decide, by decide, by decide⟩ : CPow _ _), ?_⟩ | refine ⟨(.inl ⟨by omega, by omega⟩ : CMul _ _), ?_⟩ | refine ⟨(.inr ⟨by omega, by omega⟩ : CMul _ _), ?_⟩ | refine Or.inl ⟨_, rfl, ?_⟩ | refine Or.inr ⟨_, rfl, ?_⟩ | refine ⟨_, _, _, _, true, rfl, .ty _, .base (.str _), kit_ty (by decide +kernel), ?_⟩ | refine ⟨_, _, rfl, ⟨by rw [sizeLine_eq]; omega, rfl⟩, ?_⟩ | refine ⟨_, _, rfl, .inl ⟨_, SqL.of (by assumption), rfl⟩, ?_⟩ | refine ⟨_, _, rfl, .inr ⟨_, SqT.of (by assumption), rfl⟩, ?_⟩))
    refine ⟨a, _, 0, .str x, rfl, rfl, SqL.of ha, atI_nat (j := 0) rfl, ?_⟩
    refine ⟨(by show 1 ≤ sizeLine; rw [sizeLine_eq]; omega), fun l nl => ?_⟩
    refine g_name ?_
    try dsimp only
    have s1 : Same H (upd H l (.lst [V.str x])) := Same.new nl
    have hl1 : upd H l (.lst [V.str x]) l = some (.lst (([x] : List Str).map V.str)) := upd_same
    have lp : l ≠ p1 := fun e => by rw [e, hp1] at nl; cases nl
    have hp11 := s1 _ _ hp1
    generalize upd H l (.lst [V.str x]) = H1 at *
    refine seq_asg ?_
    have two : 2 ≤ sizeLine := by rw [sizeLine_eq]; omega
    have pair : ∀ {H2 : Hp} {t : Addr} {v : V} {o : Option Int}, H2 t = none → Same H1 H2 → (∀ H, EV K H v o) → (∀ i, o = some i → i < 0) → BadRm1 K (x :: r) p1 (.ref t) (upd H2 t (.tup [.ref l, v])) := fun nt s e h zs => br_two (at_upd nt (s _ _ hp11)) (lv_strs (at_upd2 nt (s _ _ hp11) (s _ _ hl1) lp) (by show 1 ≤ 63; decide) (fun y hy => by rw [List.mem_singleton.mp hy]; exact hxl)) (e _) (.inr h)
    have st := BadRm1.st (K := K) (things := x :: r) (p := p1)
    have eN : ∀ (H : Hp), EV K H .non none := fun H => .no (.base .non) (kit_ty (by decide +kernel))
    refine ev_lst (n := 12) st ?_ (by decide) H1 (Same.refl H1) _ fun v2 H2 s2 h2 => ?_
    · refine evs_cons st (fun H s Q q => q _ _ (Same.refl H) (fun _ => br_no (.base .non) (kit_ty (by decide +kernel)))) ?_
      refine evs_cons st (fun H s Q q => q _ _ (Same.refl H) (fun _ => br_no (.base (.int 5)) (kit_ty (by decide +kernel)))) ?_
      refine evs_cons st (fun H s Q q => q _ _ (Same.refl H) (fun _ => br_no (.base (.str _)) (kit_ty (by decide +kernel)))) ?_
      refine evs_cons st (fun H s Q q => ⟨_, rfl, two, fun t nt => q _ _ (Same.new nt) (fun _ => br_no (.base (.lst (at_upd nt (s _ _ hp11)))) (kit_ty (by decide +kernel)))⟩) ?_
      refine evs_cons st (fun H s Q q => ⟨_, rfl, (by show 1 ≤ sizeLine; rw [sizeLine_eq]; omega), fun t nt => q _ _ (Same.new nt) (fun _ => br_long (at_upd nt (s _ _ hp11)) (by show 1 ≠ 2; decide))⟩) ?_
      refine evs_cons st (fun H s Q q => ⟨_, rfl, (by show 3 ≤ sizeLine; rw [sizeLine_eq]; omega), fun t nt => q _ _ (Same.new nt) (fun _ => br_long (at_upd nt (s _ _ hp11)) (by show 3 ≠ 2; decide))⟩) ?_
      refine evs_cons st (fun H s Q q => ⟨_, rfl, 1, rfl, two, fun t nt => q _ _ (Same.new nt) (pair nt s (fun _ => .int (-1)) (fun i e => by cases e; decide))⟩) ?_
      refine evs_cons st (fun H s Q q => ⟨_, rfl, two, fun t nt => q _ _ (Same.new nt) (pair nt s eN (fun i e => by cases e))⟩) ?_
      refine evs_cons st (fun H s Q q => ⟨_, rfl, two, fun t nt => q _ _ (Same.new nt) (pair nt s (fun _ => .bl true) (fun i e => by cases e))⟩) ?_
      refine evs_cons st (fun H s Q q => ⟨_, rfl, two, fun t nt => q _ _ (Same.new nt) (pair nt s (fun _ => .no (.base (.str _)) (kit_ty (by decide +kernel))) (fun i e => by cases e))⟩) ?_
      refine evs_cons st (fun H s Q q => ⟨two, fun t nt => q _ _ (Same.new nt) (fun _ => br_two (at_upd nt (s _ _ hp11)) (.no (.base (.str _)) (kit_ty (by decide +kernel))) (.int 1) (.inl rfl))⟩) ?_
      refine evs_cons st (fun H s Q q => ⟨two, fun t nt => q _ _ (Same.new nt) (fun _ => br_two (at_upd nt (s _ _ hp11)) (.no (.base .non) (kit_ty (by decide +kernel))) (.int 1) (.inl rfl))⟩) ?_
      exact evs_nil
    · obtain ⟨m, vs, rfl, hm, hn, hb⟩ := h2
      refine g_name ?_
      try dsimp only
      refine seq_asg ?_
      have hl2 := s2 _ _ hl1
      refine ⟨_, rfl, ?_⟩
      refine ev_lst (n := 6) st ?_ (by decide) H2 (Same.refl H2) _ fun v3 H3 s3 h3 => ?_
      · have ha2 := s2 _ _ (s1 _ _ ha)
        have hp12 := s2 _ _ hp11
        have e1 : ∀ {H : Hp}, EV K H (.int 1) (some 1) := .int 1
        refine evs_cons st (fun H s Q q => ⟨_, rfl, l, _, rfl, .inl ⟨SqL.of (s _ _ hl2), fun u nu => ⟨two, fun t nt => ?_⟩⟩⟩) ?_
        · obtain ⟨s6, d⟩ := duo (v := .ref u) (w := .int 1) (s _ _ hp12) nu nt
          exact q _ _ s6 fun zs => br_two (d zs).1 (.no (.base (.tup (d zs).2.1)) (kit_ty (by decide +kernel))) e1 (.inl rfl)
        refine evs_cons st (fun H s Q q => ⟨_, rfl, _, rfl, l, l, _, _, rfl, rfl, s _ _ hl2, s _ _ hl2, (by show 2 ≤ sizeLine; exact two), fun u nu => ⟨two, fun t nt => ?_⟩⟩) ?_
        · obtain ⟨s6, d⟩ := duo (v := .ref u) (w := .int 1) (s _ _ hp12) nu nt
          exact q _ _ s6 fun zs => br_two (d zs).1 (lv_strs (ys := [x, x]) (d zs).2.1 (by show 2 ≤ 63; decide) (fun y hy => by
            have : y = x := by simpa using hy
            rw [this]
            exact hxl)) e1 (.inl goodL_twice)
        refine evs_cons st (fun H s Q q => ⟨(by show 1 ≤ sizeLine; rw [sizeLine_eq]; omega), fun u nu => ⟨two, fun t nt => ?_⟩⟩) ?_
        · obtain ⟨s6, d⟩ := duo (v := .ref u) (w := .int 1) (s _ _ hp12) nu nt
          exact q _ _ s6 fun zs => br_two (d zs).1 (lv_strs (ys := [("zzzzzzzz" : Str)]) (d zs).2.1 (by show 1 ≤ 63; decide) (fun y hy => by rw [List.mem_singleton.mp hy]; decide +kernel)) e1 (.inl (goodL_stranger hz))
        refine evs_cons st (fun H s Q q => ⟨(by show 1 ≤ sizeLine; rw [sizeLine_eq]; omega), fun u nu => ⟨two, fun t nt => ?_⟩⟩) ?_
        · obtain ⟨s6, d⟩ := duo (v := .ref u) (w := .int 1) (s _ _ hp12) nu nt
          exact q _ _ s6 fun zs => br_two (d zs).1 (.lst (os := [none]) (d zs).2.1 (.cons (.no (.base .non) (kit_ty (by decide +kernel))) .nil) (by decide) (fun z hz => by simp at hz) rfl) e1 (.inl goodL_none)
        refine evs_cons st (fun H s Q q => ⟨_, rfl, (by show 1 ≤ sizeLine; rw [sizeLine_eq]; omega), fun u nu => ⟨two, fun t nt => ?_⟩⟩) ?_
        · obtain ⟨s6, d⟩ := duo (v := .ref u) (w := .int 1) (s _ _ hp12) nu nt
          exact q _ _ s6 fun zs => br_two (d zs).1 (.lst (os := [none]) (d zs).2.1 (.cons (.no (.base (.lst ((d zs).2.2 _ _ lp (s _ _ hl2)))) (kit_ty (by decide +kernel))) .nil) (by decide) (fun z hz => by simp at hz) rfl) e1 (.inl goodL_none)
        refine evs_cons st (fun H s Q q => fun d nd => ⟨_, rfl, a, _, 0, .str x, rfl, rfl, SqL.of (Same.new nd _ _ (s _ _ ha2)), atI_nat (j := 0) rfl, upd_same, [(.inr x, .int 1)], rfl, (by show 1 ≤ 15; decide), two, fun t nt => ?_⟩) ?_
        · have s6 : Same H (upd (upd H d (.dK [])) d (.dK (mergeK [] [(Sum.inr x, V.int 1)]))) := Same.put (Same.new nd) nd
          have dp : d ≠ p1 := fun e => by rw [e, s _ _ hp12] at nd; cases nd
          have td : t ≠ d := fun e => by rw [e, upd_same] at nt; cases nt
          refine q _ _ (Same.put s6 (s6.free nt)) fun zs => br_two (at_upd nt (s6 _ _ (s _ _ hp12))) (.no (.base (.dK (kvs := mergeK [] [(Sum.inr x, V.int 1)]) ?_)) (kit_ty (by decide +kernel))) e1 (.inl rfl)
          rw [upd_ne dp, upd_ne td.symm, upd_same]
        · exact evs_nil
      · obtain ⟨m2, us, rfl, hm2, hn2, hb2⟩ := h3
        refine ⟨m, m2, vs, us, rfl, rfl, s3 _ _ hm, hm2, (by rw [hn, hn2, sizeLine_eq]; omega), fun p np => ?_⟩
        refine g_name ?_
        try dsimp only
        have s4 : Same H (upd H3 p (.lst (vs ++ us))) := ((s1.trans s2).trans s3).trans (Same.new np)
        have hb4 : ∀ u ∈ vs ++ us, BadRm1 K (x :: r) p1 u (upd H3 p (.lst (vs ++ us))) := fun u hu => by
          rcases List.mem_append.mp hu with hu | hu
          · exact st _ _ _ (Same.new np) (st _ _ _ s3 (hb u hu))
          · exact st _ _ _ (Same.new np) (hb2 u hu)
        have hn4 : (vs ++ us).length = 18 := by rw [List.length_append, hn, hn2]
        have hp4 := upd_same (H := H3) (a := p) (o := .lst (vs ++ us))
        generalize vs ++ us = ws at *
        generalize upd H3 p (.lst ws) = G at *
        have kG := KpS.same (w := wl) (c := c) s4
        (repeat (first | refine ⟨_, rfl, ?_⟩ | refine ⟨rfl, ?_⟩ | refine ⟨_, _, rfl, rfl, ?_⟩ | refine iteT ?_ | refine iteF ?_ | refine ⟨(by show (0 : Int) < _; omega), ?_⟩ | refine ⟨(⟨by omega, by omega⟩ : CDiv _ _), ?_⟩ | refine ⟨(⟨by decide, by decide, by decide⟩ : CPow _ _), ?_⟩ | refine ⟨(.inl ⟨by omega, by omega⟩ : CMul _ _), ?_⟩ | refine ⟨(.inr ⟨by omega, by omega⟩ : CMul _ _), ?_⟩ | refine Or.inl ⟨_, rfl, ?_⟩ | refine Or.inr ⟨_, rfl, ?_⟩ | refine ⟨_, _, _, _, true, rfl, .ty _, .base (.str _), kit_ty (by decide +kernel), ?_⟩ | refine ⟨_, _, rfl, ⟨by rw [sizeLine_eq]; omega, rfl⟩, ?_⟩ | refine ⟨_, _, rfl, .inl ⟨_, SqL.of (by assumption), rfl⟩, ?_⟩ | refine ⟨_, _, rfl, .inr ⟨_, SqT.of (by assumption), rfl⟩, ?_⟩))
        refine ⟨wl, c, (ws.length : Nat), rfl, kG.st hS, by omega, by omega, fun n H9 a9 b9 k9 => ?_⟩
        have hp9 := k9.get (kG.st hS) hp4 (isSt_len (by omega))
        have hn9 : n.toNat < ws.length := by omega
        refine ⟨p, ws, n, ws[n.toNat], rfl, rfl, SqL.of hp9, atI_of a9 hn9, ?_⟩
        exact k _ _ (kG.trans k9) fun zs => by
          obtain ⟨pv2, h1, h2⟩ := hb4 _ (List.getElem_mem hn9) zs
          exact ⟨pv2, h1.kt (T := []) (.of (k9.upd2 p1w p1c)) ((KpS.refl wl c G).upd2 p1w p1c |>.st (kG.st hS |> fun h => by
            obtain ⟨⟨i, y1, y2, y3, y4, q⟩, ns, q2, hl⟩ := h
            exact ⟨⟨i, y1, y2, y3, y4, by rw [upd_ne p1w.symm]; exact q⟩, ns, by rw [upd_ne p1c.symm]; exact q2, hl⟩)), h2⟩
end
end BF47
set_option Elab.async false
set_option linter.all false
set_option maxRecDepth 100000
set_option maxHeartbeats 4000000
namespace BF47
open BF
open PySem PySem.Spec PyProof.Rows L2
open C8 (Cal CalAt Met Mak cal0 met0 mak0 fn0 pe_c pe_mk pe_mt pe_mt0 pe_gc fnScope fnBody fnArgs fnScope_by)
open SX
open LamX (Tabs TabB ExtN CodeO)
section
variable {P : Program} {w : World} {K : PySem.W.Frag} {mg : Str → Option Value} {base : Heap} {A : Ad} {cL PL : Addr}
theorem cal_law_refused (T : Txt K mg A) (L : Lk base mg A cL PL) : Cal P w K mg base 12 "_law_refused" (spRefused (tabsL PL)) [] := by
  refine cal0 T.d_law_refused T.b_law_refused .nil sc_law_refused (fun vs H Q E h => ?_) (fun cdv B outer s H vs Q E hr h => ?_)
  · obtain ⟨wl, c, a, r, x, tl, rs, rfl, _⟩ := h
    rfl
  · obtain ⟨wl, c, a, r, x, tl, rs, rfl, hS, ht, ha, hnd, hso, hnm, htl, hR, hLam, hrl, hrz, k⟩ := h
    refine ⟨_, (pss_cons (ps_set (i := 3) sc_law_refused.nd rfl (by first | exact Or.inl rfl | exact Or.inr rfl) (pe_callTy (listK K) (by rfl) T.z_list (by decide +kernel) (pa_cons (pv 2) pa_nil)))
 (pss_cons (ps_set (i := 4) sc_law_refused.nd rfl (by first | exact Or.inl rfl | exact Or.inr rfl) (pe_c (cal_law_draw T) hr (by decide) rfl (pa_cons (pv 0) (pa_cons (pe_op op_add (pe_callB (lenK K) (by rfl) T.z_len (by decide +kernel) (pa_cons (pv 3) pa_nil)) pe_int) pa_nil))))
 (pss_cons (ps_expr (pe_bm PySem.F.plainAttrs_list PySem.F.slot_list_insert PySem.F.type_list_insert mt_insert (pv 3) (pa_cons (pv 4) (pa_cons (pe_c (cal_law_wrong_room T) hr (by decide) rfl (pa_cons (pv 0) (pa_cons (pv 1) pa_nil))) pa_nil))))
 (pss_cons (ps_if (pt_cmpR (neDK K hr) (pe_c (cal_law_told T L) hr (by decide) rfl (pa_cons (pv 1) (pa_cons (pv 3) pa_nil))) (pe_tup (pa_cons pe_str (pa_cons (pv 4) pa_nil))) (nomark _)) (pss_one (ps_ret pe_bl)) pss_nil)
 (pss_cons (ps_set (i := 5) sc_law_refused.nd rfl (by first | exact Or.inl rfl | exact Or.inr rfl) (pe_ix (ixLK K) (pe_lst (pa_cons pe_non (pa_cons pe_int (pa_cons pe_bl (pa_cons pe_str (pa_cons pe_str (pa_cons pe_str (pa_cons (pe_lst (pa_cons (pe_ix (ixLK K) (pv 1) pe_int (fun _ _ => rfl)) pa_nil)) (pa_cons pe_dnewK (pa_cons (pe_ix (ixLK K) (pv 1) pe_int (fun _ _ => rfl)) pa_nil)))))))))) (pe_c (cal_law_draw T) hr (by decide) rfl (pa_cons (pv 0) (pa_cons pe_int pa_nil))) (fun _ _ => rfl)))
 (pss_cons (ps_set (i := 6) sc_law_refused.nd rfl (by first | exact Or.inl rfl | exact Or.inr rfl) (pe_op op_add pe_int (pe_c (cal_law_draw T) hr (by decide) rfl (pa_cons (pv 0) (pa_cons (pe_callB (lenK K) (by rfl) T.z_len (by decide +kernel) (pa_cons (pv 1) pa_nil)) pa_nil)))))
 (pss_cons (ps_if (pt_cmpR (neDK K hr) (pe_c (cal_law_told T L) hr (by decide) rfl (pa_cons (pe_op op_cat (pe_op op_cat (pe_slice (slLK K) (pv 1) po_none (po_some (pv 6))) (pe_lst (pa_cons (pv 5) pa_nil))) (pe_slice (slLK K) (pv 1) (po_some (pv 6)) po_none)) (pa_cons (pv 3) pa_nil))) (pe_tup (pa_cons pe_str (pa_cons (pv 6) pa_nil))) (nomark _)) (pss_one (ps_ret pe_bl)) pss_nil)
 (pss_one (ps_ret (pe_and (pe_cmpR (eqDK K hr) (pe_c (cal_law_told T L) hr (by decide) rfl (pa_cons (pv 1) (pa_cons (pe_op op_rep (pe_lst (pa_cons (pe_tup (pa_cons (pe_lst pa_nil) (pa_cons pe_int pa_nil))) pa_nil)) pe_int) pa_nil))) (pe_tup (pa_cons pe_str (pa_cons (pe_un un_neg pe_int) pa_nil))) (nomark _)) (pe_one (pe_cmpR (eqDK K hr) (pe_ix (ixTK K) (pe_c (cal_law_told T L) hr (by decide) rfl (pa_cons (pv 1) (pa_cons (pe_op op_rep (pe_lst (pa_cons (pe_tup (pa_cons (pe_lst pa_nil) (pa_cons pe_int pa_nil))) pa_nil)) pe_int) pa_nil))) pe_int (fun _ _ => rfl)) pe_str (nomark _))))))))))))), ?_⟩
    obtain ⟨ts, hts⟩ : ∃ ts, ts = x :: tl := ⟨_, rfl⟩
    have hxt : x ∈ ts := by rw [hts]; exact List.mem_cons_self
    have htsl : ts.length = tl.length + 1 := by rw [hts]; rfl
    have h0t : ts[0]? = some x := by rw [hts]; rfl
    obtain ⟨rw_, us, hr0, hP⟩ := hR
    have hul : us.length = rs.length := hP.length
    have nml : ∀ y ∈ x :: tl, y.length ≤ 1000 := fun y hy => nm_len (hnm y hy).1
    (repeat (first | refine ⟨_, rfl, ?_⟩ | refine ⟨rfl, ?_⟩ | refine ⟨_, _, rfl, rfl, ?_⟩ | refine iteT ?_ | refine iteF ?_ | refine ⟨(by show (0 : Int) < _; omega), ?_⟩ | refine ⟨(⟨by omega, by omega⟩ : CDiv _ _), ?_⟩ | refine ⟨(⟨by decide, by decide, by decide⟩ : CPow _ _), ?_⟩ | refine ⟨(.inl ⟨by omega, by omega⟩ : CMul _ _), ?_⟩ | refine ⟨(.inr ⟨by omega, by omega⟩ : CMul _ _), ?_⟩ | refine Or.inl ⟨_, rfl, ?_⟩ | refine Or.inr ⟨_, rfl, ?_⟩ | refine ⟨_, _, _, _, true, rfl, .ty _, .base (.str _), kit_ty (by decide +kernel), ?_⟩ | refine ⟨_, _, rfl, ⟨by rw [sizeLine_eq]; omega, rfl⟩, ?_⟩ | refine ⟨_, _, rfl, .inl ⟨_, SqL.of (by assumption), rfl⟩, ?_⟩ | refine ⟨_, _, rfl, .inr ⟨_, SqT.of (by assumption), rfl⟩, ?_⟩))
    refine ⟨r, us, rfl, .inl (SqL.of hr0), fun p1 np1 => ?_⟩
    refine g_name ?_
    try dsimp only
    have k1 : KpT (tabsL PL) wl c H (upd H p1 (.lst us)) := (KpT.refl _ _ _ _).new hS np1
    have hp1 := upd_same (H := H) (a := p1) (o := .lst us)
    generalize upd H p1 (.lst us) = H1 at *
    (repeat (first | refine ⟨_, rfl, ?_⟩ | refine ⟨rfl, ?_⟩ | refine ⟨_, _, rfl, rfl, ?_⟩ | refine iteT ?_ | refine iteF ?_ | refine ⟨(by show (0 : Int) < _; omega), ?_⟩ | refine ⟨(⟨by omega, by omega⟩ : CDiv _ _), ?_⟩ | refine ⟨(⟨by decide, by decide, by decide⟩ : CPow _ _), ?_⟩ | refine ⟨(.inl ⟨by omega, by omega⟩ : CMul _ _), ?_⟩ | refine ⟨(.inr ⟨by omega, by omega⟩ : CMul _ _), ?_⟩ | refine Or.inl ⟨_, rfl, ?_⟩ | refine Or.inr ⟨_, rfl, ?_⟩ | refine ⟨_, _, _, _, true, rfl, .ty _, .base (.str _), kit_ty (by decide +kernel), ?_⟩ | refine ⟨_, _, rfl, ⟨by rw [sizeLine_eq]; omega, rfl⟩, ?_⟩ | refine ⟨_, _, rfl, .inl ⟨_, SqL.of (by assumption), rfl⟩, ?_⟩ | refine ⟨_, _, rfl, .inr ⟨_, SqT.of (by assumption), rfl⟩, ?_⟩))
    refine ⟨wl, c, _, rfl, k1.st hS, by omega, by omega, fun n H2 a2 b2 k2 => ?_⟩
    have k12 := k1.trans (.of k2)
    have p1w := hS.ne np1
    have hp2 := k2.keep _ _ p1w hp1
    have hS2 := k12.st hS
    refine g_name ?_
    try dsimp only
    have aw : a ≠ wl := hS.neo ha (isSt_strs _)
    have ha2 := k12.keep _ _ aw rfl ha
    (repeat (first | refine ⟨_, rfl, ?_⟩ | refine ⟨rfl, ?_⟩ | refine ⟨_, _, rfl, rfl, ?_⟩ | refine iteT ?_ | refine iteF ?_ | refine ⟨(by show (0 : Int) < _; omega), ?_⟩ | refine ⟨(⟨by omega, by omega⟩ : CDiv _ _), ?_⟩ | refine ⟨(⟨by decide, by decide, by decide⟩ : CPow _ _), ?_⟩ | refine ⟨(.inl ⟨by omega, by omega⟩ : CMul _ _), ?_⟩ | refine ⟨(.inr ⟨by omega, by omega⟩ : CMul _ _), ?_⟩ | refine Or.inl ⟨_, rfl, ?_⟩ | refine Or.inr ⟨_, rfl, ?_⟩ | refine ⟨_, _, _, _, true, rfl, .ty _, .base (.str _), kit_ty (by decide +kernel), ?_⟩ | refine ⟨_, _, rfl, ⟨by rw [sizeLine_eq]; omega, rfl⟩, ?_⟩ | refine ⟨_, _, rfl, .inl ⟨_, SqL.of (by assumption), rfl⟩, ?_⟩ | refine ⟨_, _, rfl, .inr ⟨_, SqT.of (by assumption), rfl⟩, ?_⟩))
    refine ⟨.inl ⟨rfl, _, SqL.of hp2⟩, ?_⟩
    (repeat (first | refine ⟨_, rfl, ?_⟩ | refine ⟨rfl, ?_⟩ | refine ⟨_, _, rfl, rfl, ?_⟩ | refine iteT ?_ | refine iteF ?_ | refine ⟨(by show (0 : Int) < _; omega), ?_⟩ | refine ⟨(⟨by omega, by omega⟩ : CDiv _ _), ?_⟩ | refine ⟨(⟨by decide, by decide, by decide⟩ : CPow _ _), ?_⟩ | refine ⟨(.inl ⟨by omega, by omega⟩ : CMul _ _), ?_⟩ | refine ⟨(.inr ⟨by omega, by omega⟩ : CMul _ _), ?_⟩ | refine Or.inl ⟨_, rfl, ?_⟩ | refine Or.inr ⟨_, rfl, ?_⟩ | refine ⟨_, _, _, _, true, rfl, .ty _, .base (.str _), kit_ty (by decide +kernel), ?_⟩ | refine ⟨_, _, rfl, ⟨by rw [sizeLine_eq]; omega, rfl⟩, ?_⟩ | refine ⟨_, _, rfl, .inl ⟨_, SqL.of (by assumption), rfl⟩, ?_⟩ | refine ⟨_, _, rfl, .inr ⟨_, SqT.of (by assumption), rfl⟩, ?_⟩))
    have p1c := hS.nc np1
    have ap1 : a ≠ p1 := fun e => by rw [e, np1] at ha; cases ha
    refine ⟨wl, c, a, p1, x, tl, us, rfl, hS2, ha2, hnm, hp2, p1w, p1c, ap1, fun v H3 k3 hv => ?_⟩
    have k13 := k12.trans (.of k3)
    have hp3 := k3.keep _ _ p1w hp2
    have hS3 := k13.st hS
    obtain ⟨m, hm⟩ : ∃ m : Nat, n = m := ⟨n.toNat, by omega⟩
    subst hm
    have hml : m ≤ us.length := by omega
    refine ⟨p1, us, (m : Int), v, rfl, rfl, hp3, small1000 (by omega), a2, by omega, ?_⟩
    rw [show Int.toNat (m : Int) = m from rfl]
    have k4 : KpT (tabsL PL) wl c H (upd H3 p1 (.lst (us.take m ++ [v] ++ us.drop m))) := k13.chg hS (.of np1) hp3
    have hp4 := upd_same (H := H3) (a := p1) (o := .lst (us.take m ++ [v] ++ us.drop m))
    have kr : ∀ b o, b ≠ wl ∧ b ≠ p1 → noT o = true → H b = some o → upd H3 p1 (.lst (us.take m ++ [v] ++ us.drop m)) b = some o := fun b o nb nt e => by
      rw [upd_ne nb.2]
      exact k13.keep b o nb.1 nt e
    have hP4 : Paired (RoomK (fun b => b ≠ wl ∧ b ≠ p1) (upd H3 p1 (.lst (us.take m ++ [v] ++ us.drop m)))) us rs := roomK_mv (rooms_live hP np1 fun b o _ _ e => e) kr
    obtain ⟨pw, hpw, hgw⟩ := hv (us.take m ++ [v] ++ us.drop m)
    have ha4 : upd H3 p1 (.lst (us.take m ++ [v] ++ us.drop m)) a = some (.lst ((x :: tl).map V.str)) := kr _ _ ⟨aw, ap1⟩ rfl ha
    generalize upd H3 p1 (.lst (us.take m ++ [v] ++ us.drop m)) = H4 at *
    have hS4 := k4.st hS
    have ht4 := k4.tabs hS ht
    have hh0 : thF ((x :: tl).map some) = none := thF_ok (by show tl.length + 1 ≤ 24; omega) hnd fun y hy => (hnm y hy).1
    have tz : ∀ z, some z ∈ (x :: tl).map some → z.length ≤ 1000 := fun z hz => by
      obtain ⟨y, hy, e⟩ := List.mem_map.mp hz
      cases e
      exact nml _ hy
    have hth : ∀ {G : Hp}, G a = some (.lst ((x :: tl).map V.str)) → ∃ xs, G a = some (.lst xs) ∧ Paired (IsS K G) xs ((x :: tl).map some) := fun h => ⟨_, h, iss_strs _⟩
    have hrm : ∀ q ∈ rs, q.1.length ≤ 63 ∧ ∀ y ∈ q.1, y.length ≤ 1000 := fun q hq => ⟨hrz q hq, fun y hy => nml y ((hLam.ok q hq).sub y hy)⟩
    have hpv := pv_rooms (K := K) hP4 hrm
    have hpt : Paired (PVr K H4) (us.take m ++ [v] ++ us.drop m) ((rs.map pvOf).take m ++ [pw] ++ (rs.map pvOf).drop m) := paired_app (paired_app (paired_take m hpv) (.cons hpw .nil)) (paired_drop m hpv)
    have hplen : ((rs.map pvOf).take m ++ [pw] ++ (rs.map pvOf).drop m).length = rs.length + 1 := by
      rw [List.length_append, List.length_append, List.length_take, List.length_drop, List.length_map]
      show min m rs.length + 1 + (rs.length - m) = _
      omega
    have hand : Hand K (tabsL PL) H4 a p1 ((x :: tl).map some) ((rs.map pvOf).take m ++ [pw] ++ (rs.map pvOf).drop m) := ⟨hth ha4, by rw [List.length_map]; show tl.length + 1 ≤ 1000; omega, tz, ⟨_, hp4, hpt⟩, by omega, ht4⟩
    have hbad : badP (sortS (x :: tl)) ((rs.map pvOf).take m ++ [pw] ++ (rs.map pvOf).drop m) = some m := by
      rw [hso]
      have hmt : ((rs.map pvOf).take m).length = m := by rw [List.length_take, List.length_map]; omega
      refine badP_some (p := pw) ?_ hgw fun j hj q hq => ?_
      · rw [List.append_assoc, List.getElem?_append_right (by omega), hmt, Nat.sub_self]
        rfl
      · rw [List.append_assoc, List.getElem?_append_left (by omega), List.getElem?_take_of_lt hj, List.getElem?_map] at hq
        cases hu : rs[j]? with
        | none => rw [hu] at hq; cases hq
        | some u =>
          rw [hu] at hq
          cases hq
          exact good_room (hLam.ok u (List.mem_of_getElem? hu))
    try dsimp only
    (repeat (first | refine ⟨_, rfl, ?_⟩ | refine ⟨rfl, ?_⟩ | refine ⟨_, _, rfl, rfl, ?_⟩ | refine iteT ?_ | refine iteF ?_ | refine ⟨(by show (0 : Int) < _; omega), ?_⟩ | refine ⟨(⟨by omega, by omega⟩ : CDiv _ _), ?_⟩ | refine ⟨(⟨by decide, by decide, by decide⟩ : CPow _ _), ?_⟩ | refine ⟨(.inl ⟨by omega, by omega⟩ : CMul _ _), ?_⟩ | refine ⟨(.inr ⟨by omega, by omega⟩ : CMul _ _), ?_⟩ | refine Or.inl ⟨_, rfl, ?_⟩ | refine Or.inr ⟨_, rfl, ?_⟩ | refine ⟨_, _, _, _, true, rfl, .ty _, .base (.str _), kit_ty (by decide +kernel), ?_⟩ | refine ⟨_, _, rfl, ⟨by rw [sizeLine_eq]; omega, rfl⟩, ?_⟩ | refine ⟨_, _, rfl, .inl ⟨_, SqL.of (by assumption), rfl⟩, ?_⟩ | refine ⟨_, _, rfl, .inr ⟨_, SqT.of (by assumption), rfl⟩, ?_⟩))
    unfold tNil
    dsimp only
    rw [List.append_nil]
    refine told_bad hand hh0 rfl (by omega) hbad fun p5 H5 s5 hp5 => ?_
    have two : 2 ≤ sizeLine := by rw [sizeLine_eq]; omega
    have one : 1 ≤ sizeLine := by rw [sizeLine_eq]; omega
    refine ⟨_, rfl, two, fun p6 np6 => ?_⟩
    have s6 : SmT (tabsL PL) H5 (upd H5 p6 (.tup [.str "rooms", .int (m : Int)])) := .of (Same.new np6)
    refine ⟨_, _, dp_ti (s6.keep _ _ rfl hp5), dp_ti upd_same, shaped_ti (by decide +kernel), shaped_ti (by decide +kernel), ?_⟩
    rw [eqv_ti]
    have k6 := k4.trans (.sm (s5.trans s6))
    have s46 := s5.trans s6
    generalize upd H5 p6 (.tup [.str "rooms", .int (m : Int)]) = H6 at *
    have ha6 := s46.keep _ _ rfl ha4
    have hp6 := s46.keep _ _ rfl hp4
    have hpt6 := Paired.imp (fun _ _ q => PVr.sm q s46) hpt
    refine ⟨_, rfl, iteF ?_⟩
    unfold tNext
    dsimp only
    refine seq_asg ?_
    have st := WrV.st (K := K) (x := x)
    refine ev_lst (n := 9) st ?_ (by decide) H6 (Same.refl H6) _ fun v7 H7 s7 h7 => ?_
    · refine evs_cons st (fun H s Q q => q _ _ (Same.refl H) ⟨none, .no (.base .non) (kit_ty (by decide +kernel)), .inl rfl, fun z e => by cases e⟩) ?_
      refine evs_cons st (fun H s Q q => q _ _ (Same.refl H) ⟨none, .no (.base (.int 5)) (kit_ty (by decide +kernel)), .inl rfl, fun z e => by cases e⟩) ?_
      refine evs_cons st (fun H s Q q => q _ _ (Same.refl H) ⟨none, .no (.base (.bl true)) (kit_ty (by decide +kernel)), .inl rfl, fun z e => by cases e⟩) ?_
      refine evs_cons st (fun H s Q q => q _ _ (Same.refl H) ⟨_, .str _, .inl (by decide +kernel), fun z e => by cases e; decide +kernel⟩) ?_
      refine evs_cons st (fun H s Q q => q _ _ (Same.refl H) ⟨_, .str _, .inl (by decide +kernel), fun z e => by cases e; decide +kernel⟩) ?_
      refine evs_cons st (fun H s Q q => q _ _ (Same.refl H) ⟨_, .str _, .inl (by decide +kernel), fun z e => by cases e; decide +kernel⟩) ?_
      refine evs_cons st (fun H s Q q => ⟨_, rfl, a, _, 0, .str x, rfl, rfl, SqL.of (s _ _ ha6), atI_nat (j := 0) rfl, one, fun u nu => q _ _ (Same.new nu) ⟨none, .no (.base (.lst upd_same)) (kit_ty (by decide +kernel)), .inl rfl, fun z e => by cases e⟩⟩) ?_
      refine evs_cons st (fun H s Q q => fun u nu => q _ _ (Same.new nu) ⟨none, .no (.base (.dK upd_same)) (kit_ty (by decide +kernel)), .inl rfl, fun z e => by cases e⟩) ?_
      refine evs_cons st (fun H s Q q => ⟨_, rfl, a, _, 0, .str x, rfl, rfl, SqL.of (s _ _ ha6), atI_nat (j := 0) rfl, q _ _ (Same.refl H) ⟨_, .str x, .inr rfl, fun z e => by cases e; exact nml _ List.mem_cons_self⟩⟩) ?_
      exact evs_nil
    · obtain ⟨l7, ws, rfl, hl7, hn7, hb7⟩ := h7
      have k7 := k6.trans (.same s7)
      have s47 := s46.trans (.of s7)
      have hS7 := k7.st hS
      refine ⟨_, rfl, wl, c, 9, rfl, hS7, by omega, by omega, fun n8 H8 a8 b8 k8 => ?_⟩
      have hn8 : n8.toNat < ws.length := by omega
      have hl8 := k8.get hS7 hl7 (isSt_len (by omega))
      refine ⟨l7, ws, n8, ws[n8.toNat], rfl, rfl, SqL.of hl8, atI_of a8 hn8, ?_⟩
      obtain ⟨o, hvo, hog, hoz⟩ := hb7 _ (List.getElem_mem hn8)
      have hvo8 := hvo.kt (T := tabsL PL) (.of k8) hS7
      obtain ⟨v8, hv8⟩ : ∃ v8, v8 = ws[n8.toNat] := ⟨_, rfl⟩
      rw [← hv8] at hvo8 ⊢
      refine g_name ?_
      try dsimp only
      have k8' := k7.trans (.of k8)
      have ha8 := k8'.keep _ _ aw rfl ha
      have hp8 : H8 p1 = some (.lst (us.take m ++ [v] ++ us.drop m)) := k8.keep _ _ p1w (s7 _ _ hp6)
      have hpt8 := Paired.imp (fun _ _ q => PVr.kt (T := tabsL PL) (PVr.sm (T := tabsL PL) q (.of s7)) (.of k8) hS7) hpt6
      (repeat (first | refine ⟨_, rfl, ?_⟩ | refine ⟨rfl, ?_⟩ | refine ⟨_, _, rfl, rfl, ?_⟩ | refine iteT ?_ | refine iteF ?_ | refine ⟨(by show (0 : Int) < _; omega), ?_⟩ | refine ⟨(⟨by omega, by omega⟩ : CDiv _ _), ?_⟩ | refine ⟨(⟨by decide, by decide, by decide⟩ : CPow _ _), ?_⟩ | refine ⟨(.inl ⟨by omega, by omega⟩ : CMul _ _), ?_⟩ | refine ⟨(.inr ⟨by omega, by omega⟩ : CMul _ _), ?_⟩ | refine Or.inl ⟨_, rfl, ?_⟩ | refine Or.inr ⟨_, rfl, ?_⟩ | refine ⟨_, _, _, _, true, rfl, .ty _, .base (.str _), kit_ty (by decide +kernel), ?_⟩ | refine ⟨_, _, rfl, ⟨by rw [sizeLine_eq]; omega, rfl⟩, ?_⟩ | refine ⟨_, _, rfl, .inl ⟨_, SqL.of (by assumption), rfl⟩, ?_⟩ | refine ⟨_, _, rfl, .inr ⟨_, SqT.of (by assumption), rfl⟩, ?_⟩))
      have hlx : (List.map V.str (x :: tl)).length = tl.length + 1 := by simp
      have hS8 := k8'.st hS
      refine ⟨wl, c, _, rfl, hS8, by omega, by omega, fun n9 H9 a9 b9 k9 => ?_⟩
      have k19 := k8'.trans (.of k9)
      refine ⟨_, _, rfl, rfl, ?_⟩
      refine g_name ?_
      try dsimp only
      obtain ⟨jj, hjj⟩ : ∃ jj : Nat, 1 + n9 = jj := ⟨(1 + n9).toNat, by omega⟩
      rw [hjj]
      have hj1 : 1 ≤ jj := by omega
      have hj2 : jj ≤ tl.length + 1 := by omega
      have ha9 := k19.keep _ _ aw rfl ha
      have hp9 : H9 p1 = some (.lst (us.take m ++ [v] ++ us.drop m)) := k9.keep _ _ p1w hp8
      have hvo9 := hvo8.kt (T := tabsL PL) (.of k9) hS8
      have hpt9 := Paired.imp (fun _ _ q => PVr.kt (T := tabsL PL) q (.of k9) hS8) hpt8
      have ts9 : ∀ n, (((x :: tl).map V.str).take n).length ≤ 100 := fun n => by rw [List.length_take, hlx]; omega
      have td9 : ∀ n, (((x :: tl).map V.str).drop n).length ≤ 100 := fun n => by rw [List.length_drop, hlx]; omega
      have z1 : (((x :: tl).map V.str).take jj).length + [v8].length ≤ sizeLine := by
        have := ts9 jj
        rw [sizeLine_eq]
        show _ + 1 ≤ _
        omega
      have z2 : (((x :: tl).map V.str).take jj ++ [v8]).length + (((x :: tl).map V.str).drop jj).length ≤ sizeLine := by
        have := ts9 jj
        have := td9 jj
        rw [sizeLine_eq, List.length_append]
        show _ + 1 + _ ≤ _
        omega
      refine ⟨_, rfl, _, rfl, jj, rfl, a, _, rfl, SqL.of ha9, fun l1 nl1 => ?_⟩
      rw [cut_lo]
      have q1 := Same.new (o := .lst (((x :: tl).map V.str).take jj)) nl1
      have hl1 := upd_same (H := H9) (a := l1) (o := .lst (((x :: tl).map V.str).take jj))
      generalize upd H9 l1 (.lst (((x :: tl).map V.str).take jj)) = G1 at *
      refine ⟨_, rfl, one, fun l2 nl2 => ?_⟩
      have q2 := Same.new (o := .lst [v8]) nl2
      have hl2 := upd_same (H := G1) (a := l2) (o := .lst [v8])
      generalize upd G1 l2 (.lst [v8]) = G2 at *
      refine ⟨l1, l2, _, _, rfl, rfl, q2 _ _ hl1, hl2, z1, fun l3 nl3 => ?_⟩
      have q3 := Same.new (o := .lst (((x :: tl).map V.str).take jj ++ [v8])) nl3
      have hl3 := upd_same (H := G2) (a := l3) (o := .lst (((x :: tl).map V.str).take jj ++ [v8]))
      generalize upd G2 l3 (.lst (((x :: tl).map V.str).take jj ++ [v8])) = G3 at *
      refine ⟨_, rfl, _, rfl, jj, rfl, a, _, rfl, SqL.of (q3 _ _ (q2 _ _ (q1 _ _ ha9))), fun l4 nl4 => ?_⟩
      rw [cut_hi]
      have q4 := Same.new (o := .lst (((x :: tl).map V.str).drop jj)) nl4
      have hl4 := upd_same (H := G3) (a := l4) (o := .lst (((x :: tl).map V.str).drop jj))
      generalize upd G3 l4 (.lst (((x :: tl).map V.str).drop jj)) = G4 at *
      refine ⟨l3, l4, _, _, rfl, rfl, q4 _ _ hl3, hl4, z2, fun l5 nl5 => ?_⟩
      have q5 := Same.new (o := .lst (((x :: tl).map V.str).take jj ++ [v8] ++ ((x :: tl).map V.str).drop jj)) nl5
      have hl5 := upd_same (H := G4) (a := l5) (o := .lst (((x :: tl).map V.str).take jj ++ [v8] ++ ((x :: tl).map V.str).drop jj))
      generalize upd G4 l5 (.lst (((x :: tl).map V.str).take jj ++ [v8] ++ ((x :: tl).map V.str).drop jj)) = G5 at *
      rw [← List.map_take, ← List.map_drop] at hl5
      have q15 : Same H9 G5 := q1.trans (q2.trans (q3.trans (q4.trans q5)))
      (repeat (first | refine ⟨_, rfl, ?_⟩ | refine ⟨rfl, ?_⟩ | refine ⟨_, _, rfl, rfl, ?_⟩ | refine iteT ?_ | refine iteF ?_ | refine ⟨(by show (0 : Int) < _; omega), ?_⟩ | refine ⟨(⟨by omega, by omega⟩ : CDiv _ _), ?_⟩ | refine ⟨(⟨by decide, by decide, by decide⟩ : CPow _ _), ?_⟩ | refine ⟨(.inl ⟨by omega, by omega⟩ : CMul _ _), ?_⟩ | refine ⟨(.inr ⟨by omega, by omega⟩ : CMul _ _), ?_⟩ | refine Or.inl ⟨_, rfl, ?_⟩ | refine Or.inr ⟨_, rfl, ?_⟩ | refine ⟨_, _, _, _, true, rfl, .ty _, .base (.str _), kit_ty (by decide +kernel), ?_⟩ | refine ⟨_, _, rfl, ⟨by rw [sizeLine_eq]; omega, rfl⟩, ?_⟩ | refine ⟨_, _, rfl, .inl ⟨_, SqL.of (by assumption), rfl⟩, ?_⟩ | refine ⟨_, _, rfl, .inr ⟨_, SqT.of (by assumption), rfl⟩, ?_⟩))
      try unfold tNil
      dsimp only
      rw [List.append_nil]
      have hand2 : Hand K (tabsL PL) G5 l5 p1 (((x :: tl).take jj).map some ++ [o] ++ ((x :: tl).drop jj).map some) ((rs.map pvOf).take m ++ [pw] ++ (rs.map pvOf).drop m) := by
        refine ⟨⟨_, hl5, paired_app (paired_app (iss_strs _) (.cons (hvo9.same q15) .nil)) (iss_strs _)⟩, ?_, fun z hz => ?_, ⟨_, q15 _ _ hp9, Paired.imp (fun _ _ q => PVr.sm (T := tabsL PL) q (.of q15)) hpt9⟩, by omega, (k19.tabs hS ht).ext q15⟩
        · rw [List.length_append, List.length_append, List.length_map, List.length_map, List.length_take, List.length_drop]
          show min jj (tl.length + 1) + 1 + (tl.length + 1 - jj) ≤ _
          omega
        · rcases List.mem_append.mp hz with h | h
          · rcases List.mem_append.mp h with h | h
            · obtain ⟨y, hy, e⟩ := List.mem_map.mp h
              cases e
              exact nml _ (List.mem_of_mem_take hy)
            · exact hoz z (List.mem_singleton.mp h).symm
          · obtain ⟨y, hy, e⟩ := List.mem_map.mp h
            cases e
            exact nml _ (List.mem_of_mem_drop hy)
      have hth2 := thF_at (xs := (x :: tl).take jj) (ys := (x :: tl).drop jj) (o := o) (x := x) (by rw [List.length_take, List.length_drop]; show min jj (tl.length + 1) + (tl.length + 1 - jj) ≤ 20; omega) (hnd.sublist (List.take_sublist _ _)) (fun y hy => (hnm y (List.mem_of_mem_take hy)).1) (by
        obtain ⟨j', rfl⟩ : ∃ j', jj = j' + 1 := ⟨jj - 1, by omega⟩
        exact List.mem_cons_self) hog
      rw [show ((x :: tl).take jj).length = jj by rw [List.length_take]; show min jj (tl.length + 1) = jj; omega] at hth2
      refine told_things hand2 hth2 fun p10 G6 s10 hp10 => ?_
      refine ⟨_, rfl, two, fun p11 np11 => ?_⟩
      have s11 : SmT (tabsL PL) G6 (upd G6 p11 (.tup [.str "things", .int (jj : Int)])) := .of (Same.new np11)
      refine ⟨_, _, dp_ti (s11.keep _ _ rfl hp10), dp_ti upd_same, shaped_ti (by decide +kernel), shaped_ti (by decide +kernel), ?_⟩
      rw [eqv_ti]
      have k20 := k19.trans (.sm (SmT.trans (.of q15) (s10.trans s11)))
      generalize upd G6 p11 (.tup [.str "things", .int (jj : Int)]) = G7 at *
      refine ⟨_, rfl, iteF ?_⟩
      try unfold tNext
      try dsimp only
      (repeat (first | refine ⟨_, rfl, ?_⟩ | refine ⟨rfl, ?_⟩ | refine ⟨_, _, rfl, rfl, ?_⟩ | refine iteT ?_ | refine iteF ?_ | refine ⟨(by show (0 : Int) < _; omega), ?_⟩ | refine ⟨(⟨by omega, by omega⟩ : CDiv _ _), ?_⟩ | refine ⟨(⟨by decide, by decide, by decide⟩ : CPow _ _), ?_⟩ | refine ⟨(.inl ⟨by omega, by omega⟩ : CMul _ _), ?_⟩ | refine ⟨(.inr ⟨by omega, by omega⟩ : CMul _ _), ?_⟩ | refine Or.inl ⟨_, rfl, ?_⟩ | refine Or.inr ⟨_, rfl, ?_⟩ | refine ⟨_, _, _, _, true, rfl, .ty _, .base (.str _), kit_ty (by decide +kernel), ?_⟩ | refine ⟨_, _, rfl, ⟨by rw [sizeLine_eq]; omega, rfl⟩, ?_⟩ | refine ⟨_, _, rfl, .inl ⟨_, SqL.of (by assumption), rfl⟩, ?_⟩ | refine ⟨_, _, rfl, .inr ⟨_, SqT.of (by assumption), rfl⟩, ?_⟩))
      have hS20 := k20.st hS
      have ha20 := k20.keep _ _ aw rfl ha
      have hh := hth ha20
      have ht20 := k20.tabs hS ht
      refine ⟨Nat.zero_le _, fun e1 ne1 => ?_⟩
      have r1 := Same.new (o := .lst []) ne1
      have he1 := upd_same (H := G7) (a := e1) (o := .lst [])
      generalize upd G7 e1 (.lst []) = G8 at *
      (repeat (first | refine ⟨_, rfl, ?_⟩ | refine ⟨rfl, ?_⟩ | refine ⟨_, _, rfl, rfl, ?_⟩ | refine iteT ?_ | refine iteF ?_ | refine ⟨(by show (0 : Int) < _; omega), ?_⟩ | refine ⟨(⟨by omega, by omega⟩ : CDiv _ _), ?_⟩ | refine ⟨(⟨by decide, by decide, by decide⟩ : CPow _ _), ?_⟩ | refine ⟨(.inl ⟨by omega, by omega⟩ : CMul _ _), ?_⟩ | refine ⟨(.inr ⟨by omega, by omega⟩ : CMul _ _), ?_⟩ | refine Or.inl ⟨_, rfl, ?_⟩ | refine Or.inr ⟨_, rfl, ?_⟩ | refine ⟨_, _, _, _, true, rfl, .ty _, .base (.str _), kit_ty (by decide +kernel), ?_⟩ | refine ⟨_, _, rfl, ⟨by rw [sizeLine_eq]; omega, rfl⟩, ?_⟩ | refine ⟨_, _, rfl, .inl ⟨_, SqL.of (by assumption), rfl⟩, ?_⟩ | refine ⟨_, _, rfl, .inr ⟨_, SqT.of (by assumption), rfl⟩, ?_⟩))
      refine ⟨two, fun t1 nt1 => ?_⟩
      have r2 := Same.new (o := .tup [.ref e1, .int 0]) nt1
      have ht1 := upd_same (H := G8) (a := t1) (o := .tup [.ref e1, .int 0])
      generalize upd G8 t1 (.tup [.ref e1, .int 0]) = G9 at *
      refine ⟨one, fun l6 nl6 => ?_⟩
      have r3 := Same.new (o := .lst [.ref t1]) nl6
      have hl6 := upd_same (H := G9) (a := l6) (o := .lst [.ref t1])
      generalize upd G9 l6 (.lst [.ref t1]) = G10 at *
      refine ⟨l6, 61, _, rfl, rfl, hl6, by decide, by decide, (by rw [sizeLine_eq]; show 1 * 61 ≤ _; omega), fun l7 nl7 => ?_⟩
      rw [show (List.replicate (61 : Int).toNat [V.ref t1]).flatten = List.replicate 61 (V.ref t1) from flat_one _ _]
      have r4 := Same.new (o := .lst (List.replicate 61 (.ref t1))) nl7
      have hl7 := upd_same (H := G10) (a := l7) (o := .lst (List.replicate 61 (.ref t1)))
      generalize upd G10 l7 (.lst (List.replicate 61 (.ref t1))) = G11 at *
      have r14 : Same G7 G11 := r1.trans (r2.trans (r3.trans r4))
      (repeat (first | refine ⟨_, rfl, ?_⟩ | refine ⟨rfl, ?_⟩ | refine ⟨_, _, rfl, rfl, ?_⟩ | refine iteT ?_ | refine iteF ?_ | refine ⟨(by show (0 : Int) < _; omega), ?_⟩ | refine ⟨(⟨by omega, by omega⟩ : CDiv _ _), ?_⟩ | refine ⟨(⟨by decide, by decide, by decide⟩ : CPow _ _), ?_⟩ | refine ⟨(.inl ⟨by omega, by omega⟩ : CMul _ _), ?_⟩ | refine ⟨(.inr ⟨by omega, by omega⟩ : CMul _ _), ?_⟩ | refine Or.inl ⟨_, rfl, ?_⟩ | refine Or.inr ⟨_, rfl, ?_⟩ | refine ⟨_, _, _, _, true, rfl, .ty _, .base (.str _), kit_ty (by decide +kernel), ?_⟩ | refine ⟨_, _, rfl, ⟨by rw [sizeLine_eq]; omega, rfl⟩, ?_⟩ | refine ⟨_, _, rfl, .inl ⟨_, SqL.of (by assumption), rfl⟩, ?_⟩ | refine ⟨_, _, rfl, .inr ⟨_, SqT.of (by assumption), rfl⟩, ?_⟩))
      try unfold tNil
      dsimp only
      rw [List.append_nil]
      have hand3 : Hand K (tabsL PL) G11 a l7 ((x :: tl).map some) ((noRs 61).map pvOf) := ⟨hth (r14 _ _ ha20), by rw [List.length_map]; show tl.length + 1 ≤ 1000; omega, tz, noRs_at (r4 _ _ (r3 _ _ (r2 _ _ he1))) (r4 _ _ (r3 _ _ ht1)) hl7, by rw [List.length_map, noRs_len]; omega, ht20.ext r14⟩
      refine told_many hand3 hh0 rfl (by rw [List.length_map, noRs_len]; omega) fun p12 G12 s12 hp12 => ?_
      (repeat (first | refine ⟨_, rfl, ?_⟩ | refine ⟨rfl, ?_⟩ | refine ⟨_, _, rfl, rfl, ?_⟩ | refine iteT ?_ | refine iteF ?_ | refine ⟨(by show (0 : Int) < _; omega), ?_⟩ | refine ⟨(⟨by omega, by omega⟩ : CDiv _ _), ?_⟩ | refine ⟨(⟨by decide, by decide, by decide⟩ : CPow _ _), ?_⟩ | refine ⟨(.inl ⟨by omega, by omega⟩ : CMul _ _), ?_⟩ | refine ⟨(.inr ⟨by omega, by omega⟩ : CMul _ _), ?_⟩ | refine Or.inl ⟨_, rfl, ?_⟩ | refine Or.inr ⟨_, rfl, ?_⟩ | refine ⟨_, _, _, _, true, rfl, .ty _, .base (.str _), kit_ty (by decide +kernel), ?_⟩ | refine ⟨_, _, rfl, ⟨by rw [sizeLine_eq]; omega, rfl⟩, ?_⟩ | refine ⟨_, _, rfl, .inl ⟨_, SqL.of (by assumption), rfl⟩, ?_⟩ | refine ⟨_, _, rfl, .inr ⟨_, SqT.of (by assumption), rfl⟩, ?_⟩))
      refine ⟨two, fun p13 np13 => ?_⟩
      have s13 : SmT (tabsL PL) G12 (upd G12 p13 (.tup [.str "rooms", .int (-1)])) := .of (Same.new np13)
      refine ⟨_, _, dp_ti (s13.keep _ _ rfl hp12), dp_ti upd_same, shaped_ti (by decide +kernel), shaped_ti (by decide +kernel), ?_⟩
      rw [eqv_ti]
      have k21 := k20.trans (.sm (SmT.trans (.of r14) (s12.trans s13)))
      generalize upd G12 p13 (.tup [.str "rooms", .int (-1)]) = F0 at *
      refine ⟨_, rfl, iteT ?_⟩
      have hS21 := k21.st hS
      have ha21 := k21.keep _ _ aw rfl ha
      have ht21 := k21.tabs hS ht
      clear r1 r2 r3 r4 he1 ht1 hl6 hl7 hand3
      (repeat (first | refine ⟨_, rfl, ?_⟩ | refine ⟨rfl, ?_⟩ | refine ⟨_, _, rfl, rfl, ?_⟩ | refine iteT ?_ | refine iteF ?_ | refine ⟨(by show (0 : Int) < _; omega), ?_⟩ | refine ⟨(⟨by omega, by omega⟩ : CDiv _ _), ?_⟩ | refine ⟨(⟨by decide, by decide, by decide⟩ : CPow _ _), ?_⟩ | refine ⟨(.inl ⟨by omega, by omega⟩ : CMul _ _), ?_⟩ | refine ⟨(.inr ⟨by omega, by omega⟩ : CMul _ _), ?_⟩ | refine Or.inl ⟨_, rfl, ?_⟩ | refine Or.inr ⟨_, rfl, ?_⟩ | refine ⟨_, _, _, _, true, rfl, .ty _, .base (.str _), kit_ty (by decide +kernel), ?_⟩ | refine ⟨_, _, rfl, ⟨by rw [sizeLine_eq]; omega, rfl⟩, ?_⟩ | refine ⟨_, _, rfl, .inl ⟨_, SqL.of (by assumption), rfl⟩, ?_⟩ | refine ⟨_, _, rfl, .inr ⟨_, SqT.of (by assumption), rfl⟩, ?_⟩))
      refine ⟨Nat.zero_le _, fun e2 ne2 => ?_⟩
      have r1 := Same.new (o := .lst []) ne2
      have he1 := upd_same (H := F0) (a := e2) (o := .lst [])
      generalize upd F0 e2 (.lst []) = F1 at *
      (repeat (first | refine ⟨_, rfl, ?_⟩ | refine ⟨rfl, ?_⟩ | refine ⟨_, _, rfl, rfl, ?_⟩ | refine iteT ?_ | refine iteF ?_ | refine ⟨(by show (0 : Int) < _; omega), ?_⟩ | refine ⟨(⟨by omega, by omega⟩ : CDiv _ _), ?_⟩ | refine ⟨(⟨by decide, by decide, by decide⟩ : CPow _ _), ?_⟩ | refine ⟨(.inl ⟨by omega, by omega⟩ : CMul _ _), ?_⟩ | refine ⟨(.inr ⟨by omega, by omega⟩ : CMul _ _), ?_⟩ | refine Or.inl ⟨_, rfl, ?_⟩ | refine Or.inr ⟨_, rfl, ?_⟩ | refine ⟨_, _, _, _, true, rfl, .ty _, .base (.str _), kit_ty (by decide +kernel), ?_⟩ | refine ⟨_, _, rfl, ⟨by rw [sizeLine_eq]; omega, rfl⟩, ?_⟩ | refine ⟨_, _, rfl, .inl ⟨_, SqL.of (by assumption), rfl⟩, ?_⟩ | refine ⟨_, _, rfl, .inr ⟨_, SqT.of (by assumption), rfl⟩, ?_⟩))
      refine ⟨two, fun t2 nt2 => ?_⟩
      have r2 := Same.new (o := .tup [.ref e2, .int 0]) nt2
      have ht1 := upd_same (H := F1) (a := t2) (o := .tup [.ref e2, .int 0])
      generalize upd F1 t2 (.tup [.ref e2, .int 0]) = F2 at *
      refine ⟨one, fun l8 nl8 => ?_⟩
      have r3 := Same.new (o := .lst [.ref t2]) nl8
      have hl6 := upd_same (H := F2) (a := l8) (o := .lst [.ref t2])
      generalize upd F2 l8 (.lst [.ref t2]) = F3 at *
      refine ⟨l8, 60, _, rfl, rfl, hl6, by decide, by decide, (by rw [sizeLine_eq]; show 1 * 60 ≤ _; omega), fun l9 nl9 => ?_⟩
      rw [show (List.replicate (60 : Int).toNat [V.ref t2]).flatten = List.replicate 60 (V.ref t2) from flat_one _ _]
      have r4 := Same.new (o := .lst (List.replicate 60 (.ref t2))) nl9
      have hl7 := upd_same (H := F3) (a := l9) (o := .lst (List.replicate 60 (.ref t2)))
      generalize upd F3 l9 (.lst (List.replicate 60 (.ref t2))) = F4 at *
      have r15 : Same F0 F4 := r1.trans (r2.trans (r3.trans r4))
      (repeat (first | refine ⟨_, rfl, ?_⟩ | refine ⟨rfl, ?_⟩ | refine ⟨_, _, rfl, rfl, ?_⟩ | refine iteT ?_ | refine iteF ?_ | refine ⟨(by show (0 : Int) < _; omega), ?_⟩ | refine ⟨(⟨by omega, by omega⟩ : CDiv _ _), ?_⟩ | refine ⟨(⟨by decide, by decide, by decide⟩ : CPow _ _), ?_⟩ | refine ⟨(.inl ⟨by omega, by omega⟩ : CMul _ _), ?_⟩ | refine ⟨(.inr ⟨by omega, by omega⟩ : CMul _ _), ?_⟩ | refine Or.inl ⟨_, rfl, ?_⟩ | refine Or.inr ⟨_, rfl, ?_⟩ | refine ⟨_, _, _, _, true, rfl, .ty _, .base (.str _), kit_ty (by decide +kernel), ?_⟩ | refine ⟨_, _, rfl, ⟨by rw [sizeLine_eq]; omega, rfl⟩, ?_⟩ | refine ⟨_, _, rfl, .inl ⟨_, SqL.of (by assumption), rfl⟩, ?_⟩ | refine ⟨_, _, rfl, .inr ⟨_, SqT.of (by assumption), rfl⟩, ?_⟩))
      try unfold tNil
      dsimp only
      rw [List.append_nil]
      have hand4 : Hand K (tabsL PL) F4 a l9 ((x :: tl).map some) ((noRs 60).map pvOf) := ⟨hth (r15 _ _ ha21), by rw [List.length_map]; show tl.length + 1 ≤ 1000; omega, tz, noRs_at (r4 _ _ (r3 _ _ (r2 _ _ he1))) (r4 _ _ (r3 _ _ ht1)) hl7, by rw [List.length_map, noRs_len]; omega, ht21.ext r15⟩
      refine told_made hand4 hh0 rfl (by rw [noRs_len]; omega) noRs_ok noRs_no fun p14 x14 F5 s14 hp14 _ => ?_
      (repeat (first | refine ⟨_, rfl, ?_⟩ | refine ⟨rfl, ?_⟩ | refine ⟨_, _, rfl, rfl, ?_⟩ | refine iteT ?_ | refine iteF ?_ | refine ⟨(by show (0 : Int) < _; omega), ?_⟩ | refine ⟨(⟨by omega, by omega⟩ : CDiv _ _), ?_⟩ | refine ⟨(⟨by decide, by decide, by decide⟩ : CPow _ _), ?_⟩ | refine ⟨(.inl ⟨by omega, by omega⟩ : CMul _ _), ?_⟩ | refine ⟨(.inr ⟨by omega, by omega⟩ : CMul _ _), ?_⟩ | refine Or.inl ⟨_, rfl, ?_⟩ | refine Or.inr ⟨_, rfl, ?_⟩ | refine ⟨_, _, _, _, true, rfl, .ty _, .base (.str _), kit_ty (by decide +kernel), ?_⟩ | refine ⟨_, _, rfl, ⟨by rw [sizeLine_eq]; omega, rfl⟩, ?_⟩ | refine ⟨_, _, rfl, .inl ⟨_, SqL.of (by assumption), rfl⟩, ?_⟩ | refine ⟨_, _, rfl, .inr ⟨_, SqT.of (by assumption), rfl⟩, ?_⟩))
      refine ⟨p14, _, 0, _, rfl, rfl, SqT.of hp14, rfl, ?_⟩
      (repeat (first | refine ⟨_, rfl, ?_⟩ | refine ⟨rfl, ?_⟩ | refine ⟨_, _, rfl, rfl, ?_⟩ | refine iteT ?_ | refine iteF ?_ | refine ⟨(by show (0 : Int) < _; omega), ?_⟩ | refine ⟨(⟨by omega, by omega⟩ : CDiv _ _), ?_⟩ | refine ⟨(⟨by decide, by decide, by decide⟩ : CPow _ _), ?_⟩ | refine ⟨(.inl ⟨by omega, by omega⟩ : CMul _ _), ?_⟩ | refine ⟨(.inr ⟨by omega, by omega⟩ : CMul _ _), ?_⟩ | refine Or.inl ⟨_, rfl, ?_⟩ | refine Or.inr ⟨_, rfl, ?_⟩ | refine ⟨_, _, _, _, true, rfl, .ty _, .base (.str _), kit_ty (by decide +kernel), ?_⟩ | refine ⟨_, _, rfl, ⟨by rw [sizeLine_eq]; omega, rfl⟩, ?_⟩ | refine ⟨_, _, rfl, .inl ⟨_, SqL.of (by assumption), rfl⟩, ?_⟩ | refine ⟨_, _, rfl, .inr ⟨_, SqT.of (by assumption), rfl⟩, ?_⟩))
      refine ⟨_, _, dp_at0, dp_at0, shaped_str (by decide +kernel), shaped_str (by decide +kernel), ?_⟩
      rw [eqv_str]
      exact k _ (k21.trans (.sm (SmT.trans (.of r15) s14)))
end
end BF47
set_option Elab.async false
set_option linter.all false
set_option maxRecDepth 100000
set_option maxHeartbeats 4000000
namespace BF47
open BF
open PySem PySem.Spec PyProof.Rows L2
open LamX (Tabs TabB ExtN CodeO)
/-! ### what stands through the law's turn -/
def Seen (H : Hp) (b : Addr) : Prop := ∃ o, noT o = true ∧ H b = some o
theorem Seen.no {H : Hp} {b : Addr} (h : Seen H b) (f : Fre H b) : False := by
  obtain ⟨o, n, e⟩ := h
  exact f o n e
theorem Seen.ne {H : Hp} {b p : Addr} (h : Seen H b) (f : H p = none) : b ≠ p := fun e => by
  obtain ⟨o, n, q⟩ := h
  rw [e, f] at q
  cases q
theorem seen_of {H : Hp} {b : Addr} {o : HO} (e : H b = some o) (n : noT o = true := by rfl) : Seen H b := ⟨o, n, e⟩
theorem rooms_seen {N : Addr → Prop} {H : Hp} {p : Addr} {rs : List Rm} (h : RoomsD N H p rs) : RoomsD (fun b => N b ∧ Seen H b) H p rs := by
  obtain ⟨np, vs, e, q⟩ := h
  exact ⟨⟨np, _, rfl, e⟩, vs, e, Paired.imp (fun _ _ ⟨t, l, e1, nt, e2, nl, e3⟩ => ⟨t, l, e1, ⟨nt, _, rfl, e2⟩, e2, ⟨nl, _, rfl, e3⟩, e3⟩) q⟩
theorem counts_seen {C : Addr} {N : Addr → Prop} {H : Hp} {x : Addr} {ts : List Str} {rs : List Rm} (h : CountsO C N H x ts rs) : CountsO C (fun b => N b ∧ Seen H b) H x ts rs := by
  obtain ⟨nx, dx, t, r, e, nt, e2, e3⟩ := h
  exact ⟨⟨nx, _, rfl, e⟩, dx, t, r, e, ⟨nt, _, rfl, e2⟩, e2, rooms_seen e3⟩
/-- two sets of addresses stand for the rooms and for the object -/
structure LS1 (T : List (Addr × Str)) (C : Addr) (Nr Nc : Addr → Prop) (wl c tl rp x : Addr) (xs : List Str) (rs : List Rm) (G : Hp) : Prop where
  st : StAt G wl c
  tb : Tabs T G
  th : G tl = some (.lst (xs.map V.str))
  rm : RoomsD Nr G rp rs
  cn : CountsO C Nc G x xs (rs.map srtR)
theorem LS1.put {T : List (Addr × Str)} {C : Addr} {Nr Nc : Addr → Prop} {wl c tl rp x p : Addr} {xs : List Str} {rs : List Rm} {G : Hp} {u o : HO} (h : LS1 T C Nr Nc wl c tl rp x xs rs G)
    (hw : p ≠ wl) (hc : p ≠ c) (ht : p ≠ tl) (hr : ¬ Nr p) (hn : ¬ Nc p) (e : G p = some u) (pl : plainO u = true := by rfl) : LS1 T C Nr Nc wl c tl rp x xs rs (upd G p o) := by
  refine ⟨?_, tabs_upd h.tb fun v q => (by rw [e] at q; cases q; exact pl), by rw [upd_ne ht.symm]; exact h.th, h.rm.mv fun a _ na _ q => (by rw [upd_ne fun z => hr (by rw [← z]; exact na)]; exact q), h.cn.mv fun a _ na _ q => (by rw [upd_ne fun z => hn (by rw [← z]; exact na)]; exact q)⟩
  obtain ⟨⟨i, x, y, z, v, q⟩, ns, q2, hl⟩ := h.st
  exact ⟨⟨i, x, y, z, v, by rw [upd_ne hw.symm]; exact q⟩, ns, by rw [upd_ne hc.symm]; exact q2, hl⟩
theorem LS1.sm {T : List (Addr × Str)} {C : Addr} {Nr Nc : Addr → Prop} {wl c tl rp x : Addr} {xs : List Str} {rs : List Rm} {G G' : Hp} (h : LS1 T C Nr Nc wl c tl rp x xs rs G) (s : Same G G') : LS1 T C Nr Nc wl c tl rp x xs rs G' :=
  ⟨h.st.same s, h.tb.ext s, s _ _ h.th, h.rm.mv fun a o _ _ e => s a o e, h.cn.mv fun a o _ _ e => s a o e⟩
theorem paired_seen {N : Addr → Prop} {H : Hp} {us : List V} {rs : List Rm} (h : Paired (RoomK N H) us rs) : Paired (RoomK (fun b => N b ∧ Seen H b) H) us rs :=
  Paired.imp (fun _ _ ⟨t, l, e1, nt, e2, nl, e3⟩ => ⟨t, l, e1, ⟨nt, _, rfl, e2⟩, e2, ⟨nl, _, rfl, e3⟩, e3⟩) h
/-- through the rest of the turn -/
structure LS (T : List (Addr × Str)) (C wl c tl rp dp x : Addr) (xs : List Str) (rs : List Rm) (G : Hp) : Prop where
  st : StAt G wl c
  tb : Tabs T G
  th : G tl = some (.lst (xs.map V.str))
  tw : tl ≠ wl
  rm : RoomsD (fun b => b ≠ wl) G rp rs
  du : RoomsD (fun b => b ≠ wl) G dp (rs.map srtR)
  cn : CountsO C (fun b => b ≠ wl) G x xs (rs.map srtR)
theorem LS.kp {T : List (Addr × Str)} {C wl c tl rp dp x : Addr} {xs : List Str} {rs : List Rm} {G G' : Hp} (h : LS T C wl c tl rp dp x xs rs G) (k : KpT T wl c G G') : LS T C wl c tl rp dp x xs rs G' :=
  ⟨k.st h.st, k.tabs h.st h.tb, k.keep _ _ h.tw rfl h.th, h.tw, h.rm.mv fun a o na n e => k.keep a o na n e, h.du.mv fun a o na n e => k.keep a o na n e, h.cn.mv fun a o na n e => k.keep a o na n e⟩
/-- the object made -/
theorem ci_made {K : PySem.W.Frag} {T : List (Addr × Str)} {C CT CR CX a r x dx : Addr} {H : Hp} {Q : Hp → Prop} {E : XK} {os : List (Option Str)} {zs : List Str} {rs : List Rm} (h : Hand K T H a r os (rs.map pvOf)) (h0 : thF os = none) (ez : os = zs.map some) (hl : rs.length ≤ 60) (ok : ∀ q ∈ rs, RmOk (sortS zs) q) (hn : NoX rs)
    (nx : H x = none) (ndx : H dx = none) (ne : dx ≠ x) (q : ∀ H', SmT T H H' → CountsO C (Fre H) H' x (sortS zs) (rs.map srtR) → Q H') :
    spCI K T C CT CR CX [.ref x, .ref a, .ref r] (upd (upd H dx (.own x)) x (.ins C dx [])) (fun v H2 => v = .non ∧ Q H2) E := by
  obtain ⟨⟨xs, ha, he⟩, tl, tz, ⟨ys, hr, hp⟩, rl, tb⟩ := h
  have s1 := made_at (C := C) nx ndx ne
  refine ⟨x, dx, a, r, xs, ys, os, _, rfl, upd_same, s1 _ _ ha, Paired.imp (fun _ _ q => q.same s1) he, tl, tz, s1 _ _ hr, Paired.imp (fun _ _ q => q.sm (T := []) (.of s1)) hp, rl, tb.ext s1, fun k hk => (by rw [h0] at hk; cases hk), fun zs' h0' ez' => ⟨fun h => absurd h (by rw [List.length_map]; omega), fun _ k hk => ?_, fun _ us i j e1 _ hx => ?_, fun _ us e1 _ _ H' f hO => ⟨rfl, ?_⟩⟩⟩
  · have e : zs' = zs := map_some_inj (ez'.symm.trans ez)
    rw [e, badP_pv ok] at hk
    cases hk
  · have e : us = rs := pvs_inj e1
    rw [e] at hx
    exact (hx.no hn).elim
  · have e : us = rs := pvs_inj e1
    have e2 : zs' = zs := map_some_inj (ez'.symm.trans ez)
    rw [e, e2] at hO
    exact q H' (made_fr nx ndx ne f) (hO.wk fun b hb => made_fre nx ndx ne hb)
/-! ### rooms in other orders, with other orders -/
theorem lam_rev {xs : List Str} {rs : List Rm} (h : Lam xs rs) : Lam xs rs.reverse :=
  ⟨fun r hr => h.ok r (List.mem_reverse.mp hr), List.pairwise_reverse.mpr (h.pw.imp fun q => q.symm)⟩
theorem lam_snoc {xs : List Str} {rs : List Rm} (h : Lam xs rs) : Lam xs (rs ++ [([], 0)]) := by
  refine ⟨fun r hr => ?_, List.pairwise_append.mpr ⟨h.pw, List.pairwise_singleton _ _, fun a _ b hb => ?_⟩⟩
  · rcases List.mem_append.mp hr with q | q
    · exact h.ok r q
    · rw [List.mem_singleton.mp q]
      exact ⟨.nil, fun x hx => (by cases hx), Int.le_refl _⟩
  · rw [List.mem_singleton.mp hb]
    exact .inr (.inr fun x hx => by cases hx)
abbrev MixR (u r : Rm) : Prop := u.1.Perm r.1 ∧ u.2 = r.2
theorem mix_ok {xs : List Str} {u r : Rm} (m : MixR u r) (h : RmOk xs r) : RmOk xs u := ⟨m.1.nodup_iff.mpr h.nd, fun x hx => h.sub x (m.1.subset hx), by rw [m.2]; exact h.pos⟩
theorem mix_nx {u r v s : Rm} (m : MixR u r) (n : MixR v s) (h : NX r s) : NX u v := by
  rcases h with h | h | h
  · exact .inl fun x hx hy => h x (m.1.subset hx) (n.1.subset hy)
  · exact .inr (.inl fun x hx => n.1.symm.subset (h x (m.1.subset hx)))
  · exact .inr (.inr fun x hx => m.1.symm.subset (h x (n.1.subset hx)))
theorem mix_mem {us rs : List Rm} (p : Paired MixR us rs) : ∀ u ∈ us, ∃ r ∈ rs, MixR u r := by
  induction p with
  | nil => intro u hu; cases hu
  | cons m _ ih =>
    intro u hu
    rcases List.mem_cons.mp hu with rfl | hu
    · exact ⟨_, List.mem_cons_self, m⟩
    · obtain ⟨r, hr, q⟩ := ih u hu
      exact ⟨r, List.mem_cons_of_mem _ hr, q⟩
theorem mix_pw {us rs : List Rm} (p : Paired MixR us rs) : rs.Pairwise NX → us.Pairwise NX := by
  induction p with
  | nil => intro _; exact .nil
  | cons m p ih =>
    intro h
    have h := List.pairwise_cons.mp h
    refine List.pairwise_cons.mpr ⟨fun b hb => ?_, ih h.2⟩
    obtain ⟨s, hs, q⟩ := mix_mem p b hb
    exact mix_nx m q (h.1 s hs)
theorem mix_lam {xs : List Str} {us rs : List Rm} (p : Paired MixR us rs) (h : Lam xs rs) : Lam xs us :=
  ⟨fun u hu => (mix_mem p u hu).elim fun r hr => mix_ok hr.2 (h.ok r hr.1), mix_pw p h.pw⟩
theorem mix_srt {us rs : List Rm} (p : Paired MixR us rs) : us.map srtR = rs.map srtR := by
  induction p with
  | nil => rfl
  | @cons u r _ _ m _ ih =>
    obtain ⟨a, i⟩ := u
    obtain ⟨b, j⟩ := r
    obtain ⟨m1, m2⟩ := m
    have m2 : i = j := m2
    have m1 : a.Perm b := m1
    show (sortS a, i) :: _ = (sortS b, j) :: _
    rw [ih, m2, sortS_of_perm m1]
theorem paired_perm {α β : Type} {F : α → β → Prop} {xs ys : List α} (p : ys.Perm xs) : ∀ {bs : List β}, Paired F xs bs → ∃ cs, cs.Perm bs ∧ Paired F ys cs := by
  induction p with
  | nil => intro bs h; cases h; exact ⟨[], .nil, .nil⟩
  | cons x p ih =>
    intro bs h
    cases h with
    | cons f t =>
      obtain ⟨cs, q, r⟩ := ih t
      exact ⟨_, q.cons _, .cons f r⟩
  | swap x y l =>
    intro bs h
    cases h with
    | cons f t =>
      cases t with
      | cons g t => exact ⟨_, List.Perm.swap _ _ _, .cons g (.cons f t)⟩
  | trans p q ih1 ih2 =>
    intro bs h
    obtain ⟨cs, q1, r1⟩ := ih2 h
    obtain ⟨ds, q2, r2⟩ := ih1 r1
    exact ⟨ds, q2.trans q1, r2⟩
theorem lam_nx {xs : List Str} {rs : List Rm} (h : Lam xs rs) : NoX rs := lam_nox h.pw fun r hr => (h.ok r hr).nd
theorem rooms_snoc {N : Addr → Prop} {G G' : Hp} {us : List V} {qs : List Rm} {z l : Addr} {ys : List Str} {n : Int} (hP : Paired (RoomK N G) us qs) (k : ∀ a o, N a → noT o = true → G a = some o → G' a = some o) (nz : N z) (hz : G' z = some (.tup [.ref l, .int n])) (nl : N l) (hl : G' l = some (.lst (ys.map V.str))) :
    Paired (RoomK N G') (us ++ [.ref z]) (qs ++ [(ys, n)]) := Paired.snoc ⟨z, l, rfl, nz, hz, nl, hl⟩ (roomK_mv hP k)
theorem paired_rev {α β : Type} {F : α → β → Prop} {xs : List α} {ys : List β} (h : Paired F xs ys) : Paired F xs.reverse ys.reverse := by
  induction h with
  | nil => exact .nil
  | cons f _ ih =>
    rw [List.reverse_cons, List.reverse_cons]
    exact Paired.snoc f ih
/-! ### asking == of the object -/
theorem eq_ask {K : PySem.W.Frag} {C : Addr} {g : Bool → Bool} {Q : VK} {H : Hp} {x y : Addr} {ts us : List Str} {rs qs : List Rm} {N M : Addr → Prop} (h : CountsO C N H x ts rs) (k : CountsO C M H y us qs) (o1 : ∀ z ∈ ts, PyData.strOk z = true) (o2 : ∀ r ∈ rs, OkR r) (o3 : ∀ z ∈ us, PyData.strOk z = true) (o4 : ∀ r ∈ qs, OkR r)
    (q : Q (.bl (g (decide (ts = us) && decide (rs = qs)))) H) : rEqO C (spCEq K C) g (.ref x) (.ref y) H Q := by
  obtain ⟨_, dx, t, r, hx, _⟩ := id h
  obtain ⟨_, dy, t', r', hy, _⟩ := id k
  exact ⟨x, y, _, _, _, _, rfl, rfl, hx, hy, x, .ref y, ts, rs, N, rfl, h, o1, o2, .inl ⟨y, us, qs, M, rfl, k, o3, o4, _, rfl, q⟩⟩
theorem eq_rooms {K : PySem.W.Frag} {C : Addr} {g : Bool → Bool} {Q : VK} {H : Hp} {x y : Addr} {ts : List Str} {rs qs : List Rm} {N M : Addr → Prop} (h : CountsO C N H x ts rs) (k : CountsO C M H y ts qs) (o1 : ∀ z ∈ ts, PyData.strOk z = true) (o2 : ∀ r ∈ rs, OkR r) (o4 : ∀ r ∈ qs, OkR r) {b : Bool} (e : decide (rs = qs) = b)
    (q : Q (.bl (g b)) H) : rEqO C (spCEq K C) g (.ref x) (.ref y) H Q := eq_ask h k o1 o2 o1 o4 (by rw [decide_eq_true rfl, Bool.true_and, e]; exact q)
theorem eqX_ask {K : PySem.W.Frag} {C : Addr} {Q : VK} {H : Hp} {x : Addr} {v : V} {t : Value} {ts : List Str} {rs : List Rm} {N : Addr → Prop} (h : CountsO C N H x ts rs) (ty : TyX K H v t) (kt : PySem.W.kitOne K t (.ref C) = some false) (nf : PySem.W.notFirst K C t = true) (o1 : ∀ z ∈ ts, PyData.strOk z = true) (o2 : ∀ r ∈ rs, OkR r)
    (q : Q (.bl false) H) : rEqX K C (spCEq K C) (.ref x) v H Q := by
  obtain ⟨_, dx, t', r, hx, _⟩ := id h
  exact ⟨x, dx, _, t, rfl, hx, ty, nf, x, v, ts, rs, N, rfl, h, o1, o2, .inr ⟨t, ty, kt, _, rfl, q⟩⟩
/-! ### the first lot of a list of rooms is emptied, if there is one -/
theorem clr_piece {K : PySem.W.Frag} {i : Nat} {σ : L2.St} {H : Hp} {p : Addr} {N : Addr → Prop} {us : List V} {rs : List Rm} {D : Ends} (hσ : σ[i]? = some (some (.ref p))) (hp : H p = some (.lst us)) (hP : Paired (RoomK N H) us rs) (ok : ∀ r ∈ rs, OkR r)
    (q : ∀ H1, Same H H1 → D.nx σ H1 ∧ ∀ (q0 : Addr) (zs : List Str), N q0 → q0 ≠ p → H q0 = some (.lst (zs.map V.str)) → H1 q0 = some (.lst (zs.map V.str)) → D.nx σ (upd H1 q0 (.lst []))) :
    tIfS (tTest (tOp (rNeD K) (tVar i) (tLst tNil))) (tDrop (tBM0 K "list" rClear (tOp (rIxT K) (tOp (rIxL K) (tVar i) (tC (V.int 0))) (tC (V.int 0))))) tNext D σ H := by
  refine ⟨_, hσ, Nat.zero_le _, fun e ne => ?_⟩
  have s1 := Same.new (o := .lst []) ne
  have he := upd_same (H := H) (a := e) (o := .lst [])
  generalize upd H e (.lst []) = H1 at *
  refine ⟨_, _, dp_rooms (N := fun _ => True) ⟨True.intro, us, s1 _ _ hp, roomK_wk (roomK_mv hP fun b o _ _ e => s1 _ _ e) fun _ _ => True.intro⟩, dp_rooms (N := fun _ => True) (rs := []) ⟨True.intro, [], he, .nil⟩, shaped_rooms ok, shaped_rooms (fun r hr => by cases hr), ?_⟩
  rw [eqv_rooms]
  cases hP with
  | nil => 
    refine ⟨_, rfl, iteF ?_⟩
    exact (q H1 s1).1
  | @cons v r vs rs hv t =>
    refine ⟨_, rfl, iteT ?_⟩
    obtain ⟨t1, q0, rfl, _, h1, n2, h2⟩ := hv
    have hq := s1 _ _ h2
    refine ⟨_, hσ, p, _, 0, _, rfl, rfl, SqL.of (s1 _ _ hp), atI_nat (j := 0) rfl, t1, _, 0, _, rfl, rfl, SqT.of (s1 _ _ h1), atI_nat (j := 0) rfl, .inl ⟨rfl, _, SqL.of hq⟩, q0, _, rfl, rfl, hq, ?_⟩
    refine (q H1 s1).2 q0 _ n2 (fun e => ?_) h2 hq
    rw [e, hp] at h2
    have z := HO.lst.inj (Option.some.inj h2)
    cases hr : r.1 with
    | nil => rw [hr] at z; cases z
    | cons y ys => rw [hr] at z; cases z
theorem clr_inv {K : PySem.W.Frag} {i : Nat} {σ : L2.St} {H : Hp} {p : Addr} {N : Addr → Prop} {us : List V} {rs : List Rm} {D : Ends} (I : Hp → Prop) (hσ : σ[i]? = some (some (.ref p))) (hp : H p = some (.lst us)) (hP : Paired (RoomK N H) us rs) (ok : ∀ r ∈ rs, OkR r)
    (h1 : ∀ H1, Same H H1 → I H1) (h2 : ∀ H1 (q0 : Addr) (zs : List Str), Same H H1 → N q0 → q0 ≠ p → H q0 = some (.lst (zs.map V.str)) → H1 q0 = some (.lst (zs.map V.str)) → I (upd H1 q0 (.lst []))) (q : ∀ H', I H' → D.nx σ H') :
    tIfS (tTest (tOp (rNeD K) (tVar i) (tLst tNil))) (tDrop (tBM0 K "list" rClear (tOp (rIxT K) (tOp (rIxL K) (tVar i) (tC (V.int 0))) (tC (V.int 0))))) tNext D σ H :=
  clr_piece hσ hp hP ok fun H1 s1 => ⟨q _ (h1 H1 s1), fun q0 zs n1 n2 e1 e2 => q _ (h2 H1 q0 zs s1 n1 n2 e1 e2)⟩
/-! ### the last of a turn -/
theorem fin_piece {T : List (Addr × Str)} {C wl c tl rp dp x : Addr} {xs : List Str} {rs : List Rm} {σ : L2.St} {H : Hp} {D : Ends} (h1 : σ[1]? = some (some (.ref wl))) (h3 : σ[3]? = some (some (.ref tl))) (h5 : σ[5]? = some (some (.ref rp))) (h : LS T C wl c tl rp dp x xs rs H)
    (hx0 : 1 ≤ xs.length) (hx9 : xs.length ≤ 9) (nd : xs.Nodup) (so : sortS xs = xs) (nm : ∀ y ∈ xs, NmK y) (hl : Lam xs rs) (h40 : rs.length ≤ 40) (hz : ∀ q ∈ rs, q.1.length ≤ 63) (q : ∀ H', KpT T wl c H H' → D.nx σ H') :
    tIfS (tNot (tB (tCall (spRefused T) [] C8.E0 (tCons (tVar 1) (tCons (tVar 3) (tCons (tVar 5) tNil)))))) (tRet (tC (.bl false))) tNext D σ H := by
  obtain ⟨x0, tl0, rfl⟩ : ∃ x0 tl0, xs = x0 :: tl0 := by
    cases xs with
    | nil => exact absurd hx0 (by decide)
    | cons a b => exact ⟨a, b, rfl⟩
  refine ⟨_, h1, _, h3, _, h5, wl, c, tl, rp, x0, tl0, rs, rfl, h.st, h.tb, h.th, nd, so, nm, by have : tl0.length + 1 ≤ 9 := hx9; omega, h.rm, hl, h40, hz, fun H' k => ?_⟩
  exact ⟨_, rfl, iteF (q H' k)⟩
/-! ### the letters -/
def letters (n : Nat) : List Str := (List.range n).map fun i => (⟨#[97 + i]⟩ : Str)
theorem letters_at (j : Nat) (h : j < (Str.ofString "abcdefghijklmnopqrstuvwxyz").cps.toList.length) : (Str.ofString "abcdefghijklmnopqrstuvwxyz").cps.toList[j] = 97 + j := by
  have e : (Str.ofString "abcdefghijklmnopqrstuvwxyz").cps.toList = List.range' 97 26 := by decide +kernel
  have m : (Str.ofString "abcdefghijklmnopqrstuvwxyz").cps.toList[j]? = (List.range' 97 26)[j]? := by rw [e]
  rw [List.getElem?_eq_getElem h] at m
  have h9 : j < 26 := by rw [e, List.length_range'] at h; exact h
  rw [List.getElem?_eq_getElem (by rw [List.length_range']; exact h9)] at m
  have m := Option.some.inj m
  rw [List.getElem_range'] at m
  omega
theorem letters_len (n : Nat) : (letters n).length = n := by
  unfold letters
  rw [List.length_map, List.length_range]
theorem letters_up (n : Nat) : letters (n + 1) = letters n ++ [(⟨#[97 + n]⟩ : Str)] := by
  unfold letters
  rw [List.range_succ, List.map_append]
  rfl
theorem letters_size {n : Nat} : ∀ z, some z ∈ (letters n).map some → z.length ≤ 1000 := fun z hz => by
  obtain ⟨y, hy, e⟩ := List.mem_map.mp hz
  cases e
  obtain ⟨i, _, rfl⟩ := List.mem_map.mp hy
  show 1 ≤ 1000
  decide
theorem letters_23 : thF ((letters 23).map some) = none := by decide +kernel
theorem letters_24 : thF ((letters 24).map some) = none := by decide +kernel
theorem letters_25 : thF ((letters 25).map some) = some (-1) := by decide +kernel
end BF47
set_option Elab.async false
set_option linter.all false
set_option maxRecDepth 100000
set_option maxHeartbeats 4000000
namespace BF47
open BF
open PySem PySem.Spec PyProof.Rows L2
open C8 (Cal CalAt Met Mak cal0 met0 mak0 fn0 pe_c pe_mk pe_mt pe_mt0 pe_gc fnScope fnBody fnArgs fnScope_by)
open SX
open LamX (Tabs TabB ExtN CodeO)
section
variable {P : Program} {w : World} {K : PySem.W.Frag} {mg : Str → Option Value} {base : Heap} {A : Ad} {cL PL : Addr}
def spLaw (K : PySem.W.Frag) (T : List (Addr × Str)) : Sp := fun vs H Q _ => ∃ (a : Addr) (ns : List Int), vs = [.ref a] ∧ SqL K H a (ns.map V.int) ∧ ns.length ≤ 63 ∧ Tabs T H ∧ ∀ H', Q (.bl true) H'
theorem ok_law (T : Txt K mg A) (L : Lk base mg A cL PL) : FnOk P w K mg base C8.CX0 13 A.f_law A.fd_law ["script"] (spLaw K (tabsL PL)) := by
  refine C8.fn0 T.d_law.fn sc_law (fun vs H Q E h => ?_) (fun cdv B outer s H vs Q E hr h => ?_)
  · obtain ⟨a, ns, rfl, _⟩ := h
    rfl
  · obtain ⟨sc, ns, rfl, ha, hn, hta, k⟩ := h
    refine ⟨_, (pss_cons (ps_set (i := 1) sc_law.nd rfl (by first | exact Or.inl rfl | exact Or.inr rfl) (pe_c (cal_law_state T) hr (by decide) rfl (pa_cons (pv 0) pa_nil)))
 (pss_cons (ps_for PassesOwn.never rfl (pi_range1 (by rfl) T.z_range (pa_cons pe_int pa_nil)) (pg_name (i := 2) sc_law.nd rfl (by first | exact Or.inl rfl | exact Or.inr rfl)) (pss_cons (ps_set (i := 3) sc_law.nd rfl (by first | exact Or.inl rfl | exact Or.inr rfl) (pe_c (cal_law_names T) hr (by decide) rfl (pa_cons (pv 1) (pa_cons (pe_op op_add pe_int (pe_c (cal_law_draw T) hr (by decide) rfl (pa_cons (pv 1) (pa_cons pe_int pa_nil)))) pa_nil))))
 (pss_cons (ps_set (i := 4) sc_law.nd rfl (by first | exact Or.inl rfl | exact Or.inr rfl) (pe_c (cal_law_mixed T) hr (by decide) rfl (pa_cons (pv 1) (pa_cons (pv 3) pa_nil))))
 (pss_cons (ps_set (i := 5) sc_law.nd rfl (by first | exact Or.inl rfl | exact Or.inr rfl) (pe_c (cal_law_rooms T 2) hr (by decide) rfl (pa_cons (pv 1) (pa_cons (pv 3) (pa_cons pe_int pa_nil)))))
 (pss_cons (ps_setLc (i := 6) (own := [("lot", 15), ("number", 16)]) (g := gTup _ 2 (gCons (gName 15) (gCons (gName 16) gNil))) (by rfl) sc_law.nd rfl rfl (sw_true rfl rfl rfl (by decide +kernel)) (pi_list (pv 5)) (blkOk_by (own := [("lot", 15), ("number", 16)]) (N := N_law) (sc := fnScope s_law) (by decide +kernel)) (fun _ _ _ _ _ => (by exact (pg_tup (by rfl) (pgs_cons (pg_name (i := 15) sc_law.nd rfl (by first | exact Or.inl rfl | exact Or.inr rfl)) (pgs_cons (pg_name (i := 16) sc_law.nd rfl (by first | exact Or.inl rfl | exact Or.inr rfl)) pgs_nil))))) (fun _ _ _ _ _ => pts_nil) (fun _ _ _ _ _ => (pe_tup (pa_cons (pe_callTy (listK K) (by rfl) T.z_list (by decide +kernel) (pa_cons (pv 15) pa_nil)) (pa_cons (pv 16) pa_nil)))))
 (pss_cons (ps_set (i := 7) sc_law.nd rfl (by first | exact Or.inl rfl | exact Or.inr rfl) (pe_mkN (mak_Counts T L) hr (by decide) rfl (pa_cons (pv 4) (pa_cons (pv 6) pa_nil))))
 (pss_cons (ps_expr (pe_bm0 PySem.F.plainAttrs_list PySem.F.slot_list_clear PySem.F.type_list_clear mt_clear (pv 4)))
 (pss_cons (ps_if (pt_cmpR (neDK K hr) (pv 6) (pe_lst pa_nil) (nomark _)) (pss_one (ps_expr (pe_bm0 PySem.F.plainAttrs_list PySem.F.slot_list_clear PySem.F.type_list_clear mt_clear (pe_ix (ixTK K) (pe_ix (ixLK K) (pv 6) pe_int (fun _ _ => rfl)) pe_int (fun _ _ => rfl))))) pss_nil)
 (pss_cons (ps_expr (pe_bm PySem.F.plainAttrs_list PySem.F.slot_list_append PySem.F.type_list_append mt_append (pv 6) (pa_cons pe_non pa_nil)))
 (pss_cons (ps_setLc (i := 8) (own := [("lot", 15), ("number", 16)]) (g := gTup _ 2 (gCons (gName 15) (gCons (gName 16) gNil))) (by rfl) sc_law.nd rfl rfl (sw_true rfl rfl rfl (by decide +kernel)) (pi_list (pv 5)) (blkOk_by (own := [("lot", 15), ("number", 16)]) (N := N_law) (sc := fnScope s_law) (by decide +kernel)) (fun _ _ _ _ _ => (by exact (pg_tup (by rfl) (pgs_cons (pg_name (i := 15) sc_law.nd rfl (by first | exact Or.inl rfl | exact Or.inr rfl)) (pgs_cons (pg_name (i := 16) sc_law.nd rfl (by first | exact Or.inl rfl | exact Or.inr rfl)) pgs_nil))))) (fun _ _ _ _ _ => pts_nil) (fun _ _ _ _ _ => (pe_tup (pa_cons (pe_callB (sortedSK K) (by rfl) T.z_sorted (by decide +kernel) (pa_cons (pv 15) pa_nil)) (pa_cons (pv 16) pa_nil)))))
 (pss_cons (ps_for PassesOwn.never rfl (pi_range1 (by rfl) T.z_range (pa_cons pe_int pa_nil)) (pg_name (i := 9) sc_law.nd rfl (by first | exact Or.inl rfl | exact Or.inr rfl)) (pss_cons (ps_if (PW.pt (pw_or (pt_cmpR (neDK K hr) (pe_mt0 (met_Counts_things T) hr (by decide) (pv 7)) (pv 3) (nomark _)) (pw_or (pt_cmpR (neDK K hr) (pe_mt0 (met_Counts_rooms T) hr (by decide) (pv 7)) (pv 8) (nomark _)) (pw_or1 (pt_not (pt_val (pe_callB (allK K rfl) (by rfl) T.z_all (by decide +kernel) (pa_cons (pe_lc (own := [("room", 17)]) (g := gName 17) rfl sc_law.nd (pi_list (pe_mt0 (met_Counts_rooms T) hr (by decide) (pv 7))) (blkOk_by (own := [("room", 17)]) (N := N_law) (sc := fnScope s_law) (by decide +kernel)) (fun _ _ _ _ _ => (pg_name (i := 17) sc_law.nd rfl (by first | exact Or.inl rfl | exact Or.inr rfl))) (fun _ _ _ _ _ => pts_nil) (fun _ _ _ _ _ => (pe_callB (isiK K) (by rfl) T.z_isinstance (by decide +kernel) (pa_cons (pv 17) (pa_cons (pe_bltn (v := .ty "tuple") (by rfl) T.z_tuple (by decide +kernel) rfl) pa_nil))))) pa_nil)))))))) (pss_one (ps_ret pe_bl)) pss_nil)
 (pss_cons (ps_set (i := 10) sc_law.nd rfl (by first | exact Or.inl rfl | exact Or.inr rfl) (pe_mt0 (met_Counts_things T) hr (by decide) (pv 7)))
 (pss_cons (ps_expr (pe_bm0 PySem.F.plainAttrs_list PySem.F.slot_list_clear PySem.F.type_list_clear mt_clear (pv 10)))
 (pss_cons (ps_set (i := 10) sc_law.nd rfl (by first | exact Or.inl rfl | exact Or.inr rfl) (pe_mt0 (met_Counts_rooms T) hr (by decide) (pv 7)))
 (pss_cons (ps_if (pt_cmpR (neDK K hr) (pv 10) (pe_lst pa_nil) (nomark _)) (pss_one (ps_expr (pe_bm0 PySem.F.plainAttrs_list PySem.F.slot_list_clear PySem.F.type_list_clear mt_clear (pe_ix (ixTK K) (pe_ix (ixLK K) (pv 10) pe_int (fun _ _ => rfl)) pe_int (fun _ _ => rfl))))) pss_nil)
 (pss_one (ps_expr (pe_bm PySem.F.plainAttrs_list PySem.F.slot_list_append PySem.F.type_list_append mt_append (pv 10) (pa_cons pe_non pa_nil))))))))))
 (pss_cons (ps_set (i := 11) sc_law.nd rfl (by first | exact Or.inl rfl | exact Or.inr rfl) (pe_mkN (mak_Counts T L) hr (by decide) rfl (pa_cons (pv 3) (pa_cons (pe_lc (own := [("lot", 15), ("number", 16)]) (g := gTup _ 2 (gCons (gName 15) (gCons (gName 16) gNil))) rfl sc_law.nd (pi_list (pv 5)) (blkOk_by (own := [("lot", 15), ("number", 16)]) (N := N_law) (sc := fnScope s_law) (by decide +kernel)) (fun _ _ _ _ _ => (by exact (pg_tup (by rfl) (pgs_cons (pg_name (i := 15) sc_law.nd rfl (by first | exact Or.inl rfl | exact Or.inr rfl)) (pgs_cons (pg_name (i := 16) sc_law.nd rfl (by first | exact Or.inl rfl | exact Or.inr rfl)) pgs_nil))))) (fun _ _ _ _ _ => pts_nil) (fun _ _ _ _ _ => (pe_tup (pa_cons (pe_c (cal_law_mixed T) hr (by decide) rfl (pa_cons (pv 1) (pa_cons (pv 15) pa_nil))) (pa_cons (pv 16) pa_nil))))) pa_nil))))
 (pss_cons (ps_if (PW.pt (pw_or (pt_not (pt_cmpR (op_eq_Counts T hr) (pv 7) (pv 11) (nomark _))) (pw_or (pt_cmpR (op_ne_Counts T hr) (pv 7) (pv 11) (nomark _)) (pw_or (pt_cmpR (op_eq_Counts T hr) (pv 7) (pe_mkN (mak_Counts T L) hr (by decide) rfl (pa_cons (pv 3) (pa_cons (pe_op op_cat (pv 5) (pe_lst (pa_cons (pe_tup (pa_cons (pe_lst pa_nil) (pa_cons pe_int pa_nil))) pa_nil))) pa_nil))) (nomark _)) (pw_or (pt_cmpR (op_eqX_Counts T hr) (pv 7) (pv 8) (nomark _)) (pw_or1 (pt_cmpR (op_eqX_Counts T hr) (pv 7) pe_int (nomark _)))))))) (pss_one (ps_ret pe_bl)) pss_nil)
 (pss_cons (ps_if (pt_cmpR op_ne (pe_cmpR (op_eq_Counts T hr) (pv 7) (pe_mkN (mak_Counts T L) hr (by decide) rfl (pa_cons (pv 3) (pa_cons (pe_revL (pv 5)) pa_nil))) (nomark _)) (pe_cmpR (eqDK K hr) (pv 8) (pe_revL (pv 8)) (nomark _)) (nomark _)) (pss_one (ps_ret pe_bl)) pss_nil)
 (pss_cons (ps_set (i := 12) sc_law.nd rfl (by first | exact Or.inl rfl | exact Or.inr rfl) (pe_op op_cat (pv 5) (pe_lc (own := [("k", 9)]) (g := gName 9) rfl sc_law.nd (pi_range1 (by rfl) T.z_range (pa_cons pe_int pa_nil)) (blkOk_by (own := [("k", 9)]) (N := N_law) (sc := fnScope s_law) (by decide +kernel)) (fun _ _ _ _ _ => (pg_name (i := 9) sc_law.nd rfl (by first | exact Or.inl rfl | exact Or.inr rfl))) (fun _ _ _ _ _ => pts_nil) (fun _ _ _ _ _ => (pe_tup (pa_cons (pe_slice (slLK K) (pe_c (cal_law_mixed T) hr (by decide) rfl (pa_cons (pv 1) (pa_cons (pv 3) pa_nil))) po_none (po_some (pe_c (cal_law_draw T) hr (by decide) rfl (pa_cons (pv 1) (pa_cons (pe_op op_add (pe_callB (lenK K) (by rfl) T.z_len (by decide +kernel) (pa_cons (pv 3) pa_nil)) pe_int) pa_nil))))) (pa_cons (pe_c (cal_law_draw T) hr (by decide) rfl (pa_cons (pv 1) (pa_cons pe_int pa_nil))) pa_nil)))))))
 (pss_cons (ps_set (i := 12) sc_law.nd rfl (by first | exact Or.inl rfl | exact Or.inr rfl) (pe_c (cal_law_mixed T) hr (by decide) rfl (pa_cons (pv 1) (pa_cons (pv 12) pa_nil))))
 (pss_cons (ps_set (i := 13) sc_law.nd rfl (by first | exact Or.inl rfl | exact Or.inr rfl) (pe_c (cal_law_crossed T) hr (by decide) rfl (pa_cons (pv 12) pa_nil)))
 (pss_cons (ps_set (i := 10) sc_law.nd rfl (by first | exact Or.inl rfl | exact Or.inr rfl) (pe_c (cal_law_told T L) hr (by decide) rfl (pa_cons (pv 3) (pa_cons (pv 12) pa_nil))))
 (pss_cons (ps_if (PW.pt (pw_or (PW.pt (pw_and (pt_cmpR op_notN (pv 13) pe_non (nomark _)) (pw_and1 (pt_cmpR (neDK K hr) (pv 10) (pv 13) (nomark _))))) (pw_or1 (PW.pt (pw_and (pt_cmpR op_isN (pv 13) pe_non (nomark _)) (pw_and1 (pt_cmpR (neDK K hr) (pe_ix (ixTK K) (pv 10) pe_int (fun _ _ => rfl)) pe_str (nomark _)))))))) (pss_one (ps_ret pe_bl)) pss_nil)
 (pss_one (ps_if (pt_not (pt_val (pe_c (cal_law_refused T L) hr (by decide) rfl (pa_cons (pv 1) (pa_cons (pv 3) (pa_cons (pv 5) pa_nil)))))) (pss_one (ps_ret pe_bl)) pss_nil)))))))))))))))))))))
 (pss_cons (ps_setLc (i := 14) (own := [("k", 9)]) (g := gName 9) (by rfl) sc_law.nd rfl rfl (sw_true rfl rfl rfl (by decide +kernel)) (pi_range1 (by rfl) T.z_range (pa_cons (pe_op op_add pe_int (pe_c (cal_law_draw T) hr (by decide) rfl (pa_cons (pv 1) (pa_cons pe_int pa_nil)))) pa_nil)) (blkOk_by (own := [("k", 9)]) (N := N_law) (sc := fnScope s_law) (by decide +kernel)) (fun _ _ _ _ _ => (pg_name (i := 9) sc_law.nd rfl (by first | exact Or.inl rfl | exact Or.inr rfl))) (fun _ _ _ _ _ => pts_nil) (fun _ _ _ _ _ => (pe_ix ix_str pe_str (pv 9) (fun _ _ => rfl))))
 (pss_cons (ps_set (i := 10) sc_law.nd rfl (by first | exact Or.inl rfl | exact Or.inr rfl) (pe_c (cal_law_told T L) hr (by decide) rfl (pa_cons (pv 14) (pa_cons (pe_lst pa_nil) pa_nil))))
 (pss_one (ps_ret (pe_ifExp (pt_cmpR op_gt (pe_callB (lenK K) (by rfl) T.z_len (by decide +kernel) (pa_cons (pv 14) pa_nil)) pe_int (nomark _)) (pe_cmpR (eqDK K hr) (pv 10) (pe_tup (pa_cons pe_str (pa_cons (pe_un un_neg pe_int) pa_nil))) (nomark _)) (pe_cmpR (eqDK K hr) (pe_ix (ixTK K) (pv 10) pe_int (fun _ _ => rfl)) pe_str (nomark _))))))))), ?_⟩
    have one : 1 ≤ sizeLine := by rw [sizeLine_eq]; omega
    have two : 2 ≤ sizeLine := by rw [sizeLine_eq]; omega
    (repeat (first | refine ⟨_, rfl, ?_⟩ | refine ⟨rfl, ?_⟩ | refine ⟨_, _, rfl, rfl, ?_⟩ | refine iteT ?_ | refine iteF ?_ | refine ⟨(by show (0 : Int) < _; omega), ?_⟩ | refine ⟨(⟨by omega, by omega⟩ : CDiv _ _), ?_⟩ | refine ⟨(⟨by decide, by decide, by decide⟩ : CPow _ _), ?_⟩ | refine ⟨(.inl ⟨by omega, by omega⟩ : CMul _ _), ?_⟩ | refine ⟨(.inr ⟨by omega, by omega⟩ : CMul _ _), ?_⟩ | refine Or.inl ⟨_, rfl, ?_⟩ | refine Or.inr ⟨_, rfl, ?_⟩ | refine ⟨_, _, _, _, true, rfl, .ty _, .base (.str _), kit_ty (by decide +kernel), ?_⟩ | refine ⟨_, _, rfl, ⟨by rw [sizeLine_eq]; omega, rfl⟩, ?_⟩ | refine ⟨_, _, rfl, .inl ⟨_, SqL.of (by assumption), rfl⟩, ?_⟩ | refine ⟨_, _, rfl, .inr ⟨_, SqT.of (by assumption), rfl⟩, ?_⟩))
    refine ⟨sc, ns, rfl, ha, hn, fun wl c H1 nw nc s1 hS => ?_⟩
    have ht1 := hta.ext s1
    (repeat (first | refine ⟨_, rfl, ?_⟩ | refine ⟨rfl, ?_⟩ | refine ⟨_, _, rfl, rfl, ?_⟩ | refine iteT ?_ | refine iteF ?_ | refine ⟨(by show (0 : Int) < _; omega), ?_⟩ | refine ⟨(⟨by omega, by omega⟩ : CDiv _ _), ?_⟩ | refine ⟨(⟨by decide, by decide, by decide⟩ : CPow _ _), ?_⟩ | refine ⟨(.inl ⟨by omega, by omega⟩ : CMul _ _), ?_⟩ | refine ⟨(.inr ⟨by omega, by omega⟩ : CMul _ _), ?_⟩ | refine Or.inl ⟨_, rfl, ?_⟩ | refine Or.inr ⟨_, rfl, ?_⟩ | refine ⟨_, _, _, _, true, rfl, .ty _, .base (.str _), kit_ty (by decide +kernel), ?_⟩ | refine ⟨_, _, rfl, ⟨by rw [sizeLine_eq]; omega, rfl⟩, ?_⟩ | refine ⟨_, _, rfl, .inl ⟨_, SqL.of (by assumption), rfl⟩, ?_⟩ | refine ⟨_, _, rfl, .inr ⟨_, SqT.of (by assumption), rfl⟩, ?_⟩))
    refine ⟨by omega, by omega, for_it walk_range (fun i σ H' => ∃ (v2 v3 v4 v5 v6 v7 v8 v9 v10 v11 v12 v13 v14 v15 v16 v17 : Option V), σ = [some (.ref sc), some (.ref wl), v2, v3, v4, v5, v6, v7, v8, v9, v10, v11, v12, v13, v14, v15, v16, v17] ∧ StAt H' wl c ∧ Tabs (tabsL PL) H')
      ⟨_, _, _, _, _, _, _, _, _, _, _, _, _, _, _, _, rfl, hS, ht1⟩ (fun _ _ _ _ _ => True.intro) ?_ ?_⟩
    · rintro i v σ H2 H3 hi ⟨v2, v3, v4, v5, v6, v7, v8, v9, v10, v11, v12, v13, v14, v15, v16, v17, rfl, hS, ht⟩ ⟨rfl, rfl⟩
      refine g_name ?_
      try dsimp only
      refine seq_asg ?_
      refine ⟨_, rfl, _, rfl, wl, c, 6, rfl, hS, by omega, by omega, fun n5 H5 a5 b5 k5 => ?_⟩
      have hS5 := k5.st hS
      refine ⟨_, _, rfl, rfl, ?_⟩
      refine ⟨wl, c, 1 + n5, rfl, hS5, by omega, by omega, fun tl xs H6 ntl k6 htl hxl hxn hxs hxk => ?_⟩
      have hS6 := k6.st hS5
      have tlw : tl ≠ wl := hS5.ne ntl
      refine g_name ?_
      try dsimp only
      refine seq_asg ?_
      refine ⟨_, rfl, _, rfl, wl, c, tl, _, rfl, hS6, htl, isSt_strs _, by rw [List.length_map]; omega, fun mx ys H7 nmx k7 hmx pm => ?_⟩
      have hS7 := k7.st hS6
      obtain ⟨zs, rfl, pz⟩ := perm_strs pm
      have htl7 := k7.keep _ _ tlw htl
      refine g_name ?_
      try dsimp only
      refine seq_asg ?_
      refine ⟨_, rfl, _, rfl, wl, c, tl, xs, rfl, hS7, htl7, hxn, by omega, fun x hx => isNm_ok (hxk x hx).1, by omega, fun rp rs H8 k8 hR hLam hrl => ?_⟩
      have hS8 := k8.st hS7
      have hmx8 := k8.keep _ _ (hS6.ne nmx) hmx
      have htl8 := k8.keep _ _ tlw htl7
      have ht8 : Tabs (tabsL PL) H8 := (KpT.of (T := tabsL PL) (k5.trans (k6.trans (k7.trans k8)))).tabs hS ht
      have hrl' : rs.length ≤ 40 := by
        have : (2 + 1) * xs.length ≤ 3 * 6 := Nat.mul_le_mul (by omega) (by omega)
        omega
      refine g_name ?_
      try dsimp only
      refine seq_asg ?_
      obtain ⟨nrp, vs, hrp, hP8⟩ := hR
      have hvl : vs.length = rs.length := hP8.length
      refine ⟨_, rfl, rp, rfl, ⟨_, SqL.of hrp⟩, fun D nD => ?_⟩
      refine lc_it walk_list (fun i H' => ∃ us : List V, Same H8 H' ∧ H' D = some (.lst us) ∧ Paired (RoomK (fun a => H8 a = none ∧ a ≠ D) H') us (rs.take i))
        ⟨[], Same.new nD, upd_same, .nil⟩ (fun _ H' _ ⟨_, q, _⟩ => SqL.of (q _ _ hrp)) ?step ?rest
      case step =>
        rintro i v Ga Gb hi ⟨us, s4, hD, hP⟩ ⟨rfl, hv⟩
        obtain ⟨u, hu, t1, q, rfl, _, ht1, _, hq1⟩ := paired_at hP8 hv
        refine ⟨t1, _, rfl, SqT.of (s4 _ _ ht1), rfl, _, _, rfl, _, _, rfl, rfl, rfl, ?_⟩
        (repeat (first | refine ⟨_, rfl, ?_⟩ | refine ⟨rfl, ?_⟩ | refine ⟨_, _, rfl, rfl, ?_⟩ | refine iteT ?_ | refine iteF ?_ | refine ⟨(by show (0 : Int) < _; omega), ?_⟩ | refine ⟨(⟨by omega, by omega⟩ : CDiv _ _), ?_⟩ | refine ⟨(⟨by decide, by decide, by decide⟩ : CPow _ _), ?_⟩ | refine ⟨(.inl ⟨by omega, by omega⟩ : CMul _ _), ?_⟩ | refine ⟨(.inr ⟨by omega, by omega⟩ : CMul _ _), ?_⟩ | refine Or.inl ⟨_, rfl, ?_⟩ | refine Or.inr ⟨_, rfl, ?_⟩ | refine ⟨_, _, _, _, true, rfl, .ty _, .base (.str _), kit_ty (by decide +kernel), ?_⟩ | refine ⟨_, _, rfl, ⟨by rw [sizeLine_eq]; omega, rfl⟩, ?_⟩ | refine ⟨_, _, rfl, .inl ⟨_, SqL.of (by assumption), rfl⟩, ?_⟩ | refine ⟨_, _, rfl, .inr ⟨_, SqT.of (by assumption), rfl⟩, ?_⟩))
        refine ⟨q, _, rfl, .inl (SqL.of (s4 _ _ hq1)), fun l nl => ?_⟩
        (repeat (first | refine ⟨_, rfl, ?_⟩ | refine ⟨rfl, ?_⟩ | refine ⟨_, _, rfl, rfl, ?_⟩ | refine iteT ?_ | refine iteF ?_ | refine ⟨(by show (0 : Int) < _; omega), ?_⟩ | refine ⟨(⟨by omega, by omega⟩ : CDiv _ _), ?_⟩ | refine ⟨(⟨by decide, by decide, by decide⟩ : CPow _ _), ?_⟩ | refine ⟨(.inl ⟨by omega, by omega⟩ : CMul _ _), ?_⟩ | refine ⟨(.inr ⟨by omega, by omega⟩ : CMul _ _), ?_⟩ | refine Or.inl ⟨_, rfl, ?_⟩ | refine Or.inr ⟨_, rfl, ?_⟩ | refine ⟨_, _, _, _, true, rfl, .ty _, .base (.str _), kit_ty (by decide +kernel), ?_⟩ | refine ⟨_, _, rfl, ⟨by rw [sizeLine_eq]; omega, rfl⟩, ?_⟩ | refine ⟨_, _, rfl, .inl ⟨_, SqL.of (by assumption), rfl⟩, ?_⟩ | refine ⟨_, _, rfl, .inr ⟨_, SqT.of (by assumption), rfl⟩, ?_⟩))
        refine ⟨two, fun z nz => ?_⟩
        have s5 := Same.new (o := .lst (u.1.map V.str)) nl
        have hl5 := upd_same (H := Gb) (a := l) (o := .lst (u.1.map V.str))
        generalize upd Gb l (.lst (u.1.map V.str)) = Gc at *
        have s6 := Same.new (o := .tup [.ref l, .int u.2]) nz
        have hz6 := upd_same (H := Gc) (a := z) (o := .tup [.ref l, .int u.2])
        generalize upd Gc z (.tup [.ref l, .int u.2]) = Gd at *
        have lD : l ≠ D := fun e => by rw [e, hD] at nl; cases nl
        have zD : z ≠ D := fun e => by rw [e, s5 _ _ hD] at nz; cases nz
        have fl : H8 l = none := s4.free nl
        have fz : H8 z = none := (s4.trans s5).free nz
        have s46 := s4.trans (s5.trans s6)
        have lv : us.length = i := by
          rw [hP.length, List.length_take]
          have := (List.getElem?_eq_some_iff.mp hu).1
          omega
        refine ⟨_, s6 _ _ (s5 _ _ hD), small1000 (by omega), us ++ [.ref z], Same.put s46 nD, upd_same, ?_⟩
        rw [List.take_succ, hu]
        exact rooms_snoc hP (fun a o na _ e => by rw [upd_ne na.2]; exact s6 _ _ (s5 _ _ e)) ⟨fz, zD⟩ (by rw [upd_ne zD]; exact hz6) ⟨fl, lD⟩ (by rw [upd_ne lD]; exact s6 _ _ hl5)
      case rest =>
        rintro H9 ⟨us, s9, hD, hP9⟩
        rw [hvl, List.take_of_length_le (Nat.le_refl _)] at hP9
        have hpm : ∀ r ∈ rs, r.1.length ≤ 63 ∧ ∀ x ∈ r.1, x.length ≤ 1000 := fun r hr => ⟨by
          have := (hLam.ok r hr).nd.length_le_of_subset (hLam.ok r hr).sub
          omega, fun x hx => nm_len (hxk x ((hLam.ok r hr).sub x hx)).1⟩
        have hsz : sortS zs = xs := (sortS_of_perm pz).trans hxs
        have thx : ∀ {ys : List Str}, ys.Perm xs → thF (ys.map some) = none := fun p => thF_ok (by rw [p.length_eq]; omega) (p.nodup_iff.mpr hxn) fun y hy => (hxk y (p.subset hy)).1
        have tzx : ∀ {ys : List Str}, ys.Perm xs → ∀ z, some z ∈ ys.map some → z.length ≤ 1000 := fun p z hz => by
          obtain ⟨y, hy, e⟩ := List.mem_map.mp hz
          cases e
          exact nm_len (hxk _ (p.subset hy)).1
        have hlm : ∀ {ys : List Str}, ys.Perm xs → (ys.map some).length ≤ 1000 := fun p => by rw [List.length_map, p.length_eq]; omega
        have hand1 : Hand K (tabsL PL) H9 mx D (zs.map some) (rs.map pvOf) := ⟨⟨_, s9 _ _ hmx8, iss_strs _⟩, hlm pz, tzx pz, ⟨us, hD, pv_rooms hP9 hpm⟩, by rw [List.length_map]; omega, ht8.ext s9⟩
        refine g_name ?_
        try dsimp only
        refine seq_asg ?_
        refine ⟨_, rfl, _, rfl, fun x dx nx ndx ne => ?_⟩
        refine ci_made hand1 (thx pz) rfl (by omega) (by rw [hsz]; exact hLam.ok) (lam_nx hLam) nx ndx ne fun H10 s10 hO => ?_
        rw [hsz] at hO
        refine g_name ?_
        try dsimp only
        have hLS : LS1 (tabsL PL) A.C_Counts (fun b => (b ≠ wl ∧ b ≠ mx) ∧ Seen H8 b) (Fre H9) wl c tl rp x xs rs H10 := by
          have s := (SmT.of (T := tabsL PL) s9).trans s10
          refine ⟨hS8.smT s, s.tabs ht8, s.keep _ _ rfl htl8, ?_, hO⟩
          refine ((rooms_seen (N := fun b => H7 b = none) ⟨nrp, vs, hrp, hP8⟩).wk fun b hb => ⟨⟨hS7.ne hb.1, fun e => ?_⟩, hb.2⟩).mv fun b o _ n q => s.keep b o n q
          rw [e, hmx] at hb
          cases hb.1
        have hmx10 := s10.keep _ _ rfl (s9 _ _ hmx8)
        refine ⟨_, rfl, .inl ⟨rfl, _, SqL.of hmx10⟩, mx, _, rfl, rfl, hmx10, ?_⟩
        have Dmx : D ≠ mx := fun e => by rw [e, hmx8] at nD; cases nD
        have hLS2 := hLS.put (p := mx) (o := .lst []) (hS6.ne nmx) (hS6.nc nmx) (fun e => by rw [e, htl] at nmx; cases nmx) (fun h => h.1.2 rfl) (fun h => (seen_of (s9 _ _ hmx8)).no h) hmx10
        have hD11 : upd H10 mx (.lst []) D = some (.lst us) := by
          rw [upd_ne Dmx]
          exact s10.keep _ _ rfl hD
        have hP11 : Paired (RoomK (fun a => (H8 a = none ∧ a ≠ D) ∧ Seen H9 a) (upd H10 mx (.lst []))) us rs := roomK_mv (paired_seen hP9) fun a o na n e => by
          rw [upd_ne fun z => by rw [z, hmx8] at na; cases na.1.1]
          exact s10.keep _ _ n e
        have hq9 : ∀ a, (∃ o, noT o = true ∧ H9 a = some o) → ¬ Fre H9 a := fun a h f => Seen.no h f
        have smx : ∀ a o, H9 a = some o → noT o = true → a ≠ mx → upd H10 mx (.lst []) a = some o := fun a o e n ne => by
          rw [upd_ne ne]
          exact s10.keep _ _ n e
        generalize upd H10 mx (.lst []) = H11 at *
        have okr : ∀ r ∈ rs, OkR r := fun r hr x hx => isNm_ok (hxk x ((hLam.ok r hr).sub x hx)).1
        have fr8 : ∀ a, H8 a = none → a ≠ wl ∧ a ≠ c ∧ a ≠ tl ∧ ¬ ((a ≠ wl ∧ a ≠ mx) ∧ Seen H8 a) := fun a na => by
          refine ⟨hS8.ne na, hS8.nc na, fun e => ?_, fun h => ?_⟩
          · rw [e, htl8] at na
            cases na
          · obtain ⟨o, _, e⟩ := h.2
            rw [na] at e
            cases e
        refine clr_inv (i := 6) (fun H' => LS1 (tabsL PL) A.C_Counts (fun b => (b ≠ wl ∧ b ≠ mx) ∧ Seen H8 b) (Fre H9) wl c tl rp x xs rs H' ∧ H' D = some (.lst us)) rfl hD11 hP11 okr (fun H1 s => ?_) (fun H1 q0 zs s nq0 qD e0 e1 => ?_) fun H12 h12 => ?_
        · exact ⟨hLS2.sm s, s _ _ hD11⟩
        · obtain ⟨f1, f2, f3, f4⟩ := fr8 q0 nq0.1.1
          exact ⟨(hLS2.sm s).put f1 f2 f3 f4 (fun f => nq0.2.no f) e1, by rw [upd_ne qD.symm]; exact s _ _ hD11⟩
        obtain ⟨hLS3, hD12⟩ := h12
        refine ⟨_, rfl, .inl ⟨rfl, _, SqL.of hD12⟩, D, us, .non, rfl, rfl, hD12, small1000 (by rw [hP9.length]; omega), ?_⟩
        have hLS4 : LS1 (tabsL PL) A.C_Counts (fun b => (b ≠ wl ∧ b ≠ mx) ∧ Seen H8 b) (Fre H9) wl c tl rp x xs rs (upd H12 D (.lst (us ++ [.non]))) := by
          obtain ⟨f1, f2, f3, f4⟩ := fr8 D nD
          exact hLS3.put f1 f2 f3 f4 (fun f => (seen_of hD).no f) hD12
        generalize upd H12 D (.lst (us ++ [.non])) = G1 at *
        obtain ⟨hSG, htG, hlG, hRG, hCG⟩ := hLS4
        have hRG' : RoomsD (fun b => b ≠ wl) G1 rp rs := hRG.wk fun b hb => hb.1.1
        have hCG' : CountsO A.C_Counts (fun b => b ≠ wl) G1 x xs (rs.map srtR) := hCG.wk fun b hb => (hS8.same s9).neF hb
        clear hLS hLS2 hLS3 hRG hCG hD12 hP11 hD11 smx hq9 hO hmx10 hP9 hD s10 s9 fr8 hand1
        dsimp only
        refine seq_asg ?_
        obtain ⟨nrq, ws, hrq, hPG⟩ := hRG'
        have hwl : ws.length = rs.length := hPG.length
        refine ⟨_, rfl, rp, rfl, ⟨_, SqL.of hrq⟩, fun D2 nD2 => ?_⟩
        refine lc_it walk_list (fun i H' => ∃ us : List V, Same G1 H' ∧ H' D2 = some (.lst us) ∧ Paired (RoomK (fun a => G1 a = none ∧ a ≠ D2) H') us ((rs.take i).map srtR))
          ⟨[], Same.new nD2, upd_same, .nil⟩ (fun _ H' _ ⟨_, q, _⟩ => SqL.of (q _ _ hrq)) ?step2 ?rest2
        case step2 =>
          rintro i v Ga Gb hi ⟨us, s4, hD, hP⟩ ⟨rfl, hv⟩
          obtain ⟨u, hu, t1, q, rfl, _, ht1, _, hq1⟩ := paired_at hPG hv
          refine ⟨t1, _, rfl, SqT.of (s4 _ _ ht1), rfl, _, _, rfl, _, _, rfl, rfl, rfl, ?_⟩
          (repeat (first | refine ⟨_, rfl, ?_⟩ | refine ⟨rfl, ?_⟩ | refine ⟨_, _, rfl, rfl, ?_⟩ | refine iteT ?_ | refine iteF ?_ | refine ⟨(by show (0 : Int) < _; omega), ?_⟩ | refine ⟨(⟨by omega, by omega⟩ : CDiv _ _), ?_⟩ | refine ⟨(⟨by decide, by decide, by decide⟩ : CPow _ _), ?_⟩ | refine ⟨(.inl ⟨by omega, by omega⟩ : CMul _ _), ?_⟩ | refine ⟨(.inr ⟨by omega, by omega⟩ : CMul _ _), ?_⟩ | refine Or.inl ⟨_, rfl, ?_⟩ | refine Or.inr ⟨_, rfl, ?_⟩ | refine ⟨_, _, _, _, true, rfl, .ty _, .base (.str _), kit_ty (by decide +kernel), ?_⟩ | refine ⟨_, _, rfl, ⟨by rw [sizeLine_eq]; omega, rfl⟩, ?_⟩ | refine ⟨_, _, rfl, .inl ⟨_, SqL.of (by assumption), rfl⟩, ?_⟩ | refine ⟨_, _, rfl, .inr ⟨_, SqT.of (by assumption), rfl⟩, ?_⟩))
          have hur := hLam.ok u (List.mem_of_getElem? hu)
          have hul := (hpm u (List.mem_of_getElem? hu)).1
          refine ⟨q, _, rfl, SqL.of (s4 _ _ hq1), by omega, fun ys l pm so nl => ?_⟩
          rw [sortS_eq pm so]
          (repeat (first | refine ⟨_, rfl, ?_⟩ | refine ⟨rfl, ?_⟩ | refine ⟨_, _, rfl, rfl, ?_⟩ | refine iteT ?_ | refine iteF ?_ | refine ⟨(by show (0 : Int) < _; omega), ?_⟩ | refine ⟨(⟨by omega, by omega⟩ : CDiv _ _), ?_⟩ | refine ⟨(⟨by decide, by decide, by decide⟩ : CPow _ _), ?_⟩ | refine ⟨(.inl ⟨by omega, by omega⟩ : CMul _ _), ?_⟩ | refine ⟨(.inr ⟨by omega, by omega⟩ : CMul _ _), ?_⟩ | refine Or.inl ⟨_, rfl, ?_⟩ | refine Or.inr ⟨_, rfl, ?_⟩ | refine ⟨_, _, _, _, true, rfl, .ty _, .base (.str _), kit_ty (by decide +kernel), ?_⟩ | refine ⟨_, _, rfl, ⟨by rw [sizeLine_eq]; omega, rfl⟩, ?_⟩ | refine ⟨_, _, rfl, .inl ⟨_, SqL.of (by assumption), rfl⟩, ?_⟩ | refine ⟨_, _, rfl, .inr ⟨_, SqT.of (by assumption), rfl⟩, ?_⟩))
          refine ⟨two, fun z nz => ?_⟩
          have s5 := Same.new (o := .lst ((sortS u.1).map V.str)) nl
          have hl5 := upd_same (H := Gb) (a := l) (o := .lst ((sortS u.1).map V.str))
          generalize upd Gb l (.lst ((sortS u.1).map V.str)) = Gc at *
          have s6 := Same.new (o := .tup [.ref l, .int u.2]) nz
          have hz6 := upd_same (H := Gc) (a := z) (o := .tup [.ref l, .int u.2])
          generalize upd Gc z (.tup [.ref l, .int u.2]) = Gd at *
          have lD : l ≠ D2 := fun e => by rw [e, hD] at nl; cases nl
          have zD : z ≠ D2 := fun e => by rw [e, s5 _ _ hD] at nz; cases nz
          have fl : G1 l = none := s4.free nl
          have fz : G1 z = none := (s4.trans s5).free nz
          have s46 := s4.trans (s5.trans s6)
          have lv : us.length = i := by
            rw [hP.length, List.length_map, List.length_take]
            have := (List.getElem?_eq_some_iff.mp hu).1
            omega
          refine ⟨_, s6 _ _ (s5 _ _ hD), small1000 (by omega), us ++ [.ref z], Same.put s46 nD2, upd_same, ?_⟩
          rw [List.take_succ, hu, List.map_append]
          exact rooms_snoc hP (fun a o na _ e => by rw [upd_ne na.2]; exact s6 _ _ (s5 _ _ e)) ⟨fz, zD⟩ (by rw [upd_ne zD]; exact hz6) ⟨fl, lD⟩ (by rw [upd_ne lD]; exact s6 _ _ hl5)
        case rest2 =>
          rintro G2 ⟨us, s2, hD2, hP2⟩
          rw [hwl, List.take_of_length_le (Nat.le_refl _)] at hP2
          have hL2 : LS (tabsL PL) A.C_Counts wl c tl rp D2 x xs rs G2 := ⟨hSG.same s2, htG.ext s2, s2 _ _ hlG, tlw, (show RoomsD (fun b => b ≠ wl) G1 rp rs from ⟨nrq, ws, hrq, hPG⟩).same s2, ⟨hSG.ne nD2, us, hD2, roomK_wk hP2 fun a na => hSG.ne na.1⟩, hCG'.mv fun a o _ _ e => s2 a o e⟩
          clear hPG hrq hCG' hP2 hD2 s2 hlG htG hSG
          refine g_name ?_
          try dsimp only
          (repeat (first | refine ⟨_, rfl, ?_⟩ | refine ⟨rfl, ?_⟩ | refine ⟨_, _, rfl, rfl, ?_⟩ | refine iteT ?_ | refine iteF ?_ | refine ⟨(by show (0 : Int) < _; omega), ?_⟩ | refine ⟨(⟨by omega, by omega⟩ : CDiv _ _), ?_⟩ | refine ⟨(⟨by decide, by decide, by decide⟩ : CPow _ _), ?_⟩ | refine ⟨(.inl ⟨by omega, by omega⟩ : CMul _ _), ?_⟩ | refine ⟨(.inr ⟨by omega, by omega⟩ : CMul _ _), ?_⟩ | refine Or.inl ⟨_, rfl, ?_⟩ | refine Or.inr ⟨_, rfl, ?_⟩ | refine ⟨_, _, _, _, true, rfl, .ty _, .base (.str _), kit_ty (by decide +kernel), ?_⟩ | refine ⟨_, _, rfl, ⟨by rw [sizeLine_eq]; omega, rfl⟩, ?_⟩ | refine ⟨_, _, rfl, .inl ⟨_, SqL.of (by assumption), rfl⟩, ?_⟩ | refine ⟨_, _, rfl, .inr ⟨_, SqT.of (by assumption), rfl⟩, ?_⟩))
          refine ⟨by omega, by omega, for_it walk_range (fun j σ H' => ∃ w9 w10 : Option V, σ = [some (.ref sc), some (.ref wl), some (.int (0 + (i : Int))), some (.ref tl), some (.ref mx), some (.ref rp), some (.ref D), some (.ref x), some (.ref D2), w9, w10, v11, v12, v13, v14, v15, v16, v17] ∧ Same G2 H')
            ⟨_, _, rfl, Same.refl G2⟩ (fun _ _ _ _ _ => True.intro) ?step3 ?rest3⟩
          case step3 =>
            rintro j v σ Ga Gb hj ⟨w9, w10, rfl, s3⟩ ⟨rfl, rfl⟩
            have hL3 := hL2.kp (.same s3)
            obtain ⟨nxw, dx3, t3, r3, hx3, _⟩ := id hL3.cn
            have okx : ∀ z ∈ xs, PyData.strOk z = true := fun z hz => isNm_ok (hxk z hz).1
            have oks : ∀ r ∈ rs.map srtR, OkR r := fun r hr z hz => by
              obtain ⟨u, hu, rfl⟩ := List.mem_map.mp hr
              exact okr u hu z ((sortS_perm u.1).subset hz)
            have lnr : (rs.map srtR).length ≤ 63 := by rw [List.length_map]; omega
            refine g_name ?_
            try dsimp only
            refine ⟨_, rfl, x, _, _, rfl, hx3, cf_no _ _ (by decide +kernel) (by decide +kernel), x, xs, _, _, rfl, hL3.cn, fun p1 G3 np1 s31 hp1 => ?_⟩
            refine ⟨_, rfl, _, _, dp_strs hp1, dp_strs (s31 _ _ hL3.th), shaped_strs okx, shaped_strs okx, ?_⟩
            rw [eqv_strs, decide_eq_true rfl]
            refine ⟨_, rfl, iteF ?_⟩
            have hL4 := hL3.kp (.same s31)
            refine ⟨_, rfl, x, _, _, rfl, s31 _ _ hx3, cf_no _ _ (by decide +kernel) (by decide +kernel), x, xs, _, _, rfl, hL4.cn, lnr, fun p2 G4 s32 hR2 => ?_⟩
            refine ⟨_, rfl, _, _, dp_rooms hR2, dp_rooms (hL4.du.same s32), shaped_rooms oks, shaped_rooms oks, ?_⟩
            rw [eqv_rooms, decide_eq_true rfl]
            refine ⟨_, rfl, iteF ?_⟩
            have hL5 := hL4.kp (.same s32)
            have hx5 := s32 _ _ (s31 _ _ hx3)
            refine ⟨_, rfl, x, _, _, rfl, hx5, cf_no _ _ (by decide +kernel) (by decide +kernel), x, xs, _, _, rfl, hL5.cn, lnr, fun p3 G5 s33 hR3 => ?_⟩
            obtain ⟨_, vs3, hp3, hP3⟩ := hR3
            refine ⟨p3, rfl, ⟨_, SqL.of hp3⟩, fun D3 nD3 => ?_⟩
            refine lc_it walk_list (fun i H' => Same G5 H' ∧ H' D3 = some (.lst ((List.replicate i true).map V.bl))) ⟨Same.new nD3, upd_same⟩ (fun _ H' _ ⟨q, _⟩ => SqL.of (q _ _ hp3)) ?step4 ?rest4
            case step4 =>
              rintro i v Ga Gb hi ⟨s4, hD⟩ ⟨rfl, hv⟩
              obtain ⟨u, hu, t1, q, rfl, _, ht1, _, hq1⟩ := paired_at hP3 hv
              refine ⟨rfl, ?_⟩
              show tCB (rIsi K) (tCons (tVar 17) (tCons (tC (V.ty "tuple")) tNil)) _ _ _
              refine ⟨_, rfl, _, _, _, _, true, rfl, .ty _, .base (.tup (s4 _ _ ht1)), kit_ty (by decide +kernel), ?_⟩
              refine ⟨_, hD, small1000 (by rw [List.length_map, List.length_replicate]; have := hP3.length; omega), Same.put s4 nD3, ?_⟩
              rw [upd_same, List.replicate_succ', List.map_append]
              rfl
            case rest4 =>
              rintro G6 ⟨s34, hD3⟩
              have hall : (List.replicate vs3.length true).all id = true := by simp
              refine ⟨D3, _, rfl, SqL.of hD3, ?_⟩
              rw [hall]
              refine ⟨_, rfl, iteF ?_⟩
              have hL6 := hL5.kp (.same (s33.trans s34))
              have hx6 := s34 _ _ (s33 _ _ hx5)
              have q6 : Same G2 G6 := s3.trans (s31.trans (s32.trans (s33.trans s34)))
              try unfold tNext
              try dsimp only
              refine seq_asg ?_
              refine ⟨_, rfl, x, _, _, rfl, hx6, cf_no _ _ (by decide +kernel) (by decide +kernel), x, xs, _, _, rfl, hL6.cn, fun p4 G7 np4 s7 hp4 => ?_⟩
              refine g_name ?_
              try dsimp only
              refine ⟨_, rfl, .inl ⟨rfl, _, SqL.of hp4⟩, p4, _, rfl, rfl, hp4, ?_⟩
              have q7 : Same G2 (upd G7 p4 (.lst [])) := Same.put (q6.trans s7) (q6.free np4)
              generalize upd G7 p4 (.lst []) = G8 at *
              have hL8 := hL2.kp (.same q7)
              obtain ⟨_, dx8, t8, r8, hx8, _⟩ := id hL8.cn
              dsimp only
              refine seq_asg ?_
              refine ⟨_, rfl, x, _, _, rfl, hx8, cf_no _ _ (by decide +kernel) (by decide +kernel), x, xs, _, _, rfl, hL8.cn, lnr, fun p5 G9 s9 hR5 => ?_⟩
              obtain ⟨np5, vs5, hp5, hP5⟩ := hR5
              refine g_name ?_
              try dsimp only
              have q9 := q7.trans s9
              refine clr_inv (i := 10) (fun H' => Same G2 H' ∧ H' p5 = some (.lst vs5)) rfl hp5 hP5 oks (fun H1 s => ⟨q9.trans s, s _ _ hp5⟩) (fun H1 q0 zs s nq0 qD e0 e1 => ⟨Same.put (q9.trans s) (q7.free nq0), by rw [upd_ne qD.symm]; exact s _ _ hp5⟩) fun H12 h12 => ?_
              obtain ⟨q10, hp6⟩ := h12
              refine ⟨_, rfl, .inl ⟨rfl, _, SqL.of hp6⟩, p5, vs5, .non, rfl, rfl, hp6, small1000 (by rw [hP5.length]; omega), ?_⟩
              exact ⟨_, _, rfl, Same.put q10 (q7.free np5)⟩
          case rest3 =>
            rintro σ Ga ⟨w9, w10, rfl, s3⟩
            have hL3 := hL2.kp (.same s3)
            clear hL2 s3
            have okx : ∀ z ∈ xs, PyData.strOk z = true := fun z hz => isNm_ok (hxk z hz).1
            have oks : ∀ r ∈ rs.map srtR, OkR r := fun r hr z hz => by
              obtain ⟨u, hu, rfl⟩ := List.mem_map.mp hr
              exact okr u hu z ((sortS_perm u.1).subset hz)
            dsimp only
            refine seq_asg ?_
            obtain ⟨nrq, ws, hrq, hPG⟩ := id hL3.rm
            have hwl : ws.length = rs.length := hPG.length
            refine ⟨_, rfl, _, rfl, rp, rfl, ⟨_, SqL.of hrq⟩, fun D4 nD4 => ?_⟩
            have d4w : D4 ≠ wl := hL3.st.ne nD4
            refine lc_it walk_list (fun i H' => ∃ (us : List V) (qs : List Rm), KpT (tabsL PL) wl c Ga H' ∧ H' D4 = some (.lst us) ∧ Paired (RoomK (fun a => a ≠ wl ∧ a ≠ D4) H') us qs ∧ Paired MixR qs (rs.take i))
              ⟨[], [], (KpT.refl _ _ _ _).new hL3.st nD4, upd_same, .nil, .nil⟩ (fun _ H' _ ⟨_, _, q, _⟩ => SqL.of (q.keep _ _ nrq rfl hrq)) ?step5 ?rest5
            case step5 =>
              rintro i v Gx Gy hi ⟨us, qs, kk, hD, hP, hM⟩ ⟨rfl, hv⟩
              obtain ⟨u, hu, t1, q, rfl, nt1, ht1, nq1, hq1⟩ := paired_at hPG hv
              refine ⟨t1, _, rfl, SqT.of (kk.keep _ _ nt1 rfl ht1), rfl, _, _, rfl, _, _, rfl, rfl, rfl, ?_⟩
              (repeat (first | refine ⟨_, rfl, ?_⟩ | refine ⟨rfl, ?_⟩ | refine ⟨_, _, rfl, rfl, ?_⟩ | refine iteT ?_ | refine iteF ?_ | refine ⟨(by show (0 : Int) < _; omega), ?_⟩ | refine ⟨(⟨by omega, by omega⟩ : CDiv _ _), ?_⟩ | refine ⟨(⟨by decide, by decide, by decide⟩ : CPow _ _), ?_⟩ | refine ⟨(.inl ⟨by omega, by omega⟩ : CMul _ _), ?_⟩ | refine ⟨(.inr ⟨by omega, by omega⟩ : CMul _ _), ?_⟩ | refine Or.inl ⟨_, rfl, ?_⟩ | refine Or.inr ⟨_, rfl, ?_⟩ | refine ⟨_, _, _, _, true, rfl, .ty _, .base (.str _), kit_ty (by decide +kernel), ?_⟩ | refine ⟨_, _, rfl, ⟨by rw [sizeLine_eq]; omega, rfl⟩, ?_⟩ | refine ⟨_, _, rfl, .inl ⟨_, SqL.of (by assumption), rfl⟩, ?_⟩ | refine ⟨_, _, rfl, .inr ⟨_, SqT.of (by assumption), rfl⟩, ?_⟩))
              have hul := (hpm u (List.mem_of_getElem? hu)).1
              have hSy := kk.st hL3.st
              refine ⟨wl, c, q, _, rfl, hSy, kk.keep _ _ nq1 rfl hq1, isSt_strs _, by rw [List.length_map]; omega, fun l ys Gc nl k4 hl pm => ?_⟩
              obtain ⟨es, rfl, pe⟩ := perm_strs pm
              (repeat (first | refine ⟨_, rfl, ?_⟩ | refine ⟨rfl, ?_⟩ | refine ⟨_, _, rfl, rfl, ?_⟩ | refine iteT ?_ | refine iteF ?_ | refine ⟨(by show (0 : Int) < _; omega), ?_⟩ | refine ⟨(⟨by omega, by omega⟩ : CDiv _ _), ?_⟩ | refine ⟨(⟨by decide, by decide, by decide⟩ : CPow _ _), ?_⟩ | refine ⟨(.inl ⟨by omega, by omega⟩ : CMul _ _), ?_⟩ | refine ⟨(.inr ⟨by omega, by omega⟩ : CMul _ _), ?_⟩ | refine Or.inl ⟨_, rfl, ?_⟩ | refine Or.inr ⟨_, rfl, ?_⟩ | refine ⟨_, _, _, _, true, rfl, .ty _, .base (.str _), kit_ty (by decide +kernel), ?_⟩ | refine ⟨_, _, rfl, ⟨by rw [sizeLine_eq]; omega, rfl⟩, ?_⟩ | refine ⟨_, _, rfl, .inl ⟨_, SqL.of (by assumption), rfl⟩, ?_⟩ | refine ⟨_, _, rfl, .inr ⟨_, SqT.of (by assumption), rfl⟩, ?_⟩))
              refine ⟨two, fun z nz => ?_⟩
              have kc := kk.trans (.of k4)
              have s6 := Same.new (o := .tup [.ref l, .int u.2]) nz
              have hz6 := upd_same (H := Gc) (a := z) (o := .tup [.ref l, .int u.2])
              have kd := kc.new (o := .tup [.ref l, .int u.2]) hL3.st nz
              generalize upd Gc z (.tup [.ref l, .int u.2]) = Gd at *
              have hDc : Gc D4 = some (.lst us) := k4.keep _ _ d4w hD
              have hDd := s6 _ _ hDc
              have lD : l ≠ D4 := fun e => by rw [e, hD] at nl; cases nl
              have zD : z ≠ D4 := fun e => by rw [e, hDc] at nz; cases nz
              have lw : l ≠ wl := hSy.ne nl
              have zw : z ≠ wl := (k4.st hSy).ne nz
              have lv : us.length = i := by
                rw [hP.length, hM.length, List.length_take]
                have := (List.getElem?_eq_some_iff.mp hu).1
                omega
              refine ⟨_, hDd, small1000 (by omega), us ++ [.ref z], qs ++ [(es, u.2)], kd.chg hL3.st (.of nD4) hDd, upd_same, ?_, ?_⟩
              · exact rooms_snoc hP (fun a o na _ e => by rw [upd_ne na.2]; exact s6 _ _ (k4.keep _ _ na.1 e)) ⟨zw, zD⟩ (by rw [upd_ne zD]; exact hz6) ⟨lw, lD⟩ (by rw [upd_ne lD]; exact s6 _ _ hl)
              · rw [List.take_succ, hu]
                exact Paired.snoc ⟨pe, rfl⟩ hM
            case rest5 =>
              rintro Gb ⟨us, qs, kk, hD4, hP4, hM⟩
              rw [hwl, List.take_of_length_le (Nat.le_refl _)] at hM
              have hL4 := hL3.kp kk
              clear hL3 hPG hrq
              have hlq : qs.length = rs.length := hM.length
              have hLq := mix_lam hM hLam
              have hpq : ∀ r ∈ qs, r.1.length ≤ 63 ∧ ∀ x ∈ r.1, x.length ≤ 1000 := fun r hr => ⟨by
                have := (hLq.ok r hr).nd.length_le_of_subset (hLq.ok r hr).sub
                omega, fun x hx => nm_len (hxk x ((hLq.ok r hr).sub x hx)).1⟩
              have hand2 : Hand K (tabsL PL) Gb tl D4 (xs.map some) (qs.map pvOf) := ⟨⟨_, hL4.th, iss_strs _⟩, hlm (.refl _), tzx (.refl _), ⟨us, hD4, pv_rooms hP4 hpq⟩, by rw [List.length_map]; omega, hL4.tb⟩
              refine fun y dy ny ndy ney => ?_
              refine ci_made hand2 (thx (.refl _)) rfl (by omega) (by rw [hxs]; exact hLq.ok) (lam_nx hLq) ny ndy ney fun G2 s2 hO => ?_
              rw [hxs, mix_srt hM] at hO
              have hL5 := hL4.kp (.sm s2)
              have hO' : CountsO A.C_Counts (fun b => b ≠ wl) G2 y xs (rs.map srtR) := hO.wk fun b hb => hL4.st.neF hb
              clear hL4 hO hand2 s2 hP4 hD4 kk
              refine g_name ?_
              try dsimp only
              refine ⟨_, rfl, _, rfl, eq_rooms hL5.cn hO' okx oks oks (decide_eq_true rfl) ?_⟩
              refine ⟨_, rfl, iteF ?_⟩
              refine ⟨_, rfl, _, rfl, eq_rooms hL5.cn hO' okx oks oks (decide_eq_true rfl) ?_⟩
              refine ⟨_, rfl, iteF ?_⟩
              refine ⟨_, rfl, _, rfl, _, rfl, Nat.zero_le _, fun e1 ne1 => ?_⟩
              have s3 := Same.new (o := .lst []) ne1
              have he1 := upd_same (H := G2) (a := e1) (o := .lst [])
              have e1w := hL5.st.ne ne1
              generalize upd G2 e1 (.lst []) = G3 at *
              refine ⟨two, fun t1 nt1 => ?_⟩
              have s4 := Same.new (o := .tup [.ref e1, .int 0]) nt1
              have ht1 := upd_same (H := G3) (a := t1) (o := .tup [.ref e1, .int 0])
              have t1w := (hL5.st.same s3).ne nt1
              generalize upd G3 t1 (.tup [.ref e1, .int 0]) = G4 at *
              refine ⟨one, fun l1 nl1 => ?_⟩
              have s5 := Same.new (o := .lst [.ref t1]) nl1
              have hl1 := upd_same (H := G4) (a := l1) (o := .lst [.ref t1])
              generalize upd G4 l1 (.lst [.ref t1]) = G5 at *
              have s35 := s3.trans (s4.trans s5)
              obtain ⟨nrq, ws, hrq, hPG⟩ := hL5.rm.same s35
              have hwl : ws.length = rs.length := hPG.length
              have zc : ws.length + [V.ref t1].length ≤ sizeLine := by
                rw [sizeLine_eq]
                show _ + 1 ≤ _
                omega
              refine ⟨rp, l1, ws, _, rfl, rfl, hrq, hl1, zc, fun p1 np1 => ?_⟩
              have s6 := Same.new (o := .lst (ws ++ [.ref t1])) np1
              have hp1 := upd_same (H := G5) (a := p1) (o := .lst (ws ++ [.ref t1]))
              generalize upd G5 p1 (.lst (ws ++ [.ref t1])) = G6 at *
              have s26 := s35.trans s6
              have hP6 : Paired (RoomK (fun b => b ≠ wl) G6) (ws ++ [.ref t1]) (rs ++ [([], 0)]) := rooms_snoc hPG (fun a o _ _ e => s6 _ _ e) t1w (s6 _ _ (s5 _ _ ht1)) e1w (s6 _ _ (s5 _ _ (s4 _ _ he1)))
              have hL6 := hL5.kp (.same s26)
              have hLe := lam_snoc hLam
              have hpe : ∀ r ∈ rs ++ [(([], 0) : Rm)], r.1.length ≤ 63 ∧ ∀ x ∈ r.1, x.length ≤ 1000 := fun r hr => ⟨by
                have := (hLe.ok r hr).nd.length_le_of_subset (hLe.ok r hr).sub
                omega, fun x hx => nm_len (hxk x ((hLe.ok r hr).sub x hx)).1⟩
              have hle : (rs ++ [(([], 0) : Rm)]).length = rs.length + 1 := by rw [List.length_append]; rfl
              have hand3 : Hand K (tabsL PL) G6 tl p1 (xs.map some) ((rs ++ [([], 0)]).map pvOf) := ⟨⟨_, hL6.th, iss_strs _⟩, hlm (.refl _), tzx (.refl _), ⟨_, hp1, pv_rooms hP6 hpe⟩, by rw [List.length_map, hle]; omega, hL6.tb⟩
              refine fun y2 dy2 ny2 ndy2 ney2 => ?_
              refine ci_made hand3 (thx (.refl _)) rfl (by omega) (by rw [hxs]; exact hLe.ok) (lam_nx hLe) ny2 ndy2 ney2 fun G7 s7 hO2 => ?_
              rw [hxs] at hO2
              have hL7 := hL6.kp (.sm s7)
              have ok2 : ∀ r ∈ (rs ++ [(([], 0) : Rm)]).map srtR, OkR r := fun r hr z hz => by
                obtain ⟨u, hu, rfl⟩ := List.mem_map.mp hr
                exact okx z ((hLe.ok u hu).sub z ((sortS_perm u.1).subset hz))
              refine eq_rooms hL7.cn hO2 okx oks ok2 (decide_eq_false fun e => ?_) ?_
              · have z := congrArg List.length e
                rw [List.length_map, List.length_map, hle] at z
                omega
              refine ⟨_, rfl, iteF ?_⟩
              obtain ⟨ndw, us7, hdu7, _⟩ := id hL7.du
              refine ⟨_, rfl, _, rfl, eqX_ask hL7.cn (.base (.lst hdu7)) T.ky_list_Counts T.nf_list_Counts okx oks ?_⟩
              refine ⟨_, rfl, iteF ?_⟩
              refine ⟨_, rfl, ?_⟩
              unfold tC
              dsimp only
              refine eqX_ask hL7.cn (.base (.int 5)) T.ky_int_Counts T.nf_int_Counts okx oks ?_
              refine ⟨_, rfl, iteF ?_⟩
              have k27 : KpT (tabsL PL) wl c G2 G7 := .sm (SmT.trans (.of s26) s7)
              clear hO2 hand3 hP6 hPG s26 s6 s5 s4 s3 s35 he1 ht1 hl1 hp1 hrq hL6 s7
              try unfold tNext
              try dsimp only
              obtain ⟨nrq7, ws7, hrq7, hPG7⟩ := id hL7.rm
              have hwl7 : ws7.length = rs.length := hPG7.length
              refine ⟨_, rfl, _, rfl, _, rfl, rp, ws7, rfl, SqL.of hrq7, fun p2 np2 => ?_⟩
              have s8 := Same.new (o := .lst ws7.reverse) np2
              have hp2 := upd_same (H := G7) (a := p2) (o := .lst ws7.reverse)
              generalize upd G7 p2 (.lst ws7.reverse) = G8 at *
              have hL8 := hL7.kp (.same s8)
              have hLv := lam_rev hLam
              have hlv : rs.reverse.length = rs.length := List.length_reverse
              have hpv : ∀ r ∈ rs.reverse, r.1.length ≤ 63 ∧ ∀ x ∈ r.1, x.length ≤ 1000 := fun r hr => hpm r (List.mem_reverse.mp hr)
              have hand4 : Hand K (tabsL PL) G8 tl p2 (xs.map some) (rs.reverse.map pvOf) := ⟨⟨_, hL8.th, iss_strs _⟩, hlm (.refl _), tzx (.refl _), ⟨_, hp2, pv_rooms (paired_rev (roomK_mv hPG7 fun a o _ _ e => s8 _ _ e)) hpv⟩, by rw [List.length_map, hlv]; omega, hL8.tb⟩
              refine fun y3 dy3 ny3 ndy3 ney3 => ?_
              refine ci_made hand4 (thx (.refl _)) rfl (by omega) (by rw [hxs]; exact hLv.ok) (lam_nx hLv) ny3 ndy3 ney3 fun G9 s9 hO3 => ?_
              rw [hxs] at hO3
              have hL9 := hL8.kp (.sm s9)
              have ok3 : ∀ r ∈ rs.reverse.map srtR, OkR r := fun r hr z hz => by
                obtain ⟨u, hu, rfl⟩ := List.mem_map.mp hr
                exact okx z ((hLv.ok u hu).sub z ((sortS_perm u.1).subset hz))
              refine eq_rooms hL9.cn hO3 okx oks ok3 rfl ?_
              obtain ⟨ndw9, us9, hdu9, hPd9⟩ := id hL9.du
              refine ⟨_, rfl, _, rfl, D2, us9, rfl, SqL.of hdu9, fun p3 np3 => ?_⟩
              have s10 := Same.new (o := .lst us9.reverse) np3
              have hp3 := upd_same (H := G9) (a := p3) (o := .lst us9.reverse)
              generalize upd G9 p3 (.lst us9.reverse) = G10 at *
              have hL10 := hL9.kp (.same s10)
              refine ⟨_, _, dp_rooms hL10.du, dp_rooms (N := fun b => b ≠ wl) (rs := (rs.map srtR).reverse) ⟨hL9.st.ne np3, _, hp3, paired_rev (roomK_mv hPd9 fun a o _ _ e => s10 _ _ e)⟩, shaped_rooms oks, shaped_rooms (fun r hr => oks r (List.mem_reverse.mp hr)), ?_⟩
              rw [eqv_rooms, List.map_reverse]
              have k29 := k27.trans (.sm (SmT.trans (.of s8) (s9.trans (.of s10))))
              clear hp3 hp2 hPd9 hPG7 hand4 hO3 s8 s9 s10 hdu9 hrq7 hL9 hL8 hL7 hdu7 k27
              have e0 : ∀ b : Bool, (!decide (V.bl (id b) = V.bl b)) = false := fun b => by simp
              obtain ⟨bb, hbb⟩ : ∃ bb, bb = decide (rs.map srtR = (rs.map srtR).reverse) := ⟨_, rfl⟩
              rw [← hbb]
              refine ⟨rfl, ?_⟩
              rw [e0]
              refine ⟨_, rfl, iteF ?_⟩
              try unfold tNext
              try dsimp only
              refine seq_asg ?_
              refine ⟨_, rfl, ?_⟩
              (repeat (first | refine ⟨_, rfl, ?_⟩ | refine ⟨rfl, ?_⟩ | refine ⟨_, _, rfl, rfl, ?_⟩ | refine iteT ?_ | refine iteF ?_ | refine ⟨(by show (0 : Int) < _; omega), ?_⟩ | refine ⟨(⟨by omega, by omega⟩ : CDiv _ _), ?_⟩ | refine ⟨(⟨by decide, by decide, by decide⟩ : CPow _ _), ?_⟩ | refine ⟨(.inl ⟨by omega, by omega⟩ : CMul _ _), ?_⟩ | refine ⟨(.inr ⟨by omega, by omega⟩ : CMul _ _), ?_⟩ | refine Or.inl ⟨_, rfl, ?_⟩ | refine Or.inr ⟨_, rfl, ?_⟩ | refine ⟨_, _, _, _, true, rfl, .ty _, .base (.str _), kit_ty (by decide +kernel), ?_⟩ | refine ⟨_, _, rfl, ⟨by rw [sizeLine_eq]; omega, rfl⟩, ?_⟩ | refine ⟨_, _, rfl, .inl ⟨_, SqL.of (by assumption), rfl⟩, ?_⟩ | refine ⟨_, _, rfl, .inr ⟨_, SqT.of (by assumption), rfl⟩, ?_⟩))
              refine ⟨by omega, by omega, fun D5 nD5 => ?_⟩
              have d5w : D5 ≠ wl := hL10.st.ne nD5
              refine lc_it walk_range (fun j H' => ∃ (us : List V) (qs : List Rm), KpT (tabsL PL) wl c G10 H' ∧ H' D5 = some (.lst us) ∧ Paired (RoomK (fun a => a ≠ wl ∧ a ≠ D5) H') us qs ∧ (∀ q ∈ qs, RmOk xs q) ∧ qs.length = j)
                ⟨[], [], (KpT.refl _ _ _ _).new hL10.st nD5, upd_same, .nil, (fun q hq => by cases hq), rfl⟩ (fun _ _ _ _ => True.intro) ?step6 ?rest6
              case step6 =>
                rintro j v Gx Gy hj ⟨us, qs, kk, hD, hP, hok, hlq⟩ ⟨rfl, rfl⟩
                refine ⟨rfl, ?_⟩
                (repeat (first | refine ⟨_, rfl, ?_⟩ | refine ⟨rfl, ?_⟩ | refine ⟨_, _, rfl, rfl, ?_⟩ | refine iteT ?_ | refine iteF ?_ | refine ⟨(by show (0 : Int) < _; omega), ?_⟩ | refine ⟨(⟨by omega, by omega⟩ : CDiv _ _), ?_⟩ | refine ⟨(⟨by decide, by decide, by decide⟩ : CPow _ _), ?_⟩ | refine ⟨(.inl ⟨by omega, by omega⟩ : CMul _ _), ?_⟩ | refine ⟨(.inr ⟨by omega, by omega⟩ : CMul _ _), ?_⟩ | refine Or.inl ⟨_, rfl, ?_⟩ | refine Or.inr ⟨_, rfl, ?_⟩ | refine ⟨_, _, _, _, true, rfl, .ty _, .base (.str _), kit_ty (by decide +kernel), ?_⟩ | refine ⟨_, _, rfl, ⟨by rw [sizeLine_eq]; omega, rfl⟩, ?_⟩ | refine ⟨_, _, rfl, .inl ⟨_, SqL.of (by assumption), rfl⟩, ?_⟩ | refine ⟨_, _, rfl, .inr ⟨_, SqT.of (by assumption), rfl⟩, ?_⟩))
                have hLy := hL10.kp kk
                refine ⟨wl, c, tl, _, rfl, hLy.st, hLy.th, isSt_strs _, by rw [List.length_map]; omega, fun l0 ys Gc nl0 k4 hl0 pm => ?_⟩
                obtain ⟨es, rfl, pe⟩ := perm_strs pm
                have hLc := hLy.kp (.of k4)
                have hlx : (xs.map V.str).length = xs.length := List.length_map _
                have htc := hLc.th
                (repeat (first | refine ⟨_, rfl, ?_⟩ | refine ⟨rfl, ?_⟩ | refine ⟨_, _, rfl, rfl, ?_⟩ | refine iteT ?_ | refine iteF ?_ | refine ⟨(by show (0 : Int) < _; omega), ?_⟩ | refine ⟨(⟨by omega, by omega⟩ : CDiv _ _), ?_⟩ | refine ⟨(⟨by decide, by decide, by decide⟩ : CPow _ _), ?_⟩ | refine ⟨(.inl ⟨by omega, by omega⟩ : CMul _ _), ?_⟩ | refine ⟨(.inr ⟨by omega, by omega⟩ : CMul _ _), ?_⟩ | refine Or.inl ⟨_, rfl, ?_⟩ | refine Or.inr ⟨_, rfl, ?_⟩ | refine ⟨_, _, _, _, true, rfl, .ty _, .base (.str _), kit_ty (by decide +kernel), ?_⟩ | refine ⟨_, _, rfl, ⟨by rw [sizeLine_eq]; omega, rfl⟩, ?_⟩ | refine ⟨_, _, rfl, .inl ⟨_, SqL.of (by assumption), rfl⟩, ?_⟩ | refine ⟨_, _, rfl, .inr ⟨_, SqT.of (by assumption), rfl⟩, ?_⟩))
                refine ⟨wl, c, _, rfl, hLc.st, by omega, by omega, fun n Gd an bn kn => ?_⟩
                obtain ⟨m, rfl⟩ : ∃ m : Nat, n = m := ⟨n.toNat, by omega⟩
                have hl0d : Gd l0 = some (.lst (es.map V.str)) := kn.keep _ _ (hLy.st.ne nl0) hl0
                refine ⟨m, rfl, l0, _, rfl, SqL.of hl0d, fun l nl => ?_⟩
                rw [cut_lo, ← List.map_take]
                have s5 := Same.new (o := .lst ((es.take m).map V.str)) nl
                have hl5 := upd_same (H := Gd) (a := l) (o := .lst ((es.take m).map V.str))
                have hSd := kn.st hLc.st
                generalize upd Gd l (.lst ((es.take m).map V.str)) = Ge at *
                (repeat (first | refine ⟨_, rfl, ?_⟩ | refine ⟨rfl, ?_⟩ | refine ⟨_, _, rfl, rfl, ?_⟩ | refine iteT ?_ | refine iteF ?_ | refine ⟨(by show (0 : Int) < _; omega), ?_⟩ | refine ⟨(⟨by omega, by omega⟩ : CDiv _ _), ?_⟩ | refine ⟨(⟨by decide, by decide, by decide⟩ : CPow _ _), ?_⟩ | refine ⟨(.inl ⟨by omega, by omega⟩ : CMul _ _), ?_⟩ | refine ⟨(.inr ⟨by omega, by omega⟩ : CMul _ _), ?_⟩ | refine Or.inl ⟨_, rfl, ?_⟩ | refine Or.inr ⟨_, rfl, ?_⟩ | refine ⟨_, _, _, _, true, rfl, .ty _, .base (.str _), kit_ty (by decide +kernel), ?_⟩ | refine ⟨_, _, rfl, ⟨by rw [sizeLine_eq]; omega, rfl⟩, ?_⟩ | refine ⟨_, _, rfl, .inl ⟨_, SqL.of (by assumption), rfl⟩, ?_⟩ | refine ⟨_, _, rfl, .inr ⟨_, SqT.of (by assumption), rfl⟩, ?_⟩))
                refine ⟨wl, c, 3, rfl, hSd.same s5, by omega, by omega, fun d Gf ad bd kd => ?_⟩
                refine ⟨two, fun z nz => ?_⟩
                have kf : KpS wl c Gy Gf := k4.trans (kn.trans ((KpS.same s5).trans kd))
                have s6 := Same.new (o := .tup [.ref l, .int d]) nz
                have hz6 := upd_same (H := Gf) (a := z) (o := .tup [.ref l, .int d])
                have kg := (kk.trans (.of kf)).new (o := .tup [.ref l, .int d]) hL10.st nz
                generalize upd Gf z (.tup [.ref l, .int d]) = Gg at *
                have hDf : Gf D5 = some (.lst us) := kf.keep _ _ d5w hD
                have hDg := s6 _ _ hDf
                have hDd : Gd D5 = some (.lst us) := kn.keep _ _ d5w (k4.keep _ _ d5w hD)
                have lw : l ≠ wl := hSd.ne nl
                have zw : z ≠ wl := (kf.st hLy.st).ne nz
                have lD : l ≠ D5 := fun e => by rw [e, hDd] at nl; cases nl
                have zD : z ≠ D5 := fun e => by rw [e, hDf] at nz; cases nz
                have lv : us.length = j := by rw [hP.length, hlq]
                refine ⟨_, hDg, small1000 (by omega), us ++ [.ref z], qs ++ [(es.take m, d)], kg.chg hL10.st (.of nD5) hDg, upd_same, ?_, fun q hq => ?_, by rw [List.length_append, hlq]; rfl⟩
                · exact rooms_snoc hP (fun a o na _ e => by rw [upd_ne na.2]; exact s6 _ _ (kf.keep _ _ na.1 e)) ⟨zw, zD⟩ (by rw [upd_ne zD]; exact hz6) ⟨lw, lD⟩ (by rw [upd_ne lD]; exact s6 _ _ (kd.keep _ _ lw hl5))
                · rcases List.mem_append.mp hq with hq | hq
                  · exact hok q hq
                  · rw [List.mem_singleton.mp hq]
                    exact ⟨(pe.nodup_iff.mpr hxn).sublist (List.take_sublist _ _), fun x hx => pe.subset (List.mem_of_mem_take hx), ad⟩
              case rest6 =>
                rintro Gz ⟨us, qs, kk, hD5, hP5, hok, hlq⟩
                have hlq : qs.length = 2 := hlq
                have hL11 := hL10.kp kk
                obtain ⟨nrq, ws2, hrq, hPw⟩ := id hL11.rm
                have hw2 : ws2.length = rs.length := hPw.length
                have hu2 : us.length = 2 := by rw [hP5.length, hlq]
                have zc2 : ws2.length + us.length ≤ sizeLine := by
                  rw [sizeLine_eq]
                  omega
                refine ⟨rp, D5, _, _, rfl, rfl, hrq, hD5, zc2, fun p5 np5 => ?_⟩
                have s5 := Same.new (o := .lst (ws2 ++ us)) np5
                have hp5 := upd_same (H := Gz) (a := p5) (o := .lst (ws2 ++ us))
                generalize upd Gz p5 (.lst (ws2 ++ us)) = G12 at *
                have hL12 := hL11.kp (.same s5)
                have hP12 : Paired (RoomK (fun a => a ≠ wl) G12) (ws2 ++ us) (rs ++ qs) := paired_app (roomK_mv hPw fun a o _ _ e => s5 _ _ e) (roomK_wk (roomK_mv hP5 fun a o _ _ e => s5 _ _ e) fun a na => na.1)
                refine g_name ?_
                try dsimp only
                refine seq_asg ?_
                obtain ⟨rts, hrts⟩ := rooms_refs hP12
                refine ⟨_, rfl, _, rfl, wl, c, p5, _, rfl, hL12.st, hp5, (by rw [hrts]; exact isSt_refs _), by rw [List.length_append]; omega, fun p6 ys G13 np6 k13 hp6 pm => ?_⟩
                obtain ⟨ts, pts, hPt⟩ := paired_perm pm (roomK_mv (H' := G13) hP12 fun a o na _ e => k13.keep _ _ na e)
                have hL13 := hL12.kp (.of k13)
                have hlt : ts.length = rs.length + 2 := by rw [pts.length_eq, List.length_append, hlq]
                have okt : ∀ q ∈ ts, RmOk xs q := fun q hq => by
                  rcases List.mem_append.mp (pts.subset hq) with h | h
                  · exact hLam.ok q h
                  · exact hok q h
                have hpt : ∀ r ∈ ts, r.1.length ≤ 63 ∧ ∀ x ∈ r.1, x.length ≤ 1000 := fun r hr => ⟨by
                  have := (okt r hr).nd.length_le_of_subset (okt r hr).sub
                  omega, fun x hx => nm_len (hxk x ((okt r hr).sub x hx)).1⟩
                have hR13 : RoomsD (fun a => a ≠ wl) G13 p6 ts := ⟨hL12.st.ne np6, ys, hp6, hPt⟩
                clear hP12 hPw hP5 hD5 hrq hp5 kk hrts
                refine g_name ?_
                try dsimp only
                refine seq_asg ?_
                refine ⟨_, rfl, p6, ts, _, rfl, hR13, by omega, fun q hq => ⟨(okt q hq).nd, (hpt q hq).1⟩, fun i1 j1 hx p7 G14 s14 hp7 => ?_, fun hno G14 s14 => ?_⟩
                · refine g_name ?_
                  try dsimp only
                  refine seq_asg ?_
                  have hL14 := hL13.kp (.same s14)
                  have hR14 := hR13.same s14
                  obtain ⟨_, zs14, hz14, hP14⟩ := id hR14
                  have hand5 : Hand K (tabsL PL) G14 tl p6 (xs.map some) (ts.map pvOf) := ⟨⟨_, hL14.th, iss_strs _⟩, hlm (.refl _), tzx (.refl _), ⟨_, hz14, pv_rooms hP14 hpt⟩, by rw [List.length_map]; omega, hL14.tb⟩
                  refine ⟨_, rfl, _, rfl, ?_⟩
                  try unfold tNil
                  dsimp only
                  rw [List.append_nil]
                  refine told_cross hand5 (thx (.refl _)) rfl (by omega) (by rw [hxs]; exact okt) hx fun pt G15 s15 hpt15 => ?_
                  have hL15 := hL14.kp (.sm s15)
                  refine g_name ?_
                  try dsimp only
                  refine ⟨_, rfl, rfl, _, rfl, iteT ?_⟩
                  refine ⟨_, rfl, _, rfl, _, _, dp_tii hpt15, dp_tii (s15.keep _ _ rfl hp7), shaped_tii (by decide +kernel), shaped_tii (by decide +kernel), ?_⟩
                  rw [eqv_tii]
                  refine ⟨_, rfl, iteF ?_⟩
                  refine ⟨_, rfl, rfl, _, rfl, iteF ?_⟩
                  refine iteF ?_
                  try unfold tNext
                  try dsimp only
                  refine fin_piece rfl rfl rfl hL15 (by omega) (by omega) hxn hxs hxk hLam hrl' (fun q hq => (hpm q hq).1) fun H' kf => ?_
                  exact ⟨_, _, _, _, _, _, _, _, _, _, _, _, _, _, _, _, rfl, kf.st hL15.st, kf.tabs hL15.st hL15.tb⟩
                · refine g_name ?_
                  try dsimp only
                  refine seq_asg ?_
                  have hL14 := hL13.kp (.same s14)
                  have hR14 := hR13.same s14
                  obtain ⟨_, zs14, hz14, hP14⟩ := id hR14
                  have hand5 : Hand K (tabsL PL) G14 tl p6 (xs.map some) (ts.map pvOf) := ⟨⟨_, hL14.th, iss_strs _⟩, hlm (.refl _), tzx (.refl _), ⟨_, hz14, pv_rooms hP14 hpt⟩, by rw [List.length_map]; omega, hL14.tb⟩
                  refine ⟨_, rfl, _, rfl, ?_⟩
                  try unfold tNil
                  dsimp only
                  rw [List.append_nil]
                  refine told_made hand5 (thx (.refl _)) rfl (by omega) (by rw [hxs]; exact okt) hno fun pt xt G15 s15 hpt15 _ => ?_
                  have hL15 := hL14.kp (.sm s15)
                  refine g_name ?_
                  try dsimp only
                  refine ⟨_, rfl, rfl, _, rfl, iteF ?_⟩
                  refine iteF ?_
                  refine ⟨_, rfl, rfl, _, rfl, iteT ?_⟩
                  refine ⟨_, rfl, pt, _, 0, _, rfl, rfl, SqT.of hpt15, rfl, _, _, dp_at0, dp_at0, shaped_str (by decide +kernel), shaped_str (by decide +kernel), ?_⟩
                  rw [eqv_str]
                  refine ⟨_, rfl, iteF ?_⟩
                  try unfold tNext
                  try dsimp only
                  refine fin_piece rfl rfl rfl hL15 (by omega) (by omega) hxn hxs hxk hLam hrl' (fun q hq => (hpm q hq).1) fun H' kf => ?_
                  exact ⟨_, _, _, _, _, _, _, _, _, _, _, _, _, _, _, _, rfl, kf.st hL15.st, kf.tabs hL15.st hL15.tb⟩
    · rintro σ H2 ⟨v2, v3, v4, v5, v6, v7, v8, v9, v10, v11, v12, v13, v14, v15, v16, v17, rfl, hS, ht⟩
      try dsimp only
      refine seq_asg ?_
      (repeat (first | refine ⟨_, rfl, ?_⟩ | refine ⟨rfl, ?_⟩ | refine ⟨_, _, rfl, rfl, ?_⟩ | refine iteT ?_ | refine iteF ?_ | refine ⟨(by show (0 : Int) < _; omega), ?_⟩ | refine ⟨(⟨by omega, by omega⟩ : CDiv _ _), ?_⟩ | refine ⟨(⟨by decide, by decide, by decide⟩ : CPow _ _), ?_⟩ | refine ⟨(.inl ⟨by omega, by omega⟩ : CMul _ _), ?_⟩ | refine ⟨(.inr ⟨by omega, by omega⟩ : CMul _ _), ?_⟩ | refine Or.inl ⟨_, rfl, ?_⟩ | refine Or.inr ⟨_, rfl, ?_⟩ | refine ⟨_, _, _, _, true, rfl, .ty _, .base (.str _), kit_ty (by decide +kernel), ?_⟩ | refine ⟨_, _, rfl, ⟨by rw [sizeLine_eq]; omega, rfl⟩, ?_⟩ | refine ⟨_, _, rfl, .inl ⟨_, SqL.of (by assumption), rfl⟩, ?_⟩ | refine ⟨_, _, rfl, .inr ⟨_, SqT.of (by assumption), rfl⟩, ?_⟩))
      refine ⟨wl, c, 3, rfl, hS, by omega, by omega, fun n G a b kn => ?_⟩
      have hSG := kn.st hS
      have htG := (KpT.of (T := tabsL PL) kn).tabs hS ht
      obtain ⟨m, hm⟩ : ∃ m : Nat, (23 + n).toNat = m := ⟨_, rfl⟩
      refine ⟨_, _, rfl, rfl, ?_⟩
      refine ⟨_, rfl, by omega, by omega, fun D nD => ?_⟩
      have lw : (Str.ofString "abcdefghijklmnopqrstuvwxyz").cps.toList.length = 26 := by decide +kernel
      refine lc_it walk_range (fun j H' => Same G H' ∧ H' D = some (.lst ((letters j).map V.str))) ⟨Same.new nD, upd_same⟩ (fun _ _ _ _ => True.intro) ?step7 ?rest7
      case step7 =>
        rintro j v Gx Gy hj ⟨s4, hD⟩ ⟨rfl, rfl⟩
        have hj' : j < m := by omega
        refine ⟨rfl, ?_⟩
        (repeat (first | refine ⟨_, rfl, ?_⟩ | refine ⟨rfl, ?_⟩ | refine ⟨_, _, rfl, rfl, ?_⟩ | refine iteT ?_ | refine iteF ?_ | refine ⟨(by show (0 : Int) < _; omega), ?_⟩ | refine ⟨(⟨by omega, by omega⟩ : CDiv _ _), ?_⟩ | refine ⟨(⟨by decide, by decide, by decide⟩ : CPow _ _), ?_⟩ | refine ⟨(.inl ⟨by omega, by omega⟩ : CMul _ _), ?_⟩ | refine ⟨(.inr ⟨by omega, by omega⟩ : CMul _ _), ?_⟩ | refine Or.inl ⟨_, rfl, ?_⟩ | refine Or.inr ⟨_, rfl, ?_⟩ | refine ⟨_, _, _, _, true, rfl, .ty _, .base (.str _), kit_ty (by decide +kernel), ?_⟩ | refine ⟨_, _, rfl, ⟨by rw [sizeLine_eq]; omega, rfl⟩, ?_⟩ | refine ⟨_, _, rfl, .inl ⟨_, SqL.of (by assumption), rfl⟩, ?_⟩ | refine ⟨_, _, rfl, .inr ⟨_, SqT.of (by assumption), rfl⟩, ?_⟩))
        refine ⟨_, _, _, rfl, rfl, (by show 26 ≤ sizeLine; rw [sizeLine_eq]; omega), atN_of (n := 0 + (j : Int)) (by omega) (by omega), ?_⟩
        rw [show (Str.ofString "abcdefghijklmnopqrstuvwxyz").cps.toList[(0 + (j : Int)).toNat]'(by omega) = 97 + j from (letters_at _ (by omega)).trans (by omega)]
        refine ⟨_, hD, small1000 (by rw [List.length_map, letters_len]; omega), Same.put s4 nD, ?_⟩
        rw [upd_same, letters_up, List.map_append]
        rfl
      case rest7 =>
        rintro Ga ⟨s4, hD⟩
        rw [hm] at hD
        have hmb : 23 ≤ m ∧ m ≤ 25 := by omega
        refine g_name ?_
        try dsimp only
        refine seq_asg ?_
        refine ⟨_, rfl, Nat.zero_le _, fun e ne => ?_⟩
        have s5 := Same.new (o := .lst []) ne
        have he := upd_same (H := Ga) (a := e) (o := .lst [])
        generalize upd Ga e (.lst []) = Gb at *
        have hDb := s5 _ _ hD
        have htb := htG.ext (s4.trans s5)
        try unfold tNil
        dsimp only
        rw [List.append_nil]
        have hand : Hand K (tabsL PL) Gb D e ((letters m).map some) (([] : List Rm).map pvOf) := ⟨⟨_, hDb, iss_strs _⟩, by rw [List.length_map, letters_len]; omega, letters_size, ⟨[], he, .nil⟩, Nat.zero_le _, htb⟩
        have hlm : ((letters m).map V.str).length = m := by rw [List.length_map, letters_len]
        by_cases h25 : m = 25
        · rw [h25] at hand hDb hlm
          refine told_things hand letters_25 fun p Gc s hp => ?_
          refine g_name ?_
          try dsimp only
          refine ⟨_, rfl, _, _, rfl, .inl ⟨_, SqL.of (s.keep _ _ rfl hDb), rfl⟩, ?_⟩
          rw [hlm]
          refine ⟨_, _, rfl, rfl, _, rfl, iteT ?_⟩
          refine ⟨_, rfl, _, rfl, two, fun p2 np2 => ?_⟩
          refine ⟨_, _, dp_ti ((Same.new np2) _ _ hp), dp_ti upd_same, shaped_ti (by decide +kernel), shaped_ti (by decide +kernel), ?_⟩
          rw [eqv_ti]
          exact k _
        · have ho : thF ((letters m).map some) = none := by
            have : m = 23 ∨ m = 24 := by omega
            rcases this with h | h
            · rw [h]
              exact letters_23
            · rw [h]
              exact letters_24
          refine told_made hand ho rfl (Nat.zero_le _) (fun q hq => by cases hq) (lam_nx (Lam.nil [])) fun p x Gc s hp _ => ?_
          refine g_name ?_
          try dsimp only
          refine ⟨_, rfl, _, _, rfl, .inl ⟨_, SqL.of (s.keep _ _ rfl hDb), rfl⟩, ?_⟩
          rw [hlm]
          refine ⟨_, _, rfl, rfl, _, rfl, ?_⟩
          rw [decide_eq_false (show ¬ ((24 : Int) < (m : Int)) by omega)]
          refine iteF ?_
          refine ⟨_, rfl, p, _, 0, _, rfl, rfl, SqT.of hp, rfl, _, _, dp_at0, dp_at0, shaped_str (by decide +kernel), shaped_str (by decide +kernel), ?_⟩
          rw [eqv_str]
          exact k _
end
end BF47
set_option Elab.async false
set_option linter.all false
set_option maxRecDepth 100000
set_option maxHeartbeats 4000000
namespace BF47
open BF
open PySem PySem.Spec PyProof.Rows L2
open C8 (Cal CalAt Met Mak cal0 met0 mak0 fn0 pe_c pe_mk pe_mt pe_mt0 pe_gc fnScope fnBody fnArgs fnScope_by)
open LamX (Tabs TabB TabS ExtN CodeO)
theorem all_mk {K : PySem.W.Frag} {h : Heap} {mg : Str → Option Value} {C_LotError C_BadThings C_BadRooms C_CrossedRooms C_Counts f_BadThings__init f_BadRooms__init f_CrossedRooms__init f_is_integer f_is_name f_first_wrong f_sorted_things f_is_lot f_Counts__init f_Counts_things f_Counts_rooms f_Counts__eq f_checked_rooms f_are_crossed f_is_room f_shared f_law_state f_law_draw f_law_names f_law_mixed f_law_rooms f_law_told f_law_crossed f_law_wrong_room f_law_refused f_law : Addr} (X : K.In h) (G : h.Ns mainGlobals mg)
    {od_BadThings__init an_BadThings__init od_BadRooms__init an_BadRooms__init od_CrossedRooms__init an_CrossedRooms__init od_is_integer an_is_integer od_is_name an_is_name od_first_wrong an_first_wrong od_sorted_things an_sorted_things od_is_lot an_is_lot od_Counts__init an_Counts__init od_Counts_things an_Counts_things od_Counts_rooms an_Counts_rooms od_Counts__eq an_Counts__eq od_checked_rooms an_checked_rooms od_are_crossed an_are_crossed od_is_room an_is_room od_shared an_shared od_law_state an_law_state od_law_draw an_law_draw od_law_names an_law_names od_law_mixed an_law_mixed od_law_rooms an_law_rooms od_law_told an_law_told od_law_crossed an_law_crossed od_law_wrong_room an_law_wrong_room od_law_refused an_law_refused od_law an_law : Option Addr} {sl_BadThings__init sl_BadRooms__init sl_CrossedRooms__init sl_is_integer sl_is_name sl_first_wrong sl_sorted_things sl_is_lot sl_Counts__init sl_Counts_things sl_Counts_rooms sl_Counts__eq sl_checked_rooms sl_are_crossed sl_is_room sl_shared sl_law_state sl_law_draw sl_law_names sl_law_mixed sl_law_rooms sl_law_told sl_law_crossed sl_law_wrong_room sl_law_refused sl_law : Array (Option Value)} {oc_BadThings__init kV_BadThings__init dc_BadThings__init pm_BadThings__init cd_BadThings__init ct_BadThings__init oc_BadRooms__init kV_BadRooms__init dc_BadRooms__init pm_BadRooms__init cd_BadRooms__init ct_BadRooms__init oc_CrossedRooms__init kV_CrossedRooms__init dc_CrossedRooms__init pm_CrossedRooms__init cd_CrossedRooms__init ct_CrossedRooms__init oc_is_integer kV_is_integer dc_is_integer pm_is_integer cd_is_integer ct_is_integer oc_is_name kV_is_name dc_is_name pm_is_name cd_is_name ct_is_name oc_first_wrong kV_first_wrong dc_first_wrong pm_first_wrong cd_first_wrong ct_first_wrong oc_sorted_things kV_sorted_things dc_sorted_things pm_sorted_things cd_sorted_things ct_sorted_things oc_is_lot kV_is_lot dc_is_lot pm_is_lot cd_is_lot ct_is_lot oc_Counts__init kV_Counts__init dc_Counts__init pm_Counts__init cd_Counts__init ct_Counts__init oc_Counts_things kV_Counts_things dc_Counts_things pm_Counts_things cd_Counts_things ct_Counts_things oc_Counts_rooms kV_Counts_rooms dc_Counts_rooms pm_Counts_rooms cd_Counts_rooms ct_Counts_rooms oc_Counts__eq kV_Counts__eq dc_Counts__eq pm_Counts__eq cd_Counts__eq ct_Counts__eq oc_checked_rooms kV_checked_rooms dc_checked_rooms pm_checked_rooms cd_checked_rooms ct_checked_rooms oc_are_crossed kV_are_crossed dc_are_crossed pm_are_crossed cd_are_crossed ct_are_crossed oc_is_room kV_is_room dc_is_room pm_is_room cd_is_room ct_is_room oc_shared kV_shared dc_shared pm_shared cd_shared ct_shared oc_law_state kV_law_state dc_law_state pm_law_state cd_law_state ct_law_state oc_law_draw kV_law_draw dc_law_draw pm_law_draw cd_law_draw ct_law_draw oc_law_names kV_law_names dc_law_names pm_law_names cd_law_names ct_law_names oc_law_mixed kV_law_mixed dc_law_mixed pm_law_mixed cd_law_mixed ct_law_mixed oc_law_rooms kV_law_rooms dc_law_rooms pm_law_rooms cd_law_rooms ct_law_rooms oc_law_told kV_law_told dc_law_told pm_law_told cd_law_told ct_law_told oc_law_crossed kV_law_crossed dc_law_crossed pm_law_crossed cd_law_crossed ct_law_crossed oc_law_wrong_room kV_law_wrong_room dc_law_wrong_room pm_law_wrong_room cd_law_wrong_room ct_law_wrong_room oc_law_refused kV_law_refused dc_law_refused pm_law_refused cd_law_refused ct_law_refused oc_law kV_law dc_law pm_law cd_law ct_law : Value} {tk_LONGEST_NAME tk_MOST_THINGS tk_MOST_ROOMS : Tok}
    {hd2_Counts : Bool} {ni_Counts : String}
    {nm_BadThings qn_BadThings : Str} {NS_BadThings : Addr} {bs_BadThings : List Value} {sn_BadThings : List Str} {sub_BadThings : List Value} {ab_BadThings : Bool} {col_BadThings : Option Bool} {dd_BadThings : Option Addr} {k0_BadThings k1_BadThings k2_BadThings k3_BadThings k5_BadThings : Option Value}
    {nm_BadRooms qn_BadRooms : Str} {NS_BadRooms : Addr} {bs_BadRooms : List Value} {sn_BadRooms : List Str} {sub_BadRooms : List Value} {ab_BadRooms : Bool} {col_BadRooms : Option Bool} {dd_BadRooms : Option Addr} {k0_BadRooms k1_BadRooms k2_BadRooms k3_BadRooms k5_BadRooms : Option Value}
    {nm_CrossedRooms qn_CrossedRooms : Str} {NS_CrossedRooms : Addr} {bs_CrossedRooms : List Value} {sn_CrossedRooms : List Str} {sub_CrossedRooms : List Value} {ab_CrossedRooms : Bool} {col_CrossedRooms : Option Bool} {dd_CrossedRooms : Option Addr} {k0_CrossedRooms k1_CrossedRooms k2_CrossedRooms k3_CrossedRooms k5_CrossedRooms : Option Value}
    {nm_Counts qn_Counts : Str} {NS_Counts : Addr} {bs_Counts : List Value} {sn_Counts : List Str} {sub_Counts : List Value} {ab_Counts : Bool} {col_Counts : Option Bool} {dd_Counts : Option Addr} {k0_Counts k1_Counts k2_Counts k3_Counts k5_Counts : Option Value}
    (hgC_LotError : PySem.W.nsIn K mainGlobals "LotError" = some (some (.ref C_LotError)))
    (hgC_BadThings : PySem.W.nsIn K mainGlobals "BadThings" = some (some (.ref C_BadThings)))
    (hgC_BadRooms : PySem.W.nsIn K mainGlobals "BadRooms" = some (some (.ref C_BadRooms)))
    (hgC_CrossedRooms : PySem.W.nsIn K mainGlobals "CrossedRooms" = some (some (.ref C_CrossedRooms)))
    (hgC_Counts : PySem.W.nsIn K mainGlobals "Counts" = some (some (.ref C_Counts)))
    (ha_BadThings__init : PySem.W.findIn K (.ref C_BadThings) "__init__" = some (some (.ref f_BadThings__init)))
    (hi_BadThings__init : PySem.W.isFn K (.ref f_BadThings__init) = true)
    (hl_BadThings__init : K.lookup f_BadThings__init = some ⟨oc_BadThings__init, od_BadThings__init, .func (PySem.W.fnOf "__init__" "BadThings.__init__" (fnArgs s_BadThings__init) (fnBody s_BadThings__init) (fnScope s_BadThings__init) .none kV_BadThings__init dc_BadThings__init pm_BadThings__init an_BadThings__init cd_BadThings__init ct_BadThings__init), sl_BadThings__init⟩)
    (hc_BadThings__init : PySem.W.codeIn K cd_BadThings__init "BadThings.__init__" = true)
    (hk_BadThings__init : PySem.W.keepIn K (.ref f_BadThings__init) = true)
    (ha_BadRooms__init : PySem.W.findIn K (.ref C_BadRooms) "__init__" = some (some (.ref f_BadRooms__init)))
    (hi_BadRooms__init : PySem.W.isFn K (.ref f_BadRooms__init) = true)
    (hl_BadRooms__init : K.lookup f_BadRooms__init = some ⟨oc_BadRooms__init, od_BadRooms__init, .func (PySem.W.fnOf "__init__" "BadRooms.__init__" (fnArgs s_BadRooms__init) (fnBody s_BadRooms__init) (fnScope s_BadRooms__init) .none kV_BadRooms__init dc_BadRooms__init pm_BadRooms__init an_BadRooms__init cd_BadRooms__init ct_BadRooms__init), sl_BadRooms__init⟩)
    (hc_BadRooms__init : PySem.W.codeIn K cd_BadRooms__init "BadRooms.__init__" = true)
    (hk_BadRooms__init : PySem.W.keepIn K (.ref f_BadRooms__init) = true)
    (ha_CrossedRooms__init : PySem.W.findIn K (.ref C_CrossedRooms) "__init__" = some (some (.ref f_CrossedRooms__init)))
    (hi_CrossedRooms__init : PySem.W.isFn K (.ref f_CrossedRooms__init) = true)
    (hl_CrossedRooms__init : K.lookup f_CrossedRooms__init = some ⟨oc_CrossedRooms__init, od_CrossedRooms__init, .func (PySem.W.fnOf "__init__" "CrossedRooms.__init__" (fnArgs s_CrossedRooms__init) (fnBody s_CrossedRooms__init) (fnScope s_CrossedRooms__init) .none kV_CrossedRooms__init dc_CrossedRooms__init pm_CrossedRooms__init an_CrossedRooms__init cd_CrossedRooms__init ct_CrossedRooms__init), sl_CrossedRooms__init⟩)
    (hc_CrossedRooms__init : PySem.W.codeIn K cd_CrossedRooms__init "CrossedRooms.__init__" = true)
    (hk_CrossedRooms__init : PySem.W.keepIn K (.ref f_CrossedRooms__init) = true)
    (ha_is_integer : PySem.W.nsIn K mainGlobals "is_integer" = some (some (.ref f_is_integer)))
    (hl_is_integer : K.lookup f_is_integer = some ⟨oc_is_integer, od_is_integer, .func (PySem.W.fnOf "is_integer" "is_integer" (fnArgs s_is_integer) (fnBody s_is_integer) (fnScope s_is_integer) .none kV_is_integer dc_is_integer pm_is_integer an_is_integer cd_is_integer ct_is_integer), sl_is_integer⟩)
    (hc_is_integer : PySem.W.codeIn K cd_is_integer "is_integer" = true)
    (hk_is_integer : PySem.W.keepIn K (.ref f_is_integer) = true)
    (ha_is_name : PySem.W.nsIn K mainGlobals "is_name" = some (some (.ref f_is_name)))
    (hl_is_name : K.lookup f_is_name = some ⟨oc_is_name, od_is_name, .func (PySem.W.fnOf "is_name" "is_name" (fnArgs s_is_name) (fnBody s_is_name) (fnScope s_is_name) .none kV_is_name dc_is_name pm_is_name an_is_name cd_is_name ct_is_name), sl_is_name⟩)
    (hc_is_name : PySem.W.codeIn K cd_is_name "is_name" = true)
    (hk_is_name : PySem.W.keepIn K (.ref f_is_name) = true)
    (ha_first_wrong : PySem.W.nsIn K mainGlobals "first_wrong" = some (some (.ref f_first_wrong)))
    (hl_first_wrong : K.lookup f_first_wrong = some ⟨oc_first_wrong, od_first_wrong, .func (PySem.W.fnOf "first_wrong" "first_wrong" (fnArgs s_first_wrong) (fnBody s_first_wrong) (fnScope s_first_wrong) .none kV_first_wrong dc_first_wrong pm_first_wrong an_first_wrong cd_first_wrong ct_first_wrong), sl_first_wrong⟩)
    (hc_first_wrong : PySem.W.codeIn K cd_first_wrong "first_wrong" = true)
    (hk_first_wrong : PySem.W.keepIn K (.ref f_first_wrong) = true)
    (ha_sorted_things : PySem.W.nsIn K mainGlobals "sorted_things" = some (some (.ref f_sorted_things)))
    (hl_sorted_things : K.lookup f_sorted_things = some ⟨oc_sorted_things, od_sorted_things, .func (PySem.W.fnOf "sorted_things" "sorted_things" (fnArgs s_sorted_things) (fnBody s_sorted_things) (fnScope s_sorted_things) .none kV_sorted_things dc_sorted_things pm_sorted_things an_sorted_things cd_sorted_things ct_sorted_things), sl_sorted_things⟩)
    (hc_sorted_things : PySem.W.codeIn K cd_sorted_things "sorted_things" = true)
    (hk_sorted_things : PySem.W.keepIn K (.ref f_sorted_things) = true)
    (ha_is_lot : PySem.W.nsIn K mainGlobals "is_lot" = some (some (.ref f_is_lot)))
    (hl_is_lot : K.lookup f_is_lot = some ⟨oc_is_lot, od_is_lot, .func (PySem.W.fnOf "is_lot" "is_lot" (fnArgs s_is_lot) (fnBody s_is_lot) (fnScope s_is_lot) .none kV_is_lot dc_is_lot pm_is_lot an_is_lot cd_is_lot ct_is_lot), sl_is_lot⟩)
    (hc_is_lot : PySem.W.codeIn K cd_is_lot "is_lot" = true)
    (hk_is_lot : PySem.W.keepIn K (.ref f_is_lot) = true)
    (ha_Counts__init : PySem.W.findIn K (.ref C_Counts) "__init__" = some (some (.ref f_Counts__init)))
    (hi_Counts__init : PySem.W.isFn K (.ref f_Counts__init) = true)
    (hl_Counts__init : K.lookup f_Counts__init = some ⟨oc_Counts__init, od_Counts__init, .func (PySem.W.fnOf "__init__" "Counts.__init__" (fnArgs s_Counts__init) (fnBody s_Counts__init) (fnScope s_Counts__init) .none kV_Counts__init dc_Counts__init pm_Counts__init an_Counts__init cd_Counts__init ct_Counts__init), sl_Counts__init⟩)
    (hc_Counts__init : PySem.W.codeIn K cd_Counts__init "Counts.__init__" = true)
    (hk_Counts__init : PySem.W.keepIn K (.ref f_Counts__init) = true)
    (ha_Counts_things : PySem.W.findIn K (.ref C_Counts) "things" = some (some (.ref f_Counts_things)))
    (hi_Counts_things : PySem.W.isFn K (.ref f_Counts_things) = true)
    (hl_Counts_things : K.lookup f_Counts_things = some ⟨oc_Counts_things, od_Counts_things, .func (PySem.W.fnOf "things" "Counts.things" (fnArgs s_Counts_things) (fnBody s_Counts_things) (fnScope s_Counts_things) .none kV_Counts_things dc_Counts_things pm_Counts_things an_Counts_things cd_Counts_things ct_Counts_things), sl_Counts_things⟩)
    (hc_Counts_things : PySem.W.codeIn K cd_Counts_things "Counts.things" = true)
    (hk_Counts_things : PySem.W.keepIn K (.ref f_Counts_things) = true)
    (ha_Counts_rooms : PySem.W.findIn K (.ref C_Counts) "rooms" = some (some (.ref f_Counts_rooms)))
    (hi_Counts_rooms : PySem.W.isFn K (.ref f_Counts_rooms) = true)
    (hl_Counts_rooms : K.lookup f_Counts_rooms = some ⟨oc_Counts_rooms, od_Counts_rooms, .func (PySem.W.fnOf "rooms" "Counts.rooms" (fnArgs s_Counts_rooms) (fnBody s_Counts_rooms) (fnScope s_Counts_rooms) .none kV_Counts_rooms dc_Counts_rooms pm_Counts_rooms an_Counts_rooms cd_Counts_rooms ct_Counts_rooms), sl_Counts_rooms⟩)
    (hc_Counts_rooms : PySem.W.codeIn K cd_Counts_rooms "Counts.rooms" = true)
    (hk_Counts_rooms : PySem.W.keepIn K (.ref f_Counts_rooms) = true)
    (ha_Counts__eq : PySem.W.findIn K (.ref C_Counts) "__eq__" = some (some (.ref f_Counts__eq)))
    (hi_Counts__eq : PySem.W.isFn K (.ref f_Counts__eq) = true)
    (hl_Counts__eq : K.lookup f_Counts__eq = some ⟨oc_Counts__eq, od_Counts__eq, .func (PySem.W.fnOf "__eq__" "Counts.__eq__" (fnArgs s_Counts__eq) (fnBody s_Counts__eq) (fnScope s_Counts__eq) .none kV_Counts__eq dc_Counts__eq pm_Counts__eq an_Counts__eq cd_Counts__eq ct_Counts__eq), sl_Counts__eq⟩)
    (hc_Counts__eq : PySem.W.codeIn K cd_Counts__eq "Counts.__eq__" = true)
    (hk_Counts__eq : PySem.W.keepIn K (.ref f_Counts__eq) = true)
    (ha_checked_rooms : PySem.W.nsIn K mainGlobals "_checked_rooms" = some (some (.ref f_checked_rooms)))
    (hl_checked_rooms : K.lookup f_checked_rooms = some ⟨oc_checked_rooms, od_checked_rooms, .func (PySem.W.fnOf "_checked_rooms" "_checked_rooms" (fnArgs s_checked_rooms) (fnBody s_checked_rooms) (fnScope s_checked_rooms) .none kV_checked_rooms dc_checked_rooms pm_checked_rooms an_checked_rooms cd_checked_rooms ct_checked_rooms), sl_checked_rooms⟩)
    (hc_checked_rooms : PySem.W.codeIn K cd_checked_rooms "_checked_rooms" = true)
    (hk_checked_rooms : PySem.W.keepIn K (.ref f_checked_rooms) = true)
    (ha_are_crossed : PySem.W.nsIn K mainGlobals "are_crossed" = some (some (.ref f_are_crossed)))
    (hl_are_crossed : K.lookup f_are_crossed = some ⟨oc_are_crossed, od_are_crossed, .func (PySem.W.fnOf "are_crossed" "are_crossed" (fnArgs s_are_crossed) (fnBody s_are_crossed) (fnScope s_are_crossed) .none kV_are_crossed dc_are_crossed pm_are_crossed an_are_crossed cd_are_crossed ct_are_crossed), sl_are_crossed⟩)
    (hc_are_crossed : PySem.W.codeIn K cd_are_crossed "are_crossed" = true)
    (hk_are_crossed : PySem.W.keepIn K (.ref f_are_crossed) = true)
    (ha_is_room : PySem.W.nsIn K mainGlobals "_is_room" = some (some (.ref f_is_room)))
    (hl_is_room : K.lookup f_is_room = some ⟨oc_is_room, od_is_room, .func (PySem.W.fnOf "_is_room" "_is_room" (fnArgs s_is_room) (fnBody s_is_room) (fnScope s_is_room) .none kV_is_room dc_is_room pm_is_room an_is_room cd_is_room ct_is_room), sl_is_room⟩)
    (hc_is_room : PySem.W.codeIn K cd_is_room "_is_room" = true)
    (hk_is_room : PySem.W.keepIn K (.ref f_is_room) = true)
    (ha_shared : PySem.W.nsIn K mainGlobals "_shared" = some (some (.ref f_shared)))
    (hl_shared : K.lookup f_shared = some ⟨oc_shared, od_shared, .func (PySem.W.fnOf "_shared" "_shared" (fnArgs s_shared) (fnBody s_shared) (fnScope s_shared) .none kV_shared dc_shared pm_shared an_shared cd_shared ct_shared), sl_shared⟩)
    (hc_shared : PySem.W.codeIn K cd_shared "_shared" = true)
    (hk_shared : PySem.W.keepIn K (.ref f_shared) = true)
    (ha_law_state : PySem.W.nsIn K mainGlobals "_law_state" = some (some (.ref f_law_state)))
    (hl_law_state : K.lookup f_law_state = some ⟨oc_law_state, od_law_state, .func (PySem.W.fnOf "_law_state" "_law_state" (fnArgs s_law_state) (fnBody s_law_state) (fnScope s_law_state) .none kV_law_state dc_law_state pm_law_state an_law_state cd_law_state ct_law_state), sl_law_state⟩)
    (hc_law_state : PySem.W.codeIn K cd_law_state "_law_state" = true)
    (hk_law_state : PySem.W.keepIn K (.ref f_law_state) = true)
    (ha_law_draw : PySem.W.nsIn K mainGlobals "_law_draw" = some (some (.ref f_law_draw)))
    (hl_law_draw : K.lookup f_law_draw = some ⟨oc_law_draw, od_law_draw, .func (PySem.W.fnOf "_law_draw" "_law_draw" (fnArgs s_law_draw) (fnBody s_law_draw) (fnScope s_law_draw) .none kV_law_draw dc_law_draw pm_law_draw an_law_draw cd_law_draw ct_law_draw), sl_law_draw⟩)
    (hc_law_draw : PySem.W.codeIn K cd_law_draw "_law_draw" = true)
    (hk_law_draw : PySem.W.keepIn K (.ref f_law_draw) = true)
    (ha_law_names : PySem.W.nsIn K mainGlobals "_law_names" = some (some (.ref f_law_names)))
    (hl_law_names : K.lookup f_law_names = some ⟨oc_law_names, od_law_names, .func (PySem.W.fnOf "_law_names" "_law_names" (fnArgs s_law_names) (fnBody s_law_names) (fnScope s_law_names) .none kV_law_names dc_law_names pm_law_names an_law_names cd_law_names ct_law_names), sl_law_names⟩)
    (hc_law_names : PySem.W.codeIn K cd_law_names "_law_names" = true)
    (hk_law_names : PySem.W.keepIn K (.ref f_law_names) = true)
    (ha_law_mixed : PySem.W.nsIn K mainGlobals "_law_mixed" = some (some (.ref f_law_mixed)))
    (hl_law_mixed : K.lookup f_law_mixed = some ⟨oc_law_mixed, od_law_mixed, .func (PySem.W.fnOf "_law_mixed" "_law_mixed" (fnArgs s_law_mixed) (fnBody s_law_mixed) (fnScope s_law_mixed) .none kV_law_mixed dc_law_mixed pm_law_mixed an_law_mixed cd_law_mixed ct_law_mixed), sl_law_mixed⟩)
    (hc_law_mixed : PySem.W.codeIn K cd_law_mixed "_law_mixed" = true)
    (hk_law_mixed : PySem.W.keepIn K (.ref f_law_mixed) = true)
    (ha_law_rooms : PySem.W.nsIn K mainGlobals "_law_rooms" = some (some (.ref f_law_rooms)))
    (hl_law_rooms : K.lookup f_law_rooms = some ⟨oc_law_rooms, od_law_rooms, .func (PySem.W.fnOf "_law_rooms" "_law_rooms" (fnArgs s_law_rooms) (fnBody s_law_rooms) (fnScope s_law_rooms) .none kV_law_rooms dc_law_rooms pm_law_rooms an_law_rooms cd_law_rooms ct_law_rooms), sl_law_rooms⟩)
    (hc_law_rooms : PySem.W.codeIn K cd_law_rooms "_law_rooms" = true)
    (hk_law_rooms : PySem.W.keepIn K (.ref f_law_rooms) = true)
    (ha_law_told : PySem.W.nsIn K mainGlobals "_law_told" = some (some (.ref f_law_told)))
    (hl_law_told : K.lookup f_law_told = some ⟨oc_law_told, od_law_told, .func (PySem.W.fnOf "_law_told" "_law_told" (fnArgs s_law_told) (fnBody s_law_told) (fnScope s_law_told) .none kV_law_told dc_law_told pm_law_told an_law_told cd_law_told ct_law_told), sl_law_told⟩)
    (hc_law_told : PySem.W.codeIn K cd_law_told "_law_told" = true)
    (hk_law_told : PySem.W.keepIn K (.ref f_law_told) = true)
    (ha_law_crossed : PySem.W.nsIn K mainGlobals "_law_crossed" = some (some (.ref f_law_crossed)))
    (hl_law_crossed : K.lookup f_law_crossed = some ⟨oc_law_crossed, od_law_crossed, .func (PySem.W.fnOf "_law_crossed" "_law_crossed" (fnArgs s_law_crossed) (fnBody s_law_crossed) (fnScope s_law_crossed) .none kV_law_crossed dc_law_crossed pm_law_crossed an_law_crossed cd_law_crossed ct_law_crossed), sl_law_crossed⟩)
    (hc_law_crossed : PySem.W.codeIn K cd_law_crossed "_law_crossed" = true)
    (hk_law_crossed : PySem.W.keepIn K (.ref f_law_crossed) = true)
    (ha_law_wrong_room : PySem.W.nsIn K mainGlobals "_law_wrong_room" = some (some (.ref f_law_wrong_room)))
    (hl_law_wrong_room : K.lookup f_law_wrong_room = some ⟨oc_law_wrong_room, od_law_wrong_room, .func (PySem.W.fnOf "_law_wrong_room" "_law_wrong_room" (fnArgs s_law_wrong_room) (fnBody s_law_wrong_room) (fnScope s_law_wrong_room) .none kV_law_wrong_room dc_law_wrong_room pm_law_wrong_room an_law_wrong_room cd_law_wrong_room ct_law_wrong_room), sl_law_wrong_room⟩)
    (hc_law_wrong_room : PySem.W.codeIn K cd_law_wrong_room "_law_wrong_room" = true)
    (hk_law_wrong_room : PySem.W.keepIn K (.ref f_law_wrong_room) = true)
    (ha_law_refused : PySem.W.nsIn K mainGlobals "_law_refused" = some (some (.ref f_law_refused)))
    (hl_law_refused : K.lookup f_law_refused = some ⟨oc_law_refused, od_law_refused, .func (PySem.W.fnOf "_law_refused" "_law_refused" (fnArgs s_law_refused) (fnBody s_law_refused) (fnScope s_law_refused) .none kV_law_refused dc_law_refused pm_law_refused an_law_refused cd_law_refused ct_law_refused), sl_law_refused⟩)
    (hc_law_refused : PySem.W.codeIn K cd_law_refused "_law_refused" = true)
    (hk_law_refused : PySem.W.keepIn K (.ref f_law_refused) = true)
    (ha_law : PySem.W.nsIn K mainGlobals "law" = some (some (.ref f_law)))
    (hl_law : K.lookup f_law = some ⟨oc_law, od_law, .func (PySem.W.fnOf "law" "law" (fnArgs s_law) (fnBody s_law) (fnScope s_law) .none kV_law dc_law pm_law an_law cd_law ct_law), sl_law⟩)
    (hc_law : PySem.W.codeIn K cd_law "law" = true)
    (hk_law : PySem.W.keepIn K (.ref f_law) = true)
    (pg_Counts : PySem.W.plainGet K C_Counts Str.empty = true)
    (hd_Counts : PySem.W.hasDictIn K C_Counts = true)
    (po_Counts : PySem.W.plainOver K C_Counts = true)
    (sa_Counts : PySem.W.findIn K (.ref C_Counts) "__setattr__" = some (some (.builtin "object.__setattr__")))
    (mk_Counts : PySem.W.makesIn K C_Counts = true)
    (kc_Counts : PySem.W.keepIn K (.ref C_Counts) = true)
    (na_Counts__things : PySem.W.findIn K (.ref C_Counts) "_things" = some none)
    (na_Counts__rooms : PySem.W.findIn K (.ref C_Counts) "_rooms" = some none)
    (wc_Counts : PySem.W.findIn K (.ref C_Counts) "__class__" = some (some (.builtin "object.__class__")))
    (wg_Counts : PySem.W.specialIn K (.builtin "object.__class__") "__get__" = some (some (.builtin "getset_descriptor.__get__")))
    (wt_Counts : PySem.W.takesIn K (.builtin "object.__class__") = some true)
    (wm_Counts : PySem.W.mroIn K C_Counts (.type "object") = some true)
    (xo_Counts : K.lookup C_Counts = some (excClassObj nm_Counts qn_Counts C_Counts NS_Counts bs_Counts [.type "object"] hd2_Counts sn_Counts sub_Counts ab_Counts col_Counts dd_Counts k0_Counts k1_Counts k2_Counts k3_Counts k5_Counts ni_Counts))
    (xe_Counts : PySem.W.findIn K (.ref C_Counts) "__ne__" = some (some (.builtin "object.__ne__")))
    (xL_BadThings : K.lookup C_BadThings = some (excClassObj nm_BadThings qn_BadThings C_BadThings NS_BadThings bs_BadThings [.ref C_LotError, .type "ValueError", .type "Exception", .type "BaseException", .type "object"] true sn_BadThings sub_BadThings ab_BadThings col_BadThings dd_BadThings k0_BadThings k1_BadThings k2_BadThings k3_BadThings k5_BadThings "ValueError.__new__"))
    (xs_BadThings : PySem.W.findIn K (.ref C_BadThings) "__setattr__" = some (some (.builtin "object.__setattr__")))
    (xb_BadThings : PySem.W.subIn K (.ref C_BadThings) (.type "BaseException") = some true)
    (xt_BadThings : PySem.W.typeIn K (.ref C_BadThings) = some (.type "type"))
    (xk_BadThings : PySem.W.keepIn K (.ref C_BadThings) = true)
    (xg_BadThings : PySem.W.findIn K (.ref C_BadThings) "__getattribute__" = some (some (.builtin "BaseException.__getattribute__")))
    (xn_BadThings : PySem.W.findIn K (.ref C_BadThings) "__getattr__" = some none)
    (xd_BadThings : PySem.W.hasDictIn K C_BadThings = true)
    (nx_BadThings_index : PySem.W.findIn K (.ref C_BadThings) "index" = some none)
    (xL_BadRooms : K.lookup C_BadRooms = some (excClassObj nm_BadRooms qn_BadRooms C_BadRooms NS_BadRooms bs_BadRooms [.ref C_LotError, .type "ValueError", .type "Exception", .type "BaseException", .type "object"] true sn_BadRooms sub_BadRooms ab_BadRooms col_BadRooms dd_BadRooms k0_BadRooms k1_BadRooms k2_BadRooms k3_BadRooms k5_BadRooms "ValueError.__new__"))
    (xs_BadRooms : PySem.W.findIn K (.ref C_BadRooms) "__setattr__" = some (some (.builtin "object.__setattr__")))
    (xb_BadRooms : PySem.W.subIn K (.ref C_BadRooms) (.type "BaseException") = some true)
    (xt_BadRooms : PySem.W.typeIn K (.ref C_BadRooms) = some (.type "type"))
    (xk_BadRooms : PySem.W.keepIn K (.ref C_BadRooms) = true)
    (xg_BadRooms : PySem.W.findIn K (.ref C_BadRooms) "__getattribute__" = some (some (.builtin "BaseException.__getattribute__")))
    (xn_BadRooms : PySem.W.findIn K (.ref C_BadRooms) "__getattr__" = some none)
    (xd_BadRooms : PySem.W.hasDictIn K C_BadRooms = true)
    (nx_BadRooms_index : PySem.W.findIn K (.ref C_BadRooms) "index" = some none)
    (xL_CrossedRooms : K.lookup C_CrossedRooms = some (excClassObj nm_CrossedRooms qn_CrossedRooms C_CrossedRooms NS_CrossedRooms bs_CrossedRooms [.ref C_LotError, .type "ValueError", .type "Exception", .type "BaseException", .type "object"] true sn_CrossedRooms sub_CrossedRooms ab_CrossedRooms col_CrossedRooms dd_CrossedRooms k0_CrossedRooms k1_CrossedRooms k2_CrossedRooms k3_CrossedRooms k5_CrossedRooms "ValueError.__new__"))
    (xs_CrossedRooms : PySem.W.findIn K (.ref C_CrossedRooms) "__setattr__" = some (some (.builtin "object.__setattr__")))
    (xb_CrossedRooms : PySem.W.subIn K (.ref C_CrossedRooms) (.type "BaseException") = some true)
    (xt_CrossedRooms : PySem.W.typeIn K (.ref C_CrossedRooms) = some (.type "type"))
    (xk_CrossedRooms : PySem.W.keepIn K (.ref C_CrossedRooms) = true)
    (xg_CrossedRooms : PySem.W.findIn K (.ref C_CrossedRooms) "__getattribute__" = some (some (.builtin "BaseException.__getattribute__")))
    (xn_CrossedRooms : PySem.W.findIn K (.ref C_CrossedRooms) "__getattr__" = some none)
    (xd_CrossedRooms : PySem.W.hasDictIn K C_CrossedRooms = true)
    (nx_CrossedRooms_one : PySem.W.findIn K (.ref C_CrossedRooms) "one" = some none)
    (nx_CrossedRooms_other : PySem.W.findIn K (.ref C_CrossedRooms) "other" = some none)
    (ic_BadThings : PySem.W.isClsIn K C_BadThings = true)
    (yt_BadThings : PySem.W.typeIn K (.ref C_BadThings) = some (.type "type"))
    (sb_BadThings_BadThings : PySem.W.subIn K (.ref C_BadThings) (.ref C_BadThings) = some true)
    (sb_BadRooms_BadThings : PySem.W.subIn K (.ref C_BadRooms) (.ref C_BadThings) = some false)
    (ic_BadRooms : PySem.W.isClsIn K C_BadRooms = true)
    (yt_BadRooms : PySem.W.typeIn K (.ref C_BadRooms) = some (.type "type"))
    (sb_BadRooms_BadRooms : PySem.W.subIn K (.ref C_BadRooms) (.ref C_BadRooms) = some true)
    (sb_CrossedRooms_BadThings : PySem.W.subIn K (.ref C_CrossedRooms) (.ref C_BadThings) = some false)
    (sb_CrossedRooms_BadRooms : PySem.W.subIn K (.ref C_CrossedRooms) (.ref C_BadRooms) = some false)
    (ic_CrossedRooms : PySem.W.isClsIn K C_CrossedRooms = true)
    (yt_CrossedRooms : PySem.W.typeIn K (.ref C_CrossedRooms) = some (.type "type"))
    (sb_CrossedRooms_CrossedRooms : PySem.W.subIn K (.ref C_CrossedRooms) (.ref C_CrossedRooms) = some true)
    (ic_Counts : PySem.W.isClsIn K C_Counts = true)
    (yt_Counts : PySem.W.typeIn K (.ref C_Counts) = some (.type "type"))
    (sb_int_Counts : PySem.W.subIn K (.type "int") (.ref C_Counts) = some false)
    (sb_list_Counts : PySem.W.subIn K (.type "list") (.ref C_Counts) = some false)
    (z_all : PySem.W.nsIn K mainGlobals "all" = some none)
    (z_bool : PySem.W.nsIn K mainGlobals "bool" = some none)
    (z_enumerate : PySem.W.nsIn K mainGlobals "enumerate" = some none)
    (z_int : PySem.W.nsIn K mainGlobals "int" = some none)
    (z_isinstance : PySem.W.nsIn K mainGlobals "isinstance" = some none)
    (z_len : PySem.W.nsIn K mainGlobals "len" = some none)
    (z_list : PySem.W.nsIn K mainGlobals "list" = some none)
    (z_min : PySem.W.nsIn K mainGlobals "min" = some none)
    (z_range : PySem.W.nsIn K mainGlobals "range" = some none)
    (z_set : PySem.W.nsIn K mainGlobals "set" = some none)
    (z_sorted : PySem.W.nsIn K mainGlobals "sorted" = some none)
    (z_str : PySem.W.nsIn K mainGlobals "str" = some none)
    (z_tuple : PySem.W.nsIn K mainGlobals "tuple" = some none)
    (g_LONGEST_NAME : PySem.W.nsIn K mainGlobals "LONGEST_NAME" = some (some (.int 8 tk_LONGEST_NAME)))
    (g_MOST_THINGS : PySem.W.nsIn K mainGlobals "MOST_THINGS" = some (some (.int 24 tk_MOST_THINGS)))
    (g_MOST_ROOMS : PySem.W.nsIn K mainGlobals "MOST_ROOMS" = some (some (.int 60 tk_MOST_ROOMS)))
    : ∃ A : Ad, Txt K mg A ∧ (∀ (s : Shared) (u : Value), BindsTo s A.fd_law ⟨[u], []⟩ [("script", u)]) ∧ A.fd_is_lot.code = cd_is_lot :=
  ⟨{ C_LotError := C_LotError, C_BadThings := C_BadThings, C_BadRooms := C_BadRooms, C_CrossedRooms := C_CrossedRooms, C_Counts := C_Counts, f_BadThings__init := f_BadThings__init, fd_BadThings__init := (PySem.W.fnOf "__init__" "BadThings.__init__" (fnArgs s_BadThings__init) (fnBody s_BadThings__init) (fnScope s_BadThings__init) .none kV_BadThings__init dc_BadThings__init pm_BadThings__init an_BadThings__init cd_BadThings__init ct_BadThings__init), f_BadRooms__init := f_BadRooms__init, fd_BadRooms__init := (PySem.W.fnOf "__init__" "BadRooms.__init__" (fnArgs s_BadRooms__init) (fnBody s_BadRooms__init) (fnScope s_BadRooms__init) .none kV_BadRooms__init dc_BadRooms__init pm_BadRooms__init an_BadRooms__init cd_BadRooms__init ct_BadRooms__init), f_CrossedRooms__init := f_CrossedRooms__init, fd_CrossedRooms__init := (PySem.W.fnOf "__init__" "CrossedRooms.__init__" (fnArgs s_CrossedRooms__init) (fnBody s_CrossedRooms__init) (fnScope s_CrossedRooms__init) .none kV_CrossedRooms__init dc_CrossedRooms__init pm_CrossedRooms__init an_CrossedRooms__init cd_CrossedRooms__init ct_CrossedRooms__init), f_is_integer := f_is_integer, fd_is_integer := (PySem.W.fnOf "is_integer" "is_integer" (fnArgs s_is_integer) (fnBody s_is_integer) (fnScope s_is_integer) .none kV_is_integer dc_is_integer pm_is_integer an_is_integer cd_is_integer ct_is_integer), f_is_name := f_is_name, fd_is_name := (PySem.W.fnOf "is_name" "is_name" (fnArgs s_is_name) (fnBody s_is_name) (fnScope s_is_name) .none kV_is_name dc_is_name pm_is_name an_is_name cd_is_name ct_is_name), f_first_wrong := f_first_wrong, fd_first_wrong := (PySem.W.fnOf "first_wrong" "first_wrong" (fnArgs s_first_wrong) (fnBody s_first_wrong) (fnScope s_first_wrong) .none kV_first_wrong dc_first_wrong pm_first_wrong an_first_wrong cd_first_wrong ct_first_wrong), f_sorted_things := f_sorted_things, fd_sorted_things := (PySem.W.fnOf "sorted_things" "sorted_things" (fnArgs s_sorted_things) (fnBody s_sorted_things) (fnScope s_sorted_things) .none kV_sorted_things dc_sorted_things pm_sorted_things an_sorted_things cd_sorted_things ct_sorted_things), f_is_lot := f_is_lot, fd_is_lot := (PySem.W.fnOf "is_lot" "is_lot" (fnArgs s_is_lot) (fnBody s_is_lot) (fnScope s_is_lot) .none kV_is_lot dc_is_lot pm_is_lot an_is_lot cd_is_lot ct_is_lot), f_Counts__init := f_Counts__init, fd_Counts__init := (PySem.W.fnOf "__init__" "Counts.__init__" (fnArgs s_Counts__init) (fnBody s_Counts__init) (fnScope s_Counts__init) .none kV_Counts__init dc_Counts__init pm_Counts__init an_Counts__init cd_Counts__init ct_Counts__init), f_Counts_things := f_Counts_things, fd_Counts_things := (PySem.W.fnOf "things" "Counts.things" (fnArgs s_Counts_things) (fnBody s_Counts_things) (fnScope s_Counts_things) .none kV_Counts_things dc_Counts_things pm_Counts_things an_Counts_things cd_Counts_things ct_Counts_things), f_Counts_rooms := f_Counts_rooms, fd_Counts_rooms := (PySem.W.fnOf "rooms" "Counts.rooms" (fnArgs s_Counts_rooms) (fnBody s_Counts_rooms) (fnScope s_Counts_rooms) .none kV_Counts_rooms dc_Counts_rooms pm_Counts_rooms an_Counts_rooms cd_Counts_rooms ct_Counts_rooms), f_Counts__eq := f_Counts__eq, fd_Counts__eq := (PySem.W.fnOf "__eq__" "Counts.__eq__" (fnArgs s_Counts__eq) (fnBody s_Counts__eq) (fnScope s_Counts__eq) .none kV_Counts__eq dc_Counts__eq pm_Counts__eq an_Counts__eq cd_Counts__eq ct_Counts__eq), f_checked_rooms := f_checked_rooms, fd_checked_rooms := (PySem.W.fnOf "_checked_rooms" "_checked_rooms" (fnArgs s_checked_rooms) (fnBody s_checked_rooms) (fnScope s_checked_rooms) .none kV_checked_rooms dc_checked_rooms pm_checked_rooms an_checked_rooms cd_checked_rooms ct_checked_rooms), f_are_crossed := f_are_crossed, fd_are_crossed := (PySem.W.fnOf "are_crossed" "are_crossed" (fnArgs s_are_crossed) (fnBody s_are_crossed) (fnScope s_are_crossed) .none kV_are_crossed dc_are_crossed pm_are_crossed an_are_crossed cd_are_crossed ct_are_crossed), f_is_room := f_is_room, fd_is_room := (PySem.W.fnOf "_is_room" "_is_room" (fnArgs s_is_room) (fnBody s_is_room) (fnScope s_is_room) .none kV_is_room dc_is_room pm_is_room an_is_room cd_is_room ct_is_room), f_shared := f_shared, fd_shared := (PySem.W.fnOf "_shared" "_shared" (fnArgs s_shared) (fnBody s_shared) (fnScope s_shared) .none kV_shared dc_shared pm_shared an_shared cd_shared ct_shared), f_law_state := f_law_state, fd_law_state := (PySem.W.fnOf "_law_state" "_law_state" (fnArgs s_law_state) (fnBody s_law_state) (fnScope s_law_state) .none kV_law_state dc_law_state pm_law_state an_law_state cd_law_state ct_law_state), f_law_draw := f_law_draw, fd_law_draw := (PySem.W.fnOf "_law_draw" "_law_draw" (fnArgs s_law_draw) (fnBody s_law_draw) (fnScope s_law_draw) .none kV_law_draw dc_law_draw pm_law_draw an_law_draw cd_law_draw ct_law_draw), f_law_names := f_law_names, fd_law_names := (PySem.W.fnOf "_law_names" "_law_names" (fnArgs s_law_names) (fnBody s_law_names) (fnScope s_law_names) .none kV_law_names dc_law_names pm_law_names an_law_names cd_law_names ct_law_names), f_law_mixed := f_law_mixed, fd_law_mixed := (PySem.W.fnOf "_law_mixed" "_law_mixed" (fnArgs s_law_mixed) (fnBody s_law_mixed) (fnScope s_law_mixed) .none kV_law_mixed dc_law_mixed pm_law_mixed an_law_mixed cd_law_mixed ct_law_mixed), f_law_rooms := f_law_rooms, fd_law_rooms := (PySem.W.fnOf "_law_rooms" "_law_rooms" (fnArgs s_law_rooms) (fnBody s_law_rooms) (fnScope s_law_rooms) .none kV_law_rooms dc_law_rooms pm_law_rooms an_law_rooms cd_law_rooms ct_law_rooms), f_law_told := f_law_told, fd_law_told := (PySem.W.fnOf "_law_told" "_law_told" (fnArgs s_law_told) (fnBody s_law_told) (fnScope s_law_told) .none kV_law_told dc_law_told pm_law_told an_law_told cd_law_told ct_law_told), f_law_crossed := f_law_crossed, fd_law_crossed := (PySem.W.fnOf "_law_crossed" "_law_crossed" (fnArgs s_law_crossed) (fnBody s_law_crossed) (fnScope s_law_crossed) .none kV_law_crossed dc_law_crossed pm_law_crossed an_law_crossed cd_law_crossed ct_law_crossed), f_law_wrong_room := f_law_wrong_room, fd_law_wrong_room := (PySem.W.fnOf "_law_wrong_room" "_law_wrong_room" (fnArgs s_law_wrong_room) (fnBody s_law_wrong_room) (fnScope s_law_wrong_room) .none kV_law_wrong_room dc_law_wrong_room pm_law_wrong_room an_law_wrong_room cd_law_wrong_room ct_law_wrong_room), f_law_refused := f_law_refused, fd_law_refused := (PySem.W.fnOf "_law_refused" "_law_refused" (fnArgs s_law_refused) (fnBody s_law_refused) (fnScope s_law_refused) .none kV_law_refused dc_law_refused pm_law_refused an_law_refused cd_law_refused ct_law_refused), f_law := f_law, fd_law := (PySem.W.fnOf "law" "law" (fnArgs s_law) (fnBody s_law) (fnScope s_law) .none kV_law dc_law pm_law an_law cd_law ct_law) },
  { gC_LotError := PySem.W.mg_of X G hgC_LotError,
    gC_BadThings := PySem.W.mg_of X G hgC_BadThings,
    gC_BadRooms := PySem.W.mg_of X G hgC_BadRooms,
    gC_CrossedRooms := PySem.W.mg_of X G hgC_CrossedRooms,
    gC_Counts := PySem.W.mg_of X G hgC_Counts,
    u_BadThings__init := ⟨⟨oc_BadThings__init, od_BadThings__init, .none, kV_BadThings__init, dc_BadThings__init, pm_BadThings__init, an_BadThings__init, cd_BadThings__init, ct_BadThings__init, sl_BadThings__init, rfl, hl_BadThings__init, hc_BadThings__init⟩⟩,
    fi_BadThings__init := ha_BadThings__init,
    fn_BadThings__init := hi_BadThings__init,
    kp_BadThings__init := hk_BadThings__init,
    b_BadThings__init := C8.Fun.binds (st := s_BadThings__init) ⟨⟨oc_BadThings__init, od_BadThings__init, .none, kV_BadThings__init, dc_BadThings__init, pm_BadThings__init, an_BadThings__init, cd_BadThings__init, ct_BadThings__init, sl_BadThings__init, rfl, hl_BadThings__init, hc_BadThings__init⟩⟩ rfl (ps := ["self", "index"]) fun _ _ _ _ _ _ us hl => match us, hl with | [_, _], _ => rfl,
    u_BadRooms__init := ⟨⟨oc_BadRooms__init, od_BadRooms__init, .none, kV_BadRooms__init, dc_BadRooms__init, pm_BadRooms__init, an_BadRooms__init, cd_BadRooms__init, ct_BadRooms__init, sl_BadRooms__init, rfl, hl_BadRooms__init, hc_BadRooms__init⟩⟩,
    fi_BadRooms__init := ha_BadRooms__init,
    fn_BadRooms__init := hi_BadRooms__init,
    kp_BadRooms__init := hk_BadRooms__init,
    b_BadRooms__init := C8.Fun.binds (st := s_BadRooms__init) ⟨⟨oc_BadRooms__init, od_BadRooms__init, .none, kV_BadRooms__init, dc_BadRooms__init, pm_BadRooms__init, an_BadRooms__init, cd_BadRooms__init, ct_BadRooms__init, sl_BadRooms__init, rfl, hl_BadRooms__init, hc_BadRooms__init⟩⟩ rfl (ps := ["self", "index"]) fun _ _ _ _ _ _ us hl => match us, hl with | [_, _], _ => rfl,
    u_CrossedRooms__init := ⟨⟨oc_CrossedRooms__init, od_CrossedRooms__init, .none, kV_CrossedRooms__init, dc_CrossedRooms__init, pm_CrossedRooms__init, an_CrossedRooms__init, cd_CrossedRooms__init, ct_CrossedRooms__init, sl_CrossedRooms__init, rfl, hl_CrossedRooms__init, hc_CrossedRooms__init⟩⟩,
    fi_CrossedRooms__init := ha_CrossedRooms__init,
    fn_CrossedRooms__init := hi_CrossedRooms__init,
    kp_CrossedRooms__init := hk_CrossedRooms__init,
    b_CrossedRooms__init := C8.Fun.binds (st := s_CrossedRooms__init) ⟨⟨oc_CrossedRooms__init, od_CrossedRooms__init, .none, kV_CrossedRooms__init, dc_CrossedRooms__init, pm_CrossedRooms__init, an_CrossedRooms__init, cd_CrossedRooms__init, ct_CrossedRooms__init, sl_CrossedRooms__init, rfl, hl_CrossedRooms__init, hc_CrossedRooms__init⟩⟩ rfl (ps := ["self", "one", "other"]) fun _ _ _ _ _ _ us hl => match us, hl with | [_, _, _], _ => rfl,
    d_is_integer := ⟨⟨⟨oc_is_integer, od_is_integer, .none, kV_is_integer, dc_is_integer, pm_is_integer, an_is_integer, cd_is_integer, ct_is_integer, sl_is_integer, rfl, hl_is_integer, hc_is_integer⟩⟩, PySem.W.mg_of X G ha_is_integer, hk_is_integer⟩,
    b_is_integer := C8.Fun.binds (st := s_is_integer) ⟨⟨oc_is_integer, od_is_integer, .none, kV_is_integer, dc_is_integer, pm_is_integer, an_is_integer, cd_is_integer, ct_is_integer, sl_is_integer, rfl, hl_is_integer, hc_is_integer⟩⟩ rfl (ps := ["value"]) fun _ _ _ _ _ _ us hl => match us, hl with | [_], _ => rfl,
    d_is_name := ⟨⟨⟨oc_is_name, od_is_name, .none, kV_is_name, dc_is_name, pm_is_name, an_is_name, cd_is_name, ct_is_name, sl_is_name, rfl, hl_is_name, hc_is_name⟩⟩, PySem.W.mg_of X G ha_is_name, hk_is_name⟩,
    b_is_name := C8.Fun.binds (st := s_is_name) ⟨⟨oc_is_name, od_is_name, .none, kV_is_name, dc_is_name, pm_is_name, an_is_name, cd_is_name, ct_is_name, sl_is_name, rfl, hl_is_name, hc_is_name⟩⟩ rfl (ps := ["value"]) fun _ _ _ _ _ _ us hl => match us, hl with | [_], _ => rfl,
    d_first_wrong := ⟨⟨⟨oc_first_wrong, od_first_wrong, .none, kV_first_wrong, dc_first_wrong, pm_first_wrong, an_first_wrong, cd_first_wrong, ct_first_wrong, sl_first_wrong, rfl, hl_first_wrong, hc_first_wrong⟩⟩, PySem.W.mg_of X G ha_first_wrong, hk_first_wrong⟩,
    b_first_wrong := C8.Fun.binds (st := s_first_wrong) ⟨⟨oc_first_wrong, od_first_wrong, .none, kV_first_wrong, dc_first_wrong, pm_first_wrong, an_first_wrong, cd_first_wrong, ct_first_wrong, sl_first_wrong, rfl, hl_first_wrong, hc_first_wrong⟩⟩ rfl (ps := ["entries", "fits"]) fun _ _ _ _ _ _ us hl => match us, hl with | [_, _], _ => rfl,
    d_sorted_things := ⟨⟨⟨oc_sorted_things, od_sorted_things, .none, kV_sorted_things, dc_sorted_things, pm_sorted_things, an_sorted_things, cd_sorted_things, ct_sorted_things, sl_sorted_things, rfl, hl_sorted_things, hc_sorted_things⟩⟩, PySem.W.mg_of X G ha_sorted_things, hk_sorted_things⟩,
    b_sorted_things := C8.Fun.binds (st := s_sorted_things) ⟨⟨oc_sorted_things, od_sorted_things, .none, kV_sorted_things, dc_sorted_things, pm_sorted_things, an_sorted_things, cd_sorted_things, ct_sorted_things, sl_sorted_things, rfl, hl_sorted_things, hc_sorted_things⟩⟩ rfl (ps := ["things", "most"]) fun _ _ _ _ _ _ us hl => match us, hl with | [_, _], _ => rfl,
    d_is_lot := ⟨⟨⟨oc_is_lot, od_is_lot, .none, kV_is_lot, dc_is_lot, pm_is_lot, an_is_lot, cd_is_lot, ct_is_lot, sl_is_lot, rfl, hl_is_lot, hc_is_lot⟩⟩, PySem.W.mg_of X G ha_is_lot, hk_is_lot⟩,
    b_is_lot := C8.Fun.binds (st := s_is_lot) ⟨⟨oc_is_lot, od_is_lot, .none, kV_is_lot, dc_is_lot, pm_is_lot, an_is_lot, cd_is_lot, ct_is_lot, sl_is_lot, rfl, hl_is_lot, hc_is_lot⟩⟩ rfl (ps := ["value", "things"]) fun _ _ _ _ _ _ us hl => match us, hl with | [_, _], _ => rfl,
    u_Counts__init := ⟨⟨oc_Counts__init, od_Counts__init, .none, kV_Counts__init, dc_Counts__init, pm_Counts__init, an_Counts__init, cd_Counts__init, ct_Counts__init, sl_Counts__init, rfl, hl_Counts__init, hc_Counts__init⟩⟩,
    fi_Counts__init := ha_Counts__init,
    fn_Counts__init := hi_Counts__init,
    kp_Counts__init := hk_Counts__init,
    b_Counts__init := C8.Fun.binds (st := s_Counts__init) ⟨⟨oc_Counts__init, od_Counts__init, .none, kV_Counts__init, dc_Counts__init, pm_Counts__init, an_Counts__init, cd_Counts__init, ct_Counts__init, sl_Counts__init, rfl, hl_Counts__init, hc_Counts__init⟩⟩ rfl (ps := ["self", "things", "rooms"]) fun _ _ _ _ _ _ us hl => match us, hl with | [_, _, _], _ => rfl,
    u_Counts_things := ⟨⟨oc_Counts_things, od_Counts_things, .none, kV_Counts_things, dc_Counts_things, pm_Counts_things, an_Counts_things, cd_Counts_things, ct_Counts_things, sl_Counts_things, rfl, hl_Counts_things, hc_Counts_things⟩⟩,
    fi_Counts_things := ha_Counts_things,
    fn_Counts_things := hi_Counts_things,
    kp_Counts_things := hk_Counts_things,
    b_Counts_things := C8.Fun.binds (st := s_Counts_things) ⟨⟨oc_Counts_things, od_Counts_things, .none, kV_Counts_things, dc_Counts_things, pm_Counts_things, an_Counts_things, cd_Counts_things, ct_Counts_things, sl_Counts_things, rfl, hl_Counts_things, hc_Counts_things⟩⟩ rfl (ps := ["self"]) fun _ _ _ _ _ _ us hl => match us, hl with | [_], _ => rfl,
    u_Counts_rooms := ⟨⟨oc_Counts_rooms, od_Counts_rooms, .none, kV_Counts_rooms, dc_Counts_rooms, pm_Counts_rooms, an_Counts_rooms, cd_Counts_rooms, ct_Counts_rooms, sl_Counts_rooms, rfl, hl_Counts_rooms, hc_Counts_rooms⟩⟩,
    fi_Counts_rooms := ha_Counts_rooms,
    fn_Counts_rooms := hi_Counts_rooms,
    kp_Counts_rooms := hk_Counts_rooms,
    b_Counts_rooms := C8.Fun.binds (st := s_Counts_rooms) ⟨⟨oc_Counts_rooms, od_Counts_rooms, .none, kV_Counts_rooms, dc_Counts_rooms, pm_Counts_rooms, an_Counts_rooms, cd_Counts_rooms, ct_Counts_rooms, sl_Counts_rooms, rfl, hl_Counts_rooms, hc_Counts_rooms⟩⟩ rfl (ps := ["self"]) fun _ _ _ _ _ _ us hl => match us, hl with | [_], _ => rfl,
    u_Counts__eq := ⟨⟨oc_Counts__eq, od_Counts__eq, .none, kV_Counts__eq, dc_Counts__eq, pm_Counts__eq, an_Counts__eq, cd_Counts__eq, ct_Counts__eq, sl_Counts__eq, rfl, hl_Counts__eq, hc_Counts__eq⟩⟩,
    fi_Counts__eq := ha_Counts__eq,
    fn_Counts__eq := hi_Counts__eq,
    kp_Counts__eq := hk_Counts__eq,
    b_Counts__eq := C8.Fun.binds (st := s_Counts__eq) ⟨⟨oc_Counts__eq, od_Counts__eq, .none, kV_Counts__eq, dc_Counts__eq, pm_Counts__eq, an_Counts__eq, cd_Counts__eq, ct_Counts__eq, sl_Counts__eq, rfl, hl_Counts__eq, hc_Counts__eq⟩⟩ rfl (ps := ["self", "other"]) fun _ _ _ _ _ _ us hl => match us, hl with | [_, _], _ => rfl,
    d_checked_rooms := ⟨⟨⟨oc_checked_rooms, od_checked_rooms, .none, kV_checked_rooms, dc_checked_rooms, pm_checked_rooms, an_checked_rooms, cd_checked_rooms, ct_checked_rooms, sl_checked_rooms, rfl, hl_checked_rooms, hc_checked_rooms⟩⟩, PySem.W.mg_of X G ha_checked_rooms, hk_checked_rooms⟩,
    b_checked_rooms := C8.Fun.binds (st := s_checked_rooms) ⟨⟨oc_checked_rooms, od_checked_rooms, .none, kV_checked_rooms, dc_checked_rooms, pm_checked_rooms, an_checked_rooms, cd_checked_rooms, ct_checked_rooms, sl_checked_rooms, rfl, hl_checked_rooms, hc_checked_rooms⟩⟩ rfl (ps := ["rooms", "things"]) fun _ _ _ _ _ _ us hl => match us, hl with | [_, _], _ => rfl,
    d_are_crossed := ⟨⟨⟨oc_are_crossed, od_are_crossed, .none, kV_are_crossed, dc_are_crossed, pm_are_crossed, an_are_crossed, cd_are_crossed, ct_are_crossed, sl_are_crossed, rfl, hl_are_crossed, hc_are_crossed⟩⟩, PySem.W.mg_of X G ha_are_crossed, hk_are_crossed⟩,
    b_are_crossed := C8.Fun.binds (st := s_are_crossed) ⟨⟨oc_are_crossed, od_are_crossed, .none, kV_are_crossed, dc_are_crossed, pm_are_crossed, an_are_crossed, cd_are_crossed, ct_are_crossed, sl_are_crossed, rfl, hl_are_crossed, hc_are_crossed⟩⟩ rfl (ps := ["lot", "other"]) fun _ _ _ _ _ _ us hl => match us, hl with | [_, _], _ => rfl,
    d_is_room := ⟨⟨⟨oc_is_room, od_is_room, .none, kV_is_room, dc_is_room, pm_is_room, an_is_room, cd_is_room, ct_is_room, sl_is_room, rfl, hl_is_room, hc_is_room⟩⟩, PySem.W.mg_of X G ha_is_room, hk_is_room⟩,
    b_is_room := C8.Fun.binds (st := s_is_room) ⟨⟨oc_is_room, od_is_room, .none, kV_is_room, dc_is_room, pm_is_room, an_is_room, cd_is_room, ct_is_room, sl_is_room, rfl, hl_is_room, hc_is_room⟩⟩ rfl (ps := ["value", "things"]) fun _ _ _ _ _ _ us hl => match us, hl with | [_, _], _ => rfl,
    d_shared := ⟨⟨⟨oc_shared, od_shared, .none, kV_shared, dc_shared, pm_shared, an_shared, cd_shared, ct_shared, sl_shared, rfl, hl_shared, hc_shared⟩⟩, PySem.W.mg_of X G ha_shared, hk_shared⟩,
    b_shared := C8.Fun.binds (st := s_shared) ⟨⟨oc_shared, od_shared, .none, kV_shared, dc_shared, pm_shared, an_shared, cd_shared, ct_shared, sl_shared, rfl, hl_shared, hc_shared⟩⟩ rfl (ps := ["room", "lot"]) fun _ _ _ _ _ _ us hl => match us, hl with | [_, _], _ => rfl,
    d_law_state := ⟨⟨⟨oc_law_state, od_law_state, .none, kV_law_state, dc_law_state, pm_law_state, an_law_state, cd_law_state, ct_law_state, sl_law_state, rfl, hl_law_state, hc_law_state⟩⟩, PySem.W.mg_of X G ha_law_state, hk_law_state⟩,
    b_law_state := C8.Fun.binds (st := s_law_state) ⟨⟨oc_law_state, od_law_state, .none, kV_law_state, dc_law_state, pm_law_state, an_law_state, cd_law_state, ct_law_state, sl_law_state, rfl, hl_law_state, hc_law_state⟩⟩ rfl (ps := ["script"]) fun _ _ _ _ _ _ us hl => match us, hl with | [_], _ => rfl,
    d_law_draw := ⟨⟨⟨oc_law_draw, od_law_draw, .none, kV_law_draw, dc_law_draw, pm_law_draw, an_law_draw, cd_law_draw, ct_law_draw, sl_law_draw, rfl, hl_law_draw, hc_law_draw⟩⟩, PySem.W.mg_of X G ha_law_draw, hk_law_draw⟩,
    b_law_draw := C8.Fun.binds (st := s_law_draw) ⟨⟨oc_law_draw, od_law_draw, .none, kV_law_draw, dc_law_draw, pm_law_draw, an_law_draw, cd_law_draw, ct_law_draw, sl_law_draw, rfl, hl_law_draw, hc_law_draw⟩⟩ rfl (ps := ["state", "many"]) fun _ _ _ _ _ _ us hl => match us, hl with | [_, _], _ => rfl,
    d_law_names := ⟨⟨⟨oc_law_names, od_law_names, .none, kV_law_names, dc_law_names, pm_law_names, an_law_names, cd_law_names, ct_law_names, sl_law_names, rfl, hl_law_names, hc_law_names⟩⟩, PySem.W.mg_of X G ha_law_names, hk_law_names⟩,
    b_law_names := C8.Fun.binds (st := s_law_names) ⟨⟨oc_law_names, od_law_names, .none, kV_law_names, dc_law_names, pm_law_names, an_law_names, cd_law_names, ct_law_names, sl_law_names, rfl, hl_law_names, hc_law_names⟩⟩ rfl (ps := ["state", "many"]) fun _ _ _ _ _ _ us hl => match us, hl with | [_, _], _ => rfl,
    d_law_mixed := ⟨⟨⟨oc_law_mixed, od_law_mixed, .none, kV_law_mixed, dc_law_mixed, pm_law_mixed, an_law_mixed, cd_law_mixed, ct_law_mixed, sl_law_mixed, rfl, hl_law_mixed, hc_law_mixed⟩⟩, PySem.W.mg_of X G ha_law_mixed, hk_law_mixed⟩,
    b_law_mixed := C8.Fun.binds (st := s_law_mixed) ⟨⟨oc_law_mixed, od_law_mixed, .none, kV_law_mixed, dc_law_mixed, pm_law_mixed, an_law_mixed, cd_law_mixed, ct_law_mixed, sl_law_mixed, rfl, hl_law_mixed, hc_law_mixed⟩⟩ rfl (ps := ["state", "items"]) fun _ _ _ _ _ _ us hl => match us, hl with | [_, _], _ => rfl,
    d_law_rooms := ⟨⟨⟨oc_law_rooms, od_law_rooms, .none, kV_law_rooms, dc_law_rooms, pm_law_rooms, an_law_rooms, cd_law_rooms, ct_law_rooms, sl_law_rooms, rfl, hl_law_rooms, hc_law_rooms⟩⟩, PySem.W.mg_of X G ha_law_rooms, hk_law_rooms⟩,
    b_law_rooms := C8.Fun.binds (st := s_law_rooms) ⟨⟨oc_law_rooms, od_law_rooms, .none, kV_law_rooms, dc_law_rooms, pm_law_rooms, an_law_rooms, cd_law_rooms, ct_law_rooms, sl_law_rooms, rfl, hl_law_rooms, hc_law_rooms⟩⟩ rfl (ps := ["state", "things", "deep"]) fun _ _ _ _ _ _ us hl => match us, hl with | [_, _, _], _ => rfl,
    d_law_told := ⟨⟨⟨oc_law_told, od_law_told, .none, kV_law_told, dc_law_told, pm_law_told, an_law_told, cd_law_told, ct_law_told, sl_law_told, rfl, hl_law_told, hc_law_told⟩⟩, PySem.W.mg_of X G ha_law_told, hk_law_told⟩,
    b_law_told := C8.Fun.binds (st := s_law_told) ⟨⟨oc_law_told, od_law_told, .none, kV_law_told, dc_law_told, pm_law_told, an_law_told, cd_law_told, ct_law_told, sl_law_told, rfl, hl_law_told, hc_law_told⟩⟩ rfl (ps := ["things", "rooms"]) fun _ _ _ _ _ _ us hl => match us, hl with | [_, _], _ => rfl,
    d_law_crossed := ⟨⟨⟨oc_law_crossed, od_law_crossed, .none, kV_law_crossed, dc_law_crossed, pm_law_crossed, an_law_crossed, cd_law_crossed, ct_law_crossed, sl_law_crossed, rfl, hl_law_crossed, hc_law_crossed⟩⟩, PySem.W.mg_of X G ha_law_crossed, hk_law_crossed⟩,
    b_law_crossed := C8.Fun.binds (st := s_law_crossed) ⟨⟨oc_law_crossed, od_law_crossed, .none, kV_law_crossed, dc_law_crossed, pm_law_crossed, an_law_crossed, cd_law_crossed, ct_law_crossed, sl_law_crossed, rfl, hl_law_crossed, hc_law_crossed⟩⟩ rfl (ps := ["rooms"]) fun _ _ _ _ _ _ us hl => match us, hl with | [_], _ => rfl,
    d_law_wrong_room := ⟨⟨⟨oc_law_wrong_room, od_law_wrong_room, .none, kV_law_wrong_room, dc_law_wrong_room, pm_law_wrong_room, an_law_wrong_room, cd_law_wrong_room, ct_law_wrong_room, sl_law_wrong_room, rfl, hl_law_wrong_room, hc_law_wrong_room⟩⟩, PySem.W.mg_of X G ha_law_wrong_room, hk_law_wrong_room⟩,
    b_law_wrong_room := C8.Fun.binds (st := s_law_wrong_room) ⟨⟨oc_law_wrong_room, od_law_wrong_room, .none, kV_law_wrong_room, dc_law_wrong_room, pm_law_wrong_room, an_law_wrong_room, cd_law_wrong_room, ct_law_wrong_room, sl_law_wrong_room, rfl, hl_law_wrong_room, hc_law_wrong_room⟩⟩ rfl (ps := ["state", "things"]) fun _ _ _ _ _ _ us hl => match us, hl with | [_, _], _ => rfl,
    d_law_refused := ⟨⟨⟨oc_law_refused, od_law_refused, .none, kV_law_refused, dc_law_refused, pm_law_refused, an_law_refused, cd_law_refused, ct_law_refused, sl_law_refused, rfl, hl_law_refused, hc_law_refused⟩⟩, PySem.W.mg_of X G ha_law_refused, hk_law_refused⟩,
    b_law_refused := C8.Fun.binds (st := s_law_refused) ⟨⟨oc_law_refused, od_law_refused, .none, kV_law_refused, dc_law_refused, pm_law_refused, an_law_refused, cd_law_refused, ct_law_refused, sl_law_refused, rfl, hl_law_refused, hc_law_refused⟩⟩ rfl (ps := ["state", "things", "rooms"]) fun _ _ _ _ _ _ us hl => match us, hl with | [_, _, _], _ => rfl,
    d_law := ⟨⟨⟨oc_law, od_law, .none, kV_law, dc_law, pm_law, an_law, cd_law, ct_law, sl_law, rfl, hl_law, hc_law⟩⟩, PySem.W.mg_of X G ha_law, hk_law⟩,
    b_law := C8.Fun.binds (st := s_law) ⟨⟨oc_law, od_law, .none, kV_law, dc_law, pm_law, an_law, cd_law, ct_law, sl_law, rfl, hl_law, hc_law⟩⟩ rfl (ps := ["script"]) fun _ _ _ _ _ _ us hl => match us, hl with | [_], _ => rfl,
    cl_Counts := ⟨pg_Counts, hd_Counts, po_Counts, sa_Counts⟩,
    mk_Counts := mk_Counts,
    kc_Counts := kc_Counts,
    na_Counts__things := na_Counts__things,
    na_Counts__rooms := na_Counts__rooms,
    wc_Counts := wc_Counts,
    wg_Counts := wg_Counts,
    wt_Counts := wt_Counts,
    wm_Counts := wm_Counts,
    wk_Counts := if_pos (by simp),
    nc_Counts := ⟨⟨_, _, _, _, _, _, _, _, _, _, _, _, _, _, _, _, xo_Counts⟩, xe_Counts, ha_Counts__eq, hi_Counts__eq⟩,
    ox_BadThings := ⟨⟨_, _, _, _, _, _, _, _, _, _, _, _, _, _, _, xL_BadThings, rfl⟩, xs_BadThings, xb_BadThings, xt_BadThings, xk_BadThings⟩,
    xf_BadThings := ⟨xg_BadThings, xn_BadThings, xb_BadThings, xd_BadThings⟩,
    nx_BadThings_index := nx_BadThings_index,
    ox_BadRooms := ⟨⟨_, _, _, _, _, _, _, _, _, _, _, _, _, _, _, xL_BadRooms, rfl⟩, xs_BadRooms, xb_BadRooms, xt_BadRooms, xk_BadRooms⟩,
    xf_BadRooms := ⟨xg_BadRooms, xn_BadRooms, xb_BadRooms, xd_BadRooms⟩,
    nx_BadRooms_index := nx_BadRooms_index,
    ox_CrossedRooms := ⟨⟨_, _, _, _, _, _, _, _, _, _, _, _, _, _, _, xL_CrossedRooms, rfl⟩, xs_CrossedRooms, xb_CrossedRooms, xt_CrossedRooms, xk_CrossedRooms⟩,
    xf_CrossedRooms := ⟨xg_CrossedRooms, xn_CrossedRooms, xb_CrossedRooms, xd_CrossedRooms⟩,
    nx_CrossedRooms_one := nx_CrossedRooms_one,
    nx_CrossedRooms_other := nx_CrossedRooms_other,
    xm_BadThings_BadThings := exm_ofB xb_BadThings ic_BadThings yt_BadThings sb_BadThings_BadThings xb_BadThings,
    xm_BadRooms_BadThings := exm_ofB xb_BadRooms ic_BadThings yt_BadThings sb_BadRooms_BadThings xb_BadThings,
    xm_BadRooms_BadRooms := exm_ofB xb_BadRooms ic_BadRooms yt_BadRooms sb_BadRooms_BadRooms xb_BadRooms,
    xm_CrossedRooms_BadThings := exm_ofB xb_CrossedRooms ic_BadThings yt_BadThings sb_CrossedRooms_BadThings xb_BadThings,
    xm_CrossedRooms_BadRooms := exm_ofB xb_CrossedRooms ic_BadRooms yt_BadRooms sb_CrossedRooms_BadRooms xb_BadRooms,
    xm_CrossedRooms_CrossedRooms := exm_ofB xb_CrossedRooms ic_CrossedRooms yt_CrossedRooms sb_CrossedRooms_CrossedRooms xb_CrossedRooms,
    ky_int_Counts := kit_sub ic_Counts yt_Counts sb_int_Counts (by first | exact .inl rfl | exact .inr (by simp)),
    ky_list_Counts := kit_sub ic_Counts yt_Counts sb_list_Counts (by first | exact .inl rfl | exact .inr (by simp)),
    nf_int_Counts := nf_of sb_int_Counts,
    nf_list_Counts := nf_of sb_list_Counts,
    z_all := PySem.W.mg_none_of X G z_all,
    z_bool := PySem.W.mg_none_of X G z_bool,
    z_enumerate := PySem.W.mg_none_of X G z_enumerate,
    z_int := PySem.W.mg_none_of X G z_int,
    z_isinstance := PySem.W.mg_none_of X G z_isinstance,
    z_len := PySem.W.mg_none_of X G z_len,
    z_list := PySem.W.mg_none_of X G z_list,
    z_min := PySem.W.mg_none_of X G z_min,
    z_range := PySem.W.mg_none_of X G z_range,
    z_set := PySem.W.mg_none_of X G z_set,
    z_sorted := PySem.W.mg_none_of X G z_sorted,
    z_str := PySem.W.mg_none_of X G z_str,
    z_tuple := PySem.W.mg_none_of X G z_tuple,
    g_LONGEST_NAME := ⟨_, PySem.W.mg_of X G g_LONGEST_NAME⟩,
    g_MOST_THINGS := ⟨_, PySem.W.mg_of X G g_MOST_THINGS⟩,
    g_MOST_ROOMS := ⟨_, PySem.W.mg_of X G g_MOST_ROOMS⟩ }, fun s u => .of_eq rfl, rfl⟩
theorem walk {l : PySem.W.OpenLaw} {q : Program} {loose : List Str} {XP : (Str → Option Value) → Heap → Prop} {YP : World → Heap → Prop} {d : DefRec} {K : Params → PySem.W.Frag} (cL PL : Addr) (hn : l.most = some 63) (hdf : d.params.defaults = []) (hnm : d.name = "law")
    (hY : ∀ (w : World) (h : Heap), YP w h → (K w.params).In h)
    (F : ∀ (w : World) (mg : Str → Option Value) (h : Heap), YP w h → (K w.params).In h → h.Ns mainGlobals mg → h.get? PL = some { cls := .none, data := .fields #[] } ∧ (K w.params).lookup PL = none ∧ PySem.W.CodeHd h cL PL ∧
      ∃ A : Ad, Txt (K w.params) mg A ∧ (∀ (s : Shared) (u : Value), BindsTo s A.fd_law ⟨[u], []⟩ [("script", u)]) ∧ A.fd_is_lot.code = .ref cL) :
    PySem.W.WalkO q loose XP YP l.row.toRowW d [] (fun f vs => PySem.call f vs) := by
  refine LamX.walk_ofTs (n := 63) (k := 13) (x := "script") (CX := fun _ => C8.CX0) hn (by decide) hdf ⟨rfl, by decide, by decide⟩ hY (fun w mg fa h Y KX G hmg => ?_) fun _ _ _ _ _ z => z
  obtain ⟨hT, nT, C, A, T, hb, hc⟩ := F w mg h Y KX G
  rw [hnm] at hmg
  have e := hmg.symm.trans T.d_law.mgf
  cases e
  refine ⟨A.fd_law, [(cL, PL)], spLaw (K w.params) (tabsL PL), fun p hp => ?_, fun p hp => ?_, fun p hp => ?_, hb, fun H a ns hl _ hH hS => ⟨a, ns, rfl, hS, hl, fun p hp => ?_, fun _ => rfl⟩, fun base _ _ hTB => ok_law T ⟨hTB (cL, PL) (List.mem_singleton.mpr rfl), hc⟩⟩
  · rw [List.mem_singleton.mp hp]
    exact hT
  · rw [List.mem_singleton.mp hp]
    exact nT
  · rw [List.mem_singleton.mp hp]
    exact C
  · rw [List.mem_singleton.mp hp]
    exact TabS.nil (hH (cL, PL) (List.mem_singleton.mpr rfl))
end BF47
open PySem PySem.W PyProof.Rows in
set_option maxRecDepth 100000 in
set_option maxHeartbeats 0 in
theorem PySem.Challenge.cw_bothfree_k47_rooms_made_and_refused_holds : PySem.Challenge.rw_bothfree_k47_rooms_made_and_refused.Holds := by
  w_on; o_law; k_head; (case hw => w_witness2)
  k_fill
  refine BF47.walk (l := PySem.Challenge.rw_bothfree_k47_rooms_made_and_refused) 116 112 rfl rfl rfl (fun w h Y => PySem.W.km_in_of Y) ?F
  case F =>
    intro w mg h Y KX G
    refine ⟨PySem.W.km_tabs_of Y 112 (List.mem_singleton.mpr rfl), by kernel_rfl, PySem.W.codeHd_of_K KX (by kernel_rfl), ?_⟩
    refine' Exists.elim (BF47.all_mk KX G ?hgC_LotError ?hgC_BadThings ?hgC_BadRooms ?hgC_CrossedRooms ?hgC_Counts ?ha_BadThings__init ?hi_BadThings__init ?hl_BadThings__init ?hc_BadThings__init ?hk_BadThings__init ?ha_BadRooms__init ?hi_BadRooms__init ?hl_BadRooms__init ?hc_BadRooms__init ?hk_BadRooms__init ?ha_CrossedRooms__init ?hi_CrossedRooms__init ?hl_CrossedRooms__init ?hc_CrossedRooms__init ?hk_CrossedRooms__init ?ha_is_integer ?hl_is_integer ?hc_is_integer ?hk_is_integer ?ha_is_name ?hl_is_name ?hc_is_name ?hk_is_name ?ha_first_wrong ?hl_first_wrong ?hc_first_wrong ?hk_first_wrong ?ha_sorted_things ?hl_sorted_things ?hc_sorted_things ?hk_sorted_things ?ha_is_lot ?hl_is_lot ?hc_is_lot ?hk_is_lot ?ha_Counts__init ?hi_Counts__init ?hl_Counts__init ?hc_Counts__init ?hk_Counts__init ?ha_Counts_things ?hi_Counts_things ?hl_Counts_things ?hc_Counts_things ?hk_Counts_things ?ha_Counts_rooms ?hi_Counts_rooms ?hl_Counts_rooms ?hc_Counts_rooms ?hk_Counts_rooms ?ha_Counts__eq ?hi_Counts__eq ?hl_Counts__eq ?hc_Counts__eq ?hk_Counts__eq ?ha_checked_rooms ?hl_checked_rooms ?hc_checked_rooms ?hk_checked_rooms ?ha_are_crossed ?hl_are_crossed ?hc_are_crossed ?hk_are_crossed ?ha_is_room ?hl_is_room ?hc_is_room ?hk_is_room ?ha_shared ?hl_shared ?hc_shared ?hk_shared ?ha_law_state ?hl_law_state ?hc_law_state ?hk_law_state ?ha_law_draw ?hl_law_draw ?hc_law_draw ?hk_law_draw ?ha_law_names ?hl_law_names ?hc_law_names ?hk_law_names ?ha_law_mixed ?hl_law_mixed ?hc_law_mixed ?hk_law_mixed ?ha_law_rooms ?hl_law_rooms ?hc_law_rooms ?hk_law_rooms ?ha_law_told ?hl_law_told ?hc_law_told ?hk_law_told ?ha_law_crossed ?hl_law_crossed ?hc_law_crossed ?hk_law_crossed ?ha_law_wrong_room ?hl_law_wrong_room ?hc_law_wrong_room ?hk_law_wrong_room ?ha_law_refused ?hl_law_refused ?hc_law_refused ?hk_law_refused ?ha_law ?hl_law ?hc_law ?hk_law ?pg_Counts ?hd_Counts ?po_Counts ?sa_Counts ?mk_Counts ?kc_Counts ?na_Counts__things ?na_Counts__rooms ?wc_Counts ?wg_Counts ?wt_Counts ?wm_Counts ?xo_Counts ?xe_Counts ?xL_BadThings ?xs_BadThings ?xb_BadThings ?xt_BadThings ?xk_BadThings ?xg_BadThings ?xn_BadThings ?xd_BadThings ?nx_BadThings_index ?xL_BadRooms ?xs_BadRooms ?xb_BadRooms ?xt_BadRooms ?xk_BadRooms ?xg_BadRooms ?xn_BadRooms ?xd_BadRooms ?nx_BadRooms_index ?xL_CrossedRooms ?xs_CrossedRooms ?xb_CrossedRooms ?xt_CrossedRooms ?xk_CrossedRooms ?xg_CrossedRooms ?xn_CrossedRooms ?xd_CrossedRooms ?nx_CrossedRooms_one ?nx_CrossedRooms_other ?ic_BadThings ?yt_BadThings ?sb_BadThings_BadThings ?sb_BadRooms_BadThings ?ic_BadRooms ?yt_BadRooms ?sb_BadRooms_BadRooms ?sb_CrossedRooms_BadThings ?sb_CrossedRooms_BadRooms ?ic_CrossedRooms ?yt_CrossedRooms ?sb_CrossedRooms_CrossedRooms ?ic_Counts ?yt_Counts ?sb_int_Counts ?sb_list_Counts ?z_all ?z_bool ?z_enumerate ?z_int ?z_isinstance ?z_len ?z_list ?z_min ?z_range ?z_set ?z_sorted ?z_str ?z_tuple ?g_LONGEST_NAME ?g_MOST_THINGS ?g_MOST_ROOMS) fun A h => ⟨A, h.1, h.2.1, h.2.2.trans ?hcd⟩
    (case hgC_LotError => k_is)
    (case hgC_BadThings => k_is)
    (case hgC_BadRooms => k_is)
    (case hgC_CrossedRooms => k_is)
    (case hgC_Counts => k_is)
    (case ha_BadThings__init => k_is)
    (case hi_BadThings__init => k_is)
    (case hl_BadThings__init => k_is)
    (case hc_BadThings__init => k_is)
    (case hk_BadThings__init => k_is)
    (case ha_BadRooms__init => k_is)
    (case hi_BadRooms__init => k_is)
    (case hl_BadRooms__init => k_is)
    (case hc_BadRooms__init => k_is)
    (case hk_BadRooms__init => k_is)
    (case ha_CrossedRooms__init => k_is)
    (case hi_CrossedRooms__init => k_is)
    (case hl_CrossedRooms__init => k_is)
    (case hc_CrossedRooms__init => k_is)
    (case hk_CrossedRooms__init => k_is)
    (case ha_is_integer => k_is)
    (case hl_is_integer => k_is)
    (case hc_is_integer => k_is)
    (case hk_is_integer => k_is)
    (case ha_is_name => k_is)
    (case hl_is_name => k_is)
    (case hc_is_name => k_is)
    (case hk_is_name => k_is)
    (case ha_first_wrong => k_is)
    (case hl_first_wrong => k_is)
    (case hc_first_wrong => k_is)
    (case hk_first_wrong => k_is)
    (case ha_sorted_things => k_is)
    (case hl_sorted_things => k_is)
    (case hc_sorted_things => k_is)
    (case hk_sorted_things => k_is)
    (case ha_is_lot => k_is)
    (case hl_is_lot => k_is)
    (case hc_is_lot => k_is)
    (case hk_is_lot => k_is)
    (case ha_Counts__init => k_is)
    (case hi_Counts__init => k_is)
    (case hl_Counts__init => k_is)
    (case hc_Counts__init => k_is)
    (case hk_Counts__init => k_is)
    (case ha_Counts_things => k_is)
    (case hi_Counts_things => k_is)
    (case hl_Counts_things => k_is)
    (case hc_Counts_things => k_is)
    (case hk_Counts_things => k_is)
    (case ha_Counts_rooms => k_is)
    (case hi_Counts_rooms => k_is)
    (case hl_Counts_rooms => k_is)
    (case hc_Counts_rooms => k_is)
    (case hk_Counts_rooms => k_is)
    (case ha_Counts__eq => k_is)
    (case hi_Counts__eq => k_is)
    (case hl_Counts__eq => k_is)
    (case hc_Counts__eq => k_is)
    (case hk_Counts__eq => k_is)
    (case ha_checked_rooms => k_is)
    (case hl_checked_rooms => k_is)
    (case hc_checked_rooms => k_is)
    (case hk_checked_rooms => k_is)
    (case ha_are_crossed => k_is)
    (case hl_are_crossed => k_is)
    (case hc_are_crossed => k_is)
    (case hk_are_crossed => k_is)
    (case ha_is_room => k_is)
    (case hl_is_room => k_is)
    (case hc_is_room => k_is)
    (case hk_is_room => k_is)
    (case ha_shared => k_is)
    (case hl_shared => k_is)
    (case hc_shared => k_is)
    (case hk_shared => k_is)
    (case ha_law_state => k_is)
    (case hl_law_state => k_is)
    (case hc_law_state => k_is)
    (case hk_law_state => k_is)
    (case ha_law_draw => k_is)
    (case hl_law_draw => k_is)
    (case hc_law_draw => k_is)
    (case hk_law_draw => k_is)
    (case ha_law_names => k_is)
    (case hl_law_names => k_is)
    (case hc_law_names => k_is)
    (case hk_law_names => k_is)
    (case ha_law_mixed => k_is)
    (case hl_law_mixed => k_is)
    (case hc_law_mixed => k_is)
    (case hk_law_mixed => k_is)
    (case ha_law_rooms => k_is)
    (case hl_law_rooms => k_is)
    (case hc_law_rooms => k_is)
    (case hk_law_rooms => k_is)
    (case ha_law_told => k_is)
    (case hl_law_told => k_is)
    (case hc_law_told => k_is)
    (case hk_law_told => k_is)
    (case ha_law_crossed => k_is)
    (case hl_law_crossed => k_is)
    (case hc_law_crossed => k_is)
    (case hk_law_crossed => k_is)
    (case ha_law_wrong_room => k_is)
    (case hl_law_wrong_room => k_is)
    (case hc_law_wrong_room => k_is)
    (case hk_law_wrong_room => k_is)
    (case ha_law_refused => k_is)
    (case hl_law_refused => k_is)
    (case hc_law_refused => k_is)
    (case hk_law_refused => k_is)
    (case ha_law => k_is)
    (case hl_law => k_is)
    (case hc_law => k_is)
    (case hk_law => k_is)
    (case pg_Counts => k_is)
    (case hd_Counts => k_is)
    (case po_Counts => k_is)
    (case sa_Counts => k_is)
    (case mk_Counts => k_is)
    (case kc_Counts => k_is)
    (case na_Counts__things => k_is)
    (case na_Counts__rooms => k_is)
    (case wc_Counts => k_is)
    (case wg_Counts => k_is)
    (case wt_Counts => k_is)
    (case wm_Counts => k_is)
    (case xo_Counts => k_is)
    (case xe_Counts => k_is)
    (case xL_BadThings => k_is)
    (case xs_BadThings => k_is)
    (case xb_BadThings => k_is)
    (case xt_BadThings => k_is)
    (case xk_BadThings => k_is)
    (case xg_BadThings => k_is)
    (case xn_BadThings => k_is)
    (case xd_BadThings => k_is)
    (case nx_BadThings_index => k_is)
    (case xL_BadRooms => k_is)
    (case xs_BadRooms => k_is)
    (case xb_BadRooms => k_is)
    (case xt_BadRooms => k_is)
    (case xk_BadRooms => k_is)
    (case xg_BadRooms => k_is)
    (case xn_BadRooms => k_is)
    (case xd_BadRooms => k_is)
    (case nx_BadRooms_index => k_is)
    (case xL_CrossedRooms => k_is)
    (case xs_CrossedRooms => k_is)
    (case xb_CrossedRooms => k_is)
    (case xt_CrossedRooms => k_is)
    (case xk_CrossedRooms => k_is)
    (case xg_CrossedRooms => k_is)
    (case xn_CrossedRooms => k_is)
    (case xd_CrossedRooms => k_is)
    (case nx_CrossedRooms_one => k_is)
    (case nx_CrossedRooms_other => k_is)
    (case ic_BadThings => k_is)
    (case yt_BadThings => k_is)
    (case sb_BadThings_BadThings => k_is)
    (case sb_BadRooms_BadThings => k_is)
    (case ic_BadRooms => k_is)
    (case yt_BadRooms => k_is)
    (case sb_BadRooms_BadRooms => k_is)
    (case sb_CrossedRooms_BadThings => k_is)
    (case sb_CrossedRooms_BadRooms => k_is)
    (case ic_CrossedRooms => k_is)
    (case yt_CrossedRooms => k_is)
    (case sb_CrossedRooms_CrossedRooms => k_is)
    (case ic_Counts => k_is)
    (case yt_Counts => k_is)
    (case sb_int_Counts => k_is)
    (case sb_list_Counts => k_is)
    (case z_all => k_is)
    (case z_bool => k_is)
    (case z_enumerate => k_is)
    (case z_int => k_is)
    (case z_isinstance => k_is)
    (case z_len => k_is)
    (case z_list => k_is)
    (case z_min => k_is)
    (case z_range => k_is)
    (case z_set => k_is)
    (case z_sorted => k_is)
    (case z_str => k_is)
    (case z_tuple => k_is)
    (case g_LONGEST_NAME => k_is)
    (case g_MOST_THINGS => k_is)
    (case g_MOST_ROOMS => k_is)
    (case hcd => rfl)
