import PyProof.Rows.All
import Wide.All
import OpenK.AllK
import Wide.FinOn
import HandS.ForMost
import HandS.ForExc
import HandS.ExcInit
import HandS.ExcField
import HandS.TryMany
import HandS.SetKeys
import HandS.CallLocal
import HandS.Codes
import HandS.More
import HandS.Style
import HandS.TupAny
import HandS.DictComp
import HandS.IsInst
import HandS.NoneIn
import HandS.Finally
import HandS.OwnEq
import HandS.Walk
import KE.Datum
import HandS.SortKw
import HandS.MakeKwOnly
import KE.DataMinMax
import PyProof.Rows.StrMul
import KE.KExcIs
import HandS.ExcIs
import HandS.EndBits
import PySem.Challenge.RW_bothfree_k43_rows_made_and_refused
set_option Elab.async false
set_option linter.all false
set_option maxRecDepth 100000
set_option maxHeartbeats 4000000
/-! What the laws of this program share: bundles of defs that may raise, several except clauses with names, calls. -/
namespace BF
open PySem PySem.Spec PyProof.Rows L2

section
variable {X : Cx}
theorem pe_gint {x : Str} {i : Int} {pos : Pos} (hg : Gl X x) (hm : ∃ t, X.mg x = some (.int i t)) (hd : (x == ("__debug__" : Str)) = false := by decide) : PE X (.Name x pos) (tC (.int i)) := by
  obtain ⟨t, hm⟩ := hm
  exact pe_glob hg hm ⟨t, rfl⟩ hd
end
theorem exm_ofB {K : PySem.W.Frag} {a S : Addr} {r : Bool} (h1 : PySem.W.subIn K (.ref a) (.type "BaseException") = some true) (h2 : PySem.W.isClsIn K S = true) (h3 : PySem.W.typeIn K (.ref S) = some (.type "type")) (h4 : PySem.W.subIn K (.ref a) (.ref S) = some r) (h5 : PySem.W.subIn K (.ref S) (.type "BaseException") = some true) :
    PySem.W.exmOne K (.ref a) (.ref S) = some r := by
  have e1 : (PySem.W.subIn K (.ref S) (.type "BaseException") == some true) = true := by rw [h5] <;> rfl
  have e2 : ((PySem.W.clsIn K S).isSome && PySem.W.typeIn K (.ref S) == some (.type "type")) = true :=
    Bool.and_eq_true_iff.mpr ⟨h2, beq_iff_eq.mpr h3⟩
  show (if (PySem.W.subIn K (.ref S) (.type "BaseException") == some true) = true then (if ((PySem.W.clsIn K S).isSome && PySem.W.typeIn K (.ref S) == some (.type "type")) = true then PySem.W.subIn K (.ref a) (.ref S) else none) else none) = some r
  rw [if_pos e1, if_pos e2]
  exact h4

/-! ### defs that may raise -/
section
variable {P : Program} {w : World} {K : PySem.W.Frag} {mg : Str → Option Value} {base : Heap}
structure CalX (P : Program) (w : World) (K : PySem.W.Frag) (mg : Str → Option Value) (base : Heap) (k : Nat) (x : Str) (sp : Sp) : Prop where
  ex : ∃ (f : Addr) (fd : FuncData) (ps : List Str), FnOk P w K mg base (L2.CX P w) k f fd ps sp ∧ mg x = some (.ref f) ∧ PySem.W.keepIn K (.ref f) = true ∧ Binds K fd ps []
structure MakX (P : Program) (w : World) (K : PySem.W.Frag) (mg : Str → Option Value) (base : Heap) (k : Nat) (x : Str) (C : Addr) (sp : Sp) : Prop where
  ex : ∃ (f : Addr) (fd : FuncData) (ps : List Str), Mk K C f ∧ FnOk P w K mg base (L2.CX P w) k f fd ps sp ∧ mg x = some (.ref C) ∧ Binds K fd ps []
structure MetX (P : Program) (w : World) (K : PySem.W.Frag) (mg : Str → Option Value) (base : Heap) (k : Nat) (C : Addr) (m : Str) (sp : Sp) : Prop where
  ex : ∃ (f : Addr) (fd : FuncData) (ps : List Str), Cls K C ∧ Meth K C m f ∧ FnOk P w K mg base (L2.CX P w) k f fd ps sp ∧ Binds K fd ps []
/-- the body's proof of a def that may raise -/
theorem fnX {x qual : Str} {st : Stmt} {f : Addr} {fd : FuncData} {N ps : List Str} {k : Nat} {sp : Sp} (F : C8.Fun K x qual st f fd) (S : FnScope N ps (C8.fnScope st)) (len : ∀ vs H Q E, sp vs H Q E → vs.length = ps.length)
    (hbody : ∀ (cdv : Value) (A : Around) (outer : List Env) (s : Shared) (H : Hp) (vs : List V) (Q : VK) (E : XK), Room k (A.deeper (envOfC qual (C8.fnScope st) s.heap.objs.size f cdv)) → sp vs H Q E →
      ∃ t, PSs (cxOf (L2.CX P w) P w K mg base N qual (C8.fnScope st) f cdv A outer s H E) (C8.fnBody st) t ∧ t { nx := fun _ H' => Q .non H', rt := Q } (start N vs) H) : FnOk P w K mg base (L2.CX P w) (k + 1) f fd ps sp := by
  obtain ⟨_, _, _, _, _, _, _, _, _, _, rfl, stands, code⟩ := F.ex
  exact fn_of stands code S len fun B above t G us R Z room pr => hbody _ B above t G us R Z room pr
end
section
variable {X : Cx} {k j : Nat} {C f : Addr} {x m : Str} {sp : Sp} {p pos apos : Pos} {e o : Expr} {es : List Expr} {ta : TE} {t : TA} {W : WX}
/-- a call of a def that may raise, in a def that lets it out -/
theorem pe_cX {E : XK} (c : CalX X.prog X.w X.K X.mg X.base k x sp) (hr : Room j X.A) (hk : k ≤ j) (hg : Gl X x) (ha : PA X (e :: es) t) (tk : Takes X (fun cls d _ H => E cls d H))
    (hdb : (x == ("__debug__" : Str)) = false := by decide) (he : starEach (e :: es) X.env = (false, eval e X.env) :: starEach es X.env := by rfl) (hpl : (backTo pos (starEach es X.env)).any (·.1) = false := by rfl) :
    PE X (.Call (.Name x p) (e :: es) [] pos) (tCall sp [] E t) := by
  obtain ⟨f, fd, ps, F, hm, kp, b⟩ := c.ex
  exact pe_call F (hr.mono hk) hg hm kp b .nil (passes_call tk fun _ _ _ _ h => h) ha hdb he hpl
/-- .. in a try's body -/
theorem pe_cS (c : CalX X.prog X.w X.K X.mg X.base k x sp) (hr : Room j X.A) (hk : k ≤ j) (hg : Gl X x) {E : L2.St → XK} (hx : ∀ σ, PassesAt (L2.CX X.prog X.w) X σ (E σ)) (ha : PA X (e :: es) t)
    (hdb : (x == ("__debug__" : Str)) = false := by decide) (he : starEach (e :: es) X.env = (false, eval e X.env) :: starEach es X.env := by rfl) (hpl : (backTo pos (starEach es X.env)).any (·.1) = false := by rfl) :
    PE X (.Call (.Name x p) (e :: es) [] pos) (tCallS sp E t) := by
  obtain ⟨f, fd, ps, F, hm, kp, b⟩ := c.ex
  exact pe_callS F (hr.mono hk) hg hm kp b hx ha hdb he hpl
theorem passN {X : Cx} {CX : CXT} {P : Program} {w : World} (h : CX = L2.CX P w) : Passes CX X (fun _ _ _ => False) := by
  subst h
  intro _ _ _ _ _ _ _ h
  obtain ⟨_, _, _, _, _, _, _, _, _, _, _, _, z⟩ := h
  exact z.elim
/-- a call of a def that may raise where it is known that it raises nothing -/
theorem pe_cN (c : CalX X.prog X.w X.K X.mg X.base k x sp) (hr : Room j X.A) (hk : k ≤ j) (hg : Gl X x) (ha : PA X (e :: es) t)
    (hdb : (x == ("__debug__" : Str)) = false := by decide) (he : starEach (e :: es) X.env = (false, eval e X.env) :: starEach es X.env := by rfl) (hpl : (backTo pos (starEach es X.env)).any (·.1) = false := by rfl) :
    PE X (.Call (.Name x p) (e :: es) [] pos) (tCall sp [] (fun _ _ _ => False) t) := by
  obtain ⟨f, fd, ps, F, hm, kp, b⟩ := c.ex
  exact pe_call F (hr.mono hk) hg hm kp b .nil (passN rfl) ha hdb he hpl
theorem pe_mkN (c : MakX X.prog X.w X.K X.mg X.base k x C sp) (hr : Room j X.A) (hk : k + 1 ≤ j) (hg : Gl X x) (ha : PA X (e :: es) t)
    (hdb : (x == ("__debug__" : Str)) = false := by decide) (he : starEach (e :: es) X.env = (false, eval e X.env) :: starEach es X.env := by rfl) (hpl : (backTo pos (starEach es X.env)).any (·.1) = false := by rfl) :
    PE X (.Call (.Name x p) (e :: es) [] pos) (tMake C sp [] (fun _ _ _ => False) t) := by
  obtain ⟨f, fd, ps, M, F, hm, b⟩ := c.ex
  exact pe_make M F (hr.mono hk) hg hm b .nil (passN rfl) ha hdb he hpl
/-- C(..) in a try's body: the new instance and its dict are dropped where __init__ raises -/
def tMakeS (C : Addr) (sp : Sp) (E : L2.St → XK) (t : TA) : TE := fun σ H Q => t σ H fun vs H1 => ∀ x dx, H1 x = none → H1 dx = none → dx ≠ x →
  sp (.ref x :: vs) (upd (upd H1 dx (.own x)) x (.ins C dx [])) (fun v H2 => v = .non ∧ Q (.ref x) H2) (E σ)
theorem pe_mkS (c : MakX X.prog X.w X.K X.mg X.base k x C sp) (hr : Room j X.A) (hk : k + 1 ≤ j) (hg : Gl X x) {E : L2.St → XK} (hx : ∀ σ, PassesAt (L2.CX X.prog X.w) X σ (E σ)) (ha : PA X (e :: es) t)
    (hdb : (x == ("__debug__" : Str)) = false := by decide) (he : starEach (e :: es) X.env = (false, eval e X.env) :: starEach es X.env := by rfl) (hpl : (backTo pos (starEach es X.env)).any (·.1) = false := by rfl) :
    PE X (.Call (.Name x p) (e :: es) [] pos) (tMakeS C sp E t) := by
  obtain ⟨fI, data, names, M, F, glob, binds⟩ := c.ex
  have room := hr.mono hk
  constructor
  intro pins s σ H Q I w
  refine wpAny_Call_Name_kw (ld_glob I hg glob (PySem.W.callWith_K (h₀ := X.base) I.ok.mod.kin M.kp (thn (ha.run pos pins s σ H _ I w) ?_) he hpl) hdb)
  rintro us t ⟨vs, G, J, rel, w⟩
  refine ⟨J.kIn, ?_⟩
  let n := t.heap.objs.size
  have sat := w (n + 1) n (J.hok.fresh (Nat.le_succ _)) (J.hok.fresh (Nat.le_refl _)) (Nat.ne_of_lt (Nat.lt_succ_self _))
  have made := Inv.made (C := C) J
  have args : Vals (V.ref (n + 1) :: vs) (Value.ref (n + 1) :: us) := .cons rfl rel
  have many : (Value.ref (n + 1) :: us).length = names.length := args.length.symm.trans (F.len _ _ _ _ sat)
  have bound := binds _ (Value.ref (n + 1) :: us) made.kIn ((congrArg List.length (List.append_nil _)).trans many)
  rw [List.append_nil] at bound
  have runs := F.run _ X.stack _ _ ⟨Value.ref (n + 1) :: us, []⟩ (Value.ref (n + 1) :: us) _ _ (E σ) (room.make C us []) (made.env0.make C us []) bound args sat
  refine wpAny_call (make_map (f := fI) J.kIn M.makes M.init (beq_iff_eq.mp M.fn) (codeAny_mono runs fun out t2 q => ?_))
  match out, q with
  | .error e, q => exact hx σ pins _ _ e t2 made q
  | .ok (.ret u), q =>
    obtain ⟨v, G2, J2, rv, ev, q2⟩ := made.after q
    cases ev
    exact ⟨rv, V.ref (n + 1), G2, J2, rfl, q2⟩
/-- o.m(..) of a method that may raise, in a try's body -/
def tMethS (C : Addr) (m : Str) (sp : Sp) (E : L2.St → XK) (ta : TE) (t : TA) : TE := fun σ H Q => ta σ H fun x H1 => ∃ a dx fs, x = .ref a ∧ H1 a = some (.ins C dx fs) ∧ fs.lookup m = none ∧
  t σ H1 fun vs H2 => sp (x :: vs) H2 Q (E σ)
/-- a local name that holds a def -/
theorem pe_cl {i : Nat} {f : Addr} (c : C8.CalAt X.prog X.w X.K X.mg X.base k f sp) (hr : Room j X.A) (hk : k ≤ j) (hN : X.N[i]? = some x) (hv : Vis X.env.scope x) (ha : PA X (e :: es) t)
    (hdb : (x == ("__debug__" : Str)) = false := by decide) (hcd : (x == ("__classdict__" : Str)) = false := by decide)
    (he : starEach (e :: es) X.env = (false, eval e X.env) :: starEach es X.env := by rfl) (hpl : (backTo pos (starEach es X.env)).any (·.1) = false := by rfl) : PE X (.Call (.Name x p) (e :: es) [] pos) (tCallL i f sp [] C8.E0 t) := by
  obtain ⟨fd, ps, F, kp, b⟩ := c.ex
  exact pe_callL F (hr.mono hk) hN hv kp b .nil C8.pass0 ha hdb hcd he hpl
end
end BF
namespace BF
open PySem PySem.Spec PyProof.Rows L2
/-! ### errors with one field -/
section
variable {P : Program} {w : World} {K : PySem.W.Frag} {mg : Str → Option Value} {base : Heap}
def spErrInit (C : Addr) (field : Str) : Sp := fun vs H Q _ => ∃ (a : Addr) (v : V), vs = [.ref a, v] ∧ H a = some (exo a C none) ∧ ∀ dx, H dx = none → dx ≠ a → Q .non (upd (upd H dx (exd dx [(field, v)])) a (exo a C (some dx)))
theorem ok_errinit {C f : Addr} {fd : FuncData} {st : Stmt} {qual field pn : Str} {q1 q2 q3 q4 : Pos} (F : C8.Fun K "__init__" qual st f fd) (S : FnScope ["self", pn] ["self", pn] (C8.fnScope st))
    (hb : C8.fnBody st = [.Assign [.Attribute (.Name "self" q1) field q2] (.Name pn q3) q4]) (ox : OexC K C) (nx : PySem.W.findIn K (.ref C) field = some none) (vs1 : (C8.fnScope st).names.lookup pn = some .local) (vs0 : (C8.fnScope st).names.lookup ("self" : Str) = some .local)
    (d1 : (pn == ("__debug__" : Str)) = false) (c1 : (pn == ("__classdict__" : Str)) = false) (sw : ∀ env, swapsWith (.Name pn q3) (some (.Attribute (.Name "self" q1) field q2)) q4.line env = pure false) : FnOk P w K mg base C8.CX0 1 f fd ["self", pn] (spErrInit C field) := by
  refine C8.fn0 F S (fun vs H Q E h => ?_) (fun cdv A outer s H vs Q E hr h => ?_)
  · obtain ⟨a, v, rfl, _⟩ := h
    rfl
  · obtain ⟨a, v, rfl, ha, k⟩ := h
    rw [hb]
    refine ⟨_, pss_one (ps_ost (pe_var (i := 0) rfl (.inl vs0)) (pe_var (i := 1) rfl (.inl vs1) d1 c1) (sw _)), ?_⟩
    exact ⟨v, rfl, _, rfl, a, C, rfl, ox, nx, .inl ⟨ha, fun dx hdx ne => k dx hdx ne⟩⟩
end
section
variable {X : Cx}
/-- X(e), X's __init__ keeping its argument in a field: the exception's own dict d is new -/
def tErr (C : Addr) (field : Str) (ta : TA) : L2.St → Hp → XK → Prop := fun σ H Q => ta σ H fun vs H1 => ∃ v, vs = [v] ∧ ∀ d H', H1 d = none → Same H1 H' → H' d = some (.xd [(field, v)]) → Q (.ref C) (some d) H'
theorem pmk_err {x field pn : Str} {C fI : Addr} {fd : FuncData} {e : Expr} {ta : TA} {p pos : Pos} (T : OexC X.K C) (iC : PySem.W.findIn X.K (.ref C) "__init__" = some (some (.ref fI))) (tI : PySem.W.isFn X.K (.ref fI) = true)
    (F1 : FnOk X.prog X.w X.K X.mg X.base C8.CX0 1 fI fd ["self", pn] (spErrInit C field)) (hr : Room 2 X.A) (hb : Binds X.K fd ["self", pn] []) (hg : Gl X x) (hm : X.mg x = some (.ref C)) (ha : PA X [e] ta)
    (hdb : (x == ("__debug__" : Str)) = false := by decide) (he : starEach (e :: []) X.env = (false, eval e X.env) :: starEach [] X.env := by rfl) (hpl : (backTo pos (starEach [] X.env)).any (·.1) = false := by rfl) :
    PMk X (.Call (.Name x p) [e] [] pos) (tErr C field ta) := by
  intro pins s σ H Q I h
  refine pmk_oex T iC (beq_iff_eq.mp tI) F1 hr hb .nil C8.pass0 hg hm (ta := fun σ H R => ta σ H (fun vs H1 => ∃ v, vs = [v] ∧ ∀ d H', H1 d = none → Same H1 H' → H' d = some (.xd [(field, v)]) → Q (.ref C) (some d) H') ∧
      ∀ vs H1, (∃ v, vs = [v] ∧ ∀ d H', H1 d = none → Same H1 H' → H' d = some (.xd [(field, v)]) → Q (.ref C) (some d) H') → R vs H1) ?_ hdb he hpl pins s σ H Q I ⟨h, ?_⟩
  · exact ⟨fun pos pins s σ H R I h => thn (ha.run pos pins s σ H _ I h.1) fun us s1 ⟨vs, H1, I1, r1, q⟩ => ⟨vs, H1, I1, r1, h.2 _ _ q⟩⟩
  · rintro vs H1 ⟨v, rfl, k⟩
    refine ⟨by show 1 ≤ 1000; decide, fun a na => ⟨a, v, rfl, upd_same, fun dx hdx ne => ⟨rfl, dx, [(field, v)], upd_same, Eq.trans (upd_ne ne) upd_same, ?_, ?_⟩⟩⟩
    · rw [upd_ne ne] at hdx
      exact hdx
    · have hd1 : H1 dx = none := by
        rw [upd_ne ne] at hdx
        exact hdx
      refine k dx _ hd1 (fun b o e => ?_) upd_same
      rw [upd_ne (ne_of_none e hd1), del_ne (ne_of_none e na), upd_ne (ne_of_none e na), upd_ne (ne_of_none e hd1), upd_ne (ne_of_none e na)]
      exact e
end
end BF
set_option Elab.async false
set_option linter.all false
set_option maxRecDepth 100000
set_option maxHeartbeats 4000000
/-! A try whose clauses all bear names: the library has one clause with a name, or several without; here both at once. -/
namespace BF
open PySem PySem.Spec PyProof.Rows L2
abbrev Cls3 := Value × Nat × (Addr → Value → Option Addr → TS)
/-- a suite's ends, the clause's name taken away behind it -/
def Ends.bare (i : Nat) (D : Ends) : Ends := { nx := fun σ H => D.nx (σ.set i none) H, rt := D.rt, bk := fun σ H => D.bk (σ.set i none) H, ct := fun σ H => D.ct (σ.set i none) H }
/-- what named clauses (class, slot, suite) ask of an exception of class cls: the first that fits runs, Wout where none fits -/
def wManyA (K : PySem.W.Frag) (Wout : WX) (D : Ends) : List Cls3 → WX
  | [] => Wout
  | q :: r => fun cls d σ H => ∃ b, PySem.W.exmOne K cls q.1 = some b ∧ (b = true → ∀ a, H a = none → q.2.2 a cls d (Ends.bare q.2.1 D) (σ.set q.2.1 (some (.ref a))) H) ∧ (b = false → wManyA K Wout D r cls d σ H)
/-- clauses and their readings -/
inductive HdsA (X : Cx) : List ExceptHandler → List Cls3 → Prop
  | nil : HdsA X [] []
  | cons {cn nm : Str} {c : Value} {i : Nat} {ts : Addr → Value → Option Addr → TS} {st : Stmt} {sts : List Stmt} {p1 p2 : Pos} {rest : List ExceptHandler} {l : List Cls3} (slot : X.N[i]? = some nm) (loc : X.env.kindOf nm = some .local) (cls : Names X cn c)
      (run : ∀ (a : Addr) (ob : Obj) (k : Value) (d : Option Addr) (pn : List (Addr × Obj)), Zc k d ob → (∃ vs, ob.data = .fields vs) → PSs (X.suite a ((a, ob) :: pn)) (st :: sts) (ts a k d)) (more : HdsA X rest l) :
      HdsA X (.ExceptHandler (some (.Name cn p1)) (some nm) (st :: sts) p2 :: rest) ((c, i, ts) :: l)
/-- an exception at a, of class cls and with the dict d, lies in the heap of s, caught -/
structure Lies (X : Cx) (pins : List (Addr × Obj)) (σ : L2.St) (H : Hp) (B : Heap) (a : Addr) (cls : Value) (d : Option Addr) (s : Shared) : Prop where
  fly : HandSPX.FlyingZ B (X.env :: X.outer) a (Zc cls d) s.heap
  inv : Inv X pins σ H s
  new : H a = none
  back : ∀ g, HandSPX.FlyingZ B (X.env :: X.outer) a (Zc cls d) g → s.heap.UpToSlots g → Inv X pins σ H { s with heap := g }
  out : ∀ W : WX, W cls d σ H → ∀ g, HandSPX.HeldZ B (X.env :: X.outer) a (Zc cls d) X.env.locals g → s.heap.UpToSlots g → XE X W (.ref a) { s with heap := g }
section
variable {X : Cx} {pins : List (Addr × Obj)} {σ : L2.St} {H : Hp} {B : Heap} {a : Addr} {cls : Value} {d : Option Addr} {s : Shared}
/-- the room of a suite that handles it -/
theorem Lies.room (L : Lies X pins σ H B a cls d s) (fr : X.env.frame = some X.env.locals) :
    ∃ ob, s.heap.get? a = some ob ∧ Zc cls d ob ∧ (∃ vs, ob.data = .fields vs) ∧ Inv (X.suite a ((a, ob) :: (X.pn ++ pins))) [] σ H s := by
  obtain ⟨ob, vs, g1, g2, g3⟩ := L.fly.there
  have far : a ∉ frs (X.env :: X.outer) := fun q => by
    obtain ⟨_, o2, g4, bad⟩ := L.fly.2.2.1.mem q
    have : ob = o2 := Option.some.inj (g1.symm.trans g4)
    exact bad _ (this ▸ g3)
  have f1 : a ≠ X.env.locals := fun q => far (List.mem_filterMap.mpr ⟨X.env, .head _, fr.trans (congrArg some q.symm)⟩)
  have f2 : a ∉ X.fs := fun q => far (by
    obtain ⟨e, m, z⟩ := List.mem_filterMap.mp q
    exact List.mem_filterMap.mpr ⟨e, .tail _ m, z⟩)
  exact ⟨ob, g1, g2, ⟨vs, g3⟩, L.inv.suite g1 g3 L.new f1 f2⟩
theorem Lies.on (L : Lies X pins σ H B a cls d s) {g : Heap} (f : HandSPX.FlyingZ B (X.env :: X.outer) a (Zc cls d) g) (u : s.heap.UpToSlots g) : Lies X pins σ H B a cls d { s with heap := g } where
  fly := f
  inv := L.back g f u
  new := L.new
  back := fun g2 f2 u2 => L.back g2 f2 (u.trans u2)
  out := fun W w g2 f2 u2 => L.out W w g2 f2 (u.trans u2)
/-- no clause is left: it goes on, out of the def -/
theorem Lies.pass (L : Lies X pins σ H B a cls d s) (fr : X.env.frame = some X.env.locals) {W : WX} (tk : Takes X W) (w : W cls d σ H) {R : Flow → Shared → Prop} : wpAny (model X.prog X.w) X.A (handleBy (.ref a) X.env []) R X.xe s := by
  have last : wpAny (model X.prog X.w) X.A (setFlight (.ref a) X.env.frame) (fun _ t => wpAny (model X.prog X.w) X.A (throw (.ref a) : Sem Flow) R X.xe t) X.xe s := by
    rw [fr]
    exact HandSPX.setFlight_upZ L.fly fun g held up => wpAny_throw (tk _ _ (L.out W w g held up))
  obtain ⟨_, _, _, ob, fields, tr, trOb, _, atA, _, dat, one, _⟩ := id L.fly
  refine wpAny_handleBy_nil ?_
  unfold PySem.passOn
  refine wpAny_bind (wpAny_field atA dat one ?_)
  have ne : ¬ (Value.ref tr == Value.none) = true := fun q => by simp at q
  simp only [ne, if_false]
  first | exact wpAny_bind last | exact wpAny_bind (wpAny_pure (wpAny_bind last))
/-- the class that a clause names is read in its room -/
theorem Lies.reads (ob : Obj) (room : Inv (X.suite a ((a, ob) :: (X.pn ++ pins))) [] σ H s) {cn : Str} {c : Value} {p : Pos} (names : Names X cn c) {R E : Value → Shared → Prop} (r : R c s) :
    wpAny (model X.prog X.w) (X.A.mark (some (.ref a))) (eval (.Name cn p) X.env) R E s := by
  obtain ⟨glob, plain, known | ⟨unknown, builtin, there⟩⟩ := names
  · exact ld_glob (X := X.suite a ((a, ob) :: (X.pn ++ pins))) room glob known r plain
  · exact ld_blt (X := X.suite a ((a, ob) :: (X.pn ++ pins))) room glob unknown builtin r there plain
/-- behind a suite its name goes -/
theorem unname {D : Ends} {i : Nat} {nm : Str} {p : Pos} {q : Addr × Obj} {f : Flow} {t : Shared} (ok : X.Ok) (nod : X.N.Nodup) (slot : X.N[i]? = some nm) (loc : X.env.kindOf nm = some .local)
    (e : SP (X.suite a (q :: (X.pn ++ pins))) [] (Ends.bare i D) f t) : wpAny (model X.prog X.w) X.A (do bindName X.env nm .none; unbindBehindTheSuite X.env nm p) (fun _ u => SP X pins D f u) X.xe t := by
  have step : ∀ {σ2 : L2.St} {H2 : Hp} {R : Shared → Prop}, Inv (X.suite a (q :: (X.pn ++ pins))) [] σ2 H2 t → (∀ u, Inv X pins (σ2.set i none) H2 u → R u) →
      wpAny (model X.prog X.w) X.A (do bindName X.env nm .none; unbindBehindTheSuite X.env nm p) (fun _ u => R u) X.xe t := fun J r => gone_ok (J.unsuite ok) nod slot loc r
  match f, e with
  | .next, ⟨_, _, J, r⟩ => exact step J fun u K => ⟨_, _, K, r⟩
  | .brk, ⟨_, _, J, r⟩ => exact step J fun u K => ⟨_, _, K, r⟩
  | .cont, ⟨_, _, J, r⟩ => exact step J fun u K => ⟨_, _, K, r⟩
  | .ret v, ⟨_, _, _, J, rv, r⟩ => exact step J fun u K => ⟨_, _, _, K, rv, r⟩
theorem Lies.handled {D : Ends} {Wout : WX} (ok : X.Ok) (nod : X.N.Nodup) (fr : X.env.frame = some X.env.locals) (tk : Takes X Wout) (L : Lies X pins σ H B a cls d s) {hds : List ExceptHandler} {l : List Cls3} (hk : HdsA X hds l) :
    wManyA X.K Wout D l cls d σ H → wpAny (model X.prog X.w) X.A (handleBy (.ref a) X.env hds) (SP X pins D) X.xe s := by
  induction hk with
  | nil => exact fun w => L.pass fr tk w
  | cons slot loc names run _ later =>
    rintro ⟨fits, known, yes, no⟩
    obtain ⟨ob, at1, kind, _, here⟩ := L.room fr
    have isCls : PySem.W.Looks (model X.prog X.w) s.heap (typeOf (.ref a)) cls := fun _ _ _ _ keep r => wpAny_typeOf_ref (keep _ _ at1) (kind.1.symm ▸ r)
    refine wpAny_handleBy_cons (codeAny_handlers_test (Lies.reads ob here names ((PySem.W.exm_one L.inv.kIn isCls known).here ?_))) (fun q => nomatch q)
    cases fits with
    | false => exact later (no rfl)
    | true =>
      refine codeAny_handlers_suite_as (HandSPX.lands_againZ L.fly fun g fly up => ?_)
      have L2 := L.on fly up
      obtain ⟨ob2, _, kind2, rec2, here2⟩ := L2.room fr
      refine store_ok (v := .ref a) (X := X.suite a ((a, ob2) :: (X.pn ++ pins))) here2 nod slot (.inl loc) rfl (fun t here3 => ?_) (.inr loc)
      exact wpAny_mono ((run a ob2 cls d (X.pn ++ pins) kind2 rec2).run [] t _ H _ here3 (yes rfl a L.new)) (fun _ _ e => unname ok nod slot loc e) fun _ _ z => z.elim
end
section
variable {X : Cx} {body : List Stmt} {h₀ : ExceptHandler} {hds : List ExceptHandler} {l : List Cls3} {pos : Pos} {tb : WX → TS} {Wout : WX}
theorem ps_try_manyA (nod : X.N.Nodup) (st : X.stack = X.env :: X.outer) (fr : X.env.frame = some X.env.locals) (tk : Takes X Wout)
    (hb : ∀ (W : WX) (pn : List (Addr × Obj)) (xe : Value → Shared → Prop), Takes (X.tr pn xe) W → PassesOwn (model X.prog X.w) X.A X.env xe → PSs (X.tr pn xe) body (tb W)) (hh : HdsA X (h₀ :: hds) l) :
    PS X (.Try body (h₀ :: hds) [] [] pos) (fun D σ H => tb (wManyA X.K Wout D l) D σ H) := by
  constructor
  intro pins s σ H D I w
  have ok := I.ok
  have frames : X.A.frames = some (X.env :: X.outer) := ok.frames.trans (congrArg some st)
  let E : Value → Shared → Prop := fun e t => wpAny (model X.prog X.w) X.A (noteFrame e X.env) (fun _ t2 => wpAny (model X.prog X.w) X.A (setFlight e none)
    (fun _ t3 => wpAny (model X.prog X.w) X.A (handleBy e X.env (h₀ :: hds)) (SP X pins D) X.xe t3) X.xe t2) X.xe t
  have caught : Takes (X.tr (X.pn ++ pins) E) (wManyA X.K Wout D l) := by
    rintro u t ⟨a, B, t0, pins2, σ2, H2, cls, d, rfl, J, nb, up, sky, new, os, bare, w2⟩
    have J : Inv X pins σ2 H2 t0 := J.ofTry ok
    have sky : Sky B (X.env :: X.outer) a (Zc cls d) X.env.locals t.heap := st ▸ sky
    refine Sky.land Zc.steady frames fr sky fun g fly up2 => ?_
    have inv : ∀ g2, HandSPX.FlyingZ B (X.env :: X.outer) a (Zc cls d) g2 → t.heap.UpToSlots g2 → Inv X pins σ2 H2 { t with heap := g2 } := fun g2 f2 u2 => J.landed nb f2.1 (up.trans u2) os bare
    refine Lies.handled ok nod fr tk (d := d) ⟨fly, inv g fly up2, new, fun g2 f2 u2 => inv g2 f2 (up2.trans u2), fun W w3 g2 held u2 => ?_⟩ hh w2
    exact ⟨a, B, t0, pins, σ2, H2, cls, d, rfl, J, nb, up.trans (up2.trans u2), .inr (.inr (st.symm ▸ held)), new, os, bare, w3⟩
  refine wpAny_Try_except (wpAny_mono ((hb _ (X.pn ++ pins) E caught PassesOwn.looking).run [] s σ H D (I.toTry _) w) (fun f t e => ?_) fun _ _ z => z)
  match f, e with
  | .next, ⟨_, _, J, r⟩ => exact wpAny_execs_nil ⟨_, _, J.ofTry ok, r⟩
  | .brk, ⟨_, _, J, r⟩ => exact ⟨_, _, J.ofTry ok, r⟩
  | .cont, ⟨_, _, J, r⟩ => exact ⟨_, _, J.ofTry ok, r⟩
  | .ret _, ⟨_, _, _, J, rv, r⟩ => exact ⟨_, _, _, J.ofTry ok, rv, r⟩
end
end BF
set_option Elab.async false
set_option linter.all false
set_option maxRecDepth 100000
set_option maxHeartbeats 4000000
namespace BF
open PySem PySem.Spec PyProof.Rows L2
/-! ### methods that may raise -/
section
variable {X : Cx} {k j : Nat} {C f : Addr} {x m : Str} {sp : Sp} {p pos apos : Pos} {e o : Expr} {es : List Expr} {ta : TE} {t : TA} {W : WX}
theorem pe_mtN {pl : Sem Bool} (c : MetX X.prog X.w X.K X.mg X.base k C m sp) (hr : Room j X.A) (hk : k ≤ j) (he : PE X o ta) (ha : PA X (e :: es) t)
    (hst : starEach (e :: es) X.env = (false, eval e X.env) :: starEach es X.env := by rfl) (hpl : (backTo pos (starEach es X.env)).any (·.1) = false := by rfl)
    (ht : eval (.Call (.Attribute o m apos) (e :: es) [] pos) X.env = (do let ov ← eval o X.env; standAt apos.atName; let (f, first) ← holding [ov] (getMethod ov m pl); callWith pos f first (backTo pos (starEach (e :: es) X.env)) (backToKw pos (keywordEach [] X.env))) := by rfl) :
    PE X (.Call (.Attribute o m apos) (e :: es) [] pos) (tMeth C m sp [] (fun _ _ _ => False) ta t) := by
  obtain ⟨f, fd, ps, hc, hm, F, b⟩ := c.ex
  exact pe_meth (pl := pl) he hc hm F (hr.mono hk) b .nil (passN rfl) ha hst hpl ht
theorem pe_mtS {pl : Sem Bool} (c : MetX X.prog X.w X.K X.mg X.base k C m sp) (hr : Room j X.A) (hk : k ≤ j) {E : L2.St → XK} (hx : ∀ σ, PassesAt (L2.CX X.prog X.w) X σ (E σ)) (he : PE X o ta) (ha : PA X (e :: es) t)
    (hst : starEach (e :: es) X.env = (false, eval e X.env) :: starEach es X.env := by rfl) (hpl : (backTo pos (starEach es X.env)).any (·.1) = false := by rfl)
    (ht : eval (.Call (.Attribute o m apos) (e :: es) [] pos) X.env = (do let ov ← eval o X.env; standAt apos.atName; let (f, first) ← holding [ov] (getMethod ov m pl); callWith pos f first (backTo pos (starEach (e :: es) X.env)) (backToKw pos (keywordEach [] X.env))) := by rfl) :
    PE X (.Call (.Attribute o m apos) (e :: es) [] pos) (tMethS C m sp E ta t) := by
  obtain ⟨f, fd, ps, hc, hm, F, b⟩ := c.ex
  refine ⟨fun pins s σ H Q I h => PySem.W.methodCall_KW (pl := pl) (thn (he.run pins s σ H _ I h) fun u s1 ⟨x, H1, I1, rx, a, dx, fs, ex, ea, l, q⟩ => ?_) ht⟩
  subst ex
  cases (show u = Value.ref a from rx)
  refine getmeth_ok I1 ea hc hm l (PySem.W.callWith_K (first := [.ref a]) (h₀ := X.base) I.ok.mod.kin hm.kp (thn (ha.run pos pins s1 σ H1 _ I1 q) fun us s2 ⟨vs, H2, I2, r, q2⟩ => ⟨I2.kIn, ?_⟩) hst hpl)
  exact run_fnS (us := .ref a :: us) (vs := .ref a :: vs) F (hr.mono hk) b (hx σ) I2 (.cons rfl r) q2
end

/-! ### == and != of instances by the class's own __eq__ -/
section
variable {prog : Program} {w : World} {A : Around} {E : Value → Shared → Prop} {s : Shared} {K : PySem.W.Frag} {x C f : Addr} {ox : Obj} {od : Option Obj}
/-- a builtin of the type object, found by the class -/
theorem ifBound_B {M : Model} {name : Str} {id : String} {args : List Value} {Q : Option Value → Shared → Prop} (X : K.In s.heap) (I : PySem.W.InstAt s.heap x ox C od)
    (hs : PySem.W.findIn K (.ref C) name = some (some (.builtin id))) (hb : bindSpecial (.builtin id) (.ref x) = pure (.builtin id, [.ref x]))
    (h : wpAny M A (call (.builtin id) (.ref x :: args)) (fun v => Q (some v)) E s) : wpAny M A (callSpecialIfBound? (.ref x) name args) Q E s := by
  simp only [callSpecialIfBound?, bindSpecialIfBound?]
  refine wpAny_holding (wpAny_bind (wpAny_bind (wpAny_bind (I.type.here ((PySem.W.looks_findIn X hs).here ?_)))))
  refine wpAny_bind (wpAny_askSetting (wpAny_ite ?_))
  have fin : wpAny M A (call (.builtin id) ([.ref x] ++ args) >>= fun v => pure (some v)) Q E s := wpAny_bind (wpAny_mono h (fun v s' h' => wpAny_pure h') fun _ _ h' => h')
  split
  · rw [hb]
    exact wpAny_bind (wpAny_pure (wpAny_pure (by exact fin)))
  · rw [hb]
    exact wpAny_tryCatch (wpAny_bind (wpAny_pure (wpAny_pure (by exact fin))))
end
section
variable {prog : Program} {w : World} {A : Around} {E : Value → Shared → Prop} {s : Shared} {K : PySem.W.Frag} {x C f L : Addr} {ox : Obj} {od : Option Obj} {h₀ : Heap} {m : Str → Option Value} {b : Value}
/-- what the written part says of a class without bases of its own, whose __ne__ is object's -/
structure NeC (K : PySem.W.Frag) (C f : Addr) : Prop where
  ob : ∃ nm q N bs hdct sn sub ab col dd k0 k1 k2 k3 k5 nid, K.lookup C = some (excClassObj nm q C N bs [.type "object"] hdct sn sub ab col dd k0 k1 k2 k3 k5 nid)
  ne : PySem.W.findIn K (.ref C) "__ne__" = some (some (.builtin "object.__ne__"))
  eq : PySem.W.findIn K (.ref C) "__eq__" = some (some (.ref f))
  fn : PySem.W.isFn K (.ref f) = true
def BackNe (Q : Value → Shared → Prop) (v : Value) (s' : Shared) : Prop := ∃ r, v = .bool r ∧ Q (.bool (!r)) s'
theorem ne_body (T : NeC K C f) (X : K.In s.heap) (I : PySem.W.InstAt s.heap x ox C od) (hu : A.units < cLine) {Q : Fin → Shared → Prop}
    (hc : wpAny (model prog w) A (call (.ref f) [.ref x, b]) (BackNe fun v s' => Q (.done (.ret v)) s') E s) :
    wpAny (model prog w) A (Builtin.«object.__ne__» ⟨[.ref x, b], []⟩) Q E s := by
  unfold Builtin.«object.__ne__»
  have step : wpAny (model prog w) A (callSpecialIfBound? (.ref x) (Str.ofString "__eq__") [b]) (fun o s' => ∃ r, o = some (.bool r) ∧ Q (.done (.ret (.bool (!r)))) s') E s :=
    PySem.W.ifBound_K X I T.eq T.fn (wpAny_mono hc (fun v s' hv => by obtain ⟨r, rfl, q⟩ := hv; exact ⟨r, rfl, q⟩) fun _ _ e => e)
  repeat (first
    | with_reducible refine wpAny_cRoomFor hu ?_
    | (refine wpAny_bind (m := callSpecialIfBound? (.ref x) (Str.ofString "__eq__") [b]) (wpAny_mono step (fun o s' ho => by
        obtain ⟨r, rfl, hq⟩ := ho
        repeat (first | exact hq | exact wpAny_pure hq | exact wpAny_truthy_bool hq | (refine wpAny_bind (m := truthy (.bool _)) (wpAny_truthy_bool ?_)) | wp_step)) fun _ _ e => e))
    | wp_step)
theorem ne_try (T : NeC K C f) (X : K.In s.heap) (I : PySem.W.InstAt s.heap x ox C od) (hu : A.units + 1 < cLine) {Q : Option Value → Shared → Prop}
    (hc : wpAny (model prog w) A.in1 (call (.ref f) [.ref x, b]) (BackNe fun v s' => Q (some v) s') E s) : wpAny (model prog w) A (tryCompare (.ref x) "__ne__" b) Q E s := by
  obtain ⟨nm, q, N, bs, hdct, sn, sub, ab, col, dd, k0, k1, k2, k3, k5, nid, hC⟩ := T.ob
  obtain ⟨hp, g, dr, tk, os⟩ := s
  simp only [tryCompare]
  refine wpAny_bind (ifBound_B X I T.ne (by first | rfl | kernel_rfl) (wpAny_call (codeAny_call_builtin PySem.F.cmp_object.ne.plain PySem.F.cmpEntry_ne
    (wpAny_check_slot_inst PySem.F.cmpKind_ne PySem.F.cmpSplit_ne (PySem.F.cmpArgs_ne _ _) PySem.F.cmp_object.hasObject I.at_ I.cls (X _ _ hC)
      (ne_body (A := A.in1) T X I hu (wpAny_mono hc (fun v s' hv => ?_) fun _ _ e => e))))))
  obtain ⟨r, rfl, hq⟩ := hv
  first | exact ⟨r, rfl, wpAny_pure hq⟩ | exact ⟨r, rfl, wpAny_pure (wpAny_pure hq)⟩ | exact ⟨r, rfl, hq⟩
end
end BF
set_option Elab.async false
set_option linter.all false
set_option maxRecDepth 100000
set_option maxHeartbeats 4000000
namespace BF
open PySem PySem.Spec PyProof.Rows L2
section
variable {prog : Program} {w : World} {A : Around} {E : Value → Shared → Prop} {s : Shared} {K : PySem.W.Frag} {x C f L y : Addr} {ox oy : Obj} {od oe : Option Obj}
theorem ne_rich (T : NeC K C f) (X : K.In s.heap) (I : PySem.W.InstAt s.heap x ox C od) (J : PySem.W.InstAt s.heap y oy C oe) (hu : A.units + 1 < cLine) {Q : Value → Shared → Prop}
    (hc : wpAny (model prog w) A.in1 (call (.ref f) [.ref x, .ref y]) (BackNe Q) E s) : wpAny (model prog w) A (richCompare .NotEq (.ref x) (.ref y)) Q E s := by
  unfold richCompare
  simp only [oneThing_ref]
  refine wpAny_holding (wpAny_bind (wpAny_cRoomFor (Nat.lt_of_succ_lt hu) ?_))
  rw [cmpInfo_NotEq]
  dsimp only
  refine wpAny_bind (I.type.here (wpAny_bind (J.type.here ?_)))
  rw [show (Value.ref C != Value.ref C) = false from by simp]
  simp only [Bool.false_eq_true, if_false]
  refine wpAny_bind (wpAny_pure ?_)
  simp only [Bool.false_eq_true, if_false]
  have z : wpAny (model prog w) A (tryCompare (.ref x) "__ne__" (.ref y)) (fun r s' => ∃ v, r = some v ∧ Q v s') E s :=
    ne_try T X I hu (wpAny_mono hc (fun v s' hv => by obtain ⟨r, rfl, hq⟩ := hv; exact ⟨r, rfl, _, rfl, hq⟩) fun _ _ e => e)
  refine wpAny_bind (wpAny_mono z (fun r s' hr => ?_) fun _ _ e => e)
  obtain ⟨v, rfl, hq⟩ := hr
  first | exact wpAny_pure hq | exact wpAny_pure (wpAny_pure hq)
end
section
variable {X : Cx} {n : Nat} {C f : Addr} {fd : FuncData} {ps : List Str} {CX : CXT} {sp : Sp}
/-- x == y, x != y: instances of the class at C; sp: what its __eq__ promises -/
def rEqO (C : Addr) (sp : Sp) (g : Bool → Bool) : R2 := fun x y H Q => ∃ a b dx dy fs gs, x = .ref a ∧ y = .ref b ∧ H a = some (.ins C dx fs) ∧ H b = some (.ins C dy gs) ∧ sp [.ref a, .ref b] H (fun v H' => ∃ r, v = .bl r ∧ Q (.bl (g r)) H') (fun _ _ _ => False)
theorem run_eqO {A : Around} {pins : List (Addr × Obj)} {s : Shared} {σ : L2.St} {H : Hp} {a b : Addr} {Q : VK} {R : Value → Shared → Prop} (F : FnOk X.prog X.w X.K X.mg X.base CX n f fd ps sp) (hb : Binds X.K fd ps []) (hx : Passes CX X (fun _ _ _ => False))
    (hr : Room n A) (hf : A.frames = X.A.frames) (I : Inv X pins σ H s) (h : sp [.ref a, .ref b] H Q (fun _ _ _ => False)) (hR : ∀ v u s' H', Inv X pins σ H' s' → RelV v u → Q v H' → R u s') :
    wpAny (model X.prog X.w) A (call (.ref f) [.ref a, .ref b]) R X.xe s := by
  have e0 : Env0 X.prog X.w X.K X.mg X.base A X.stack s H := by
    have e := I.env0
    exact ⟨by rw [hf]; exact e.frames, e.mod, e.bs, e.bsz, e.funs, e.frf, e.hok, e.bare⟩
  have hl := F.len _ _ _ _ h
  have r2 : Vals [V.ref a, V.ref b] [Value.ref a, Value.ref b] := .cons rfl (.cons rfl .nil)
  have bb := hb s [.ref a, .ref b] I.kIn (by rw [List.append_nil]; exact hl)
  rw [List.append_nil] at bb
  refine wpAny_call (codeAny_mono (F.run A X.stack s H ⟨[.ref a, .ref b], []⟩ [.ref a, .ref b] [.ref a, .ref b] _ _ hr e0 bb r2 h) fun r s' hq => ?_)
  cases r with
  | error e => exact hx pins σ H s e s' I hq
  | ok fl =>
    cases fl with
    | ret u =>
      obtain ⟨v, H', I', rv, q⟩ := I.after hq
      exact hR v u s' H' I' rv q
    | next => exact False.elim hq
    | brk => exact False.elim hq
    | cont => exact False.elim hq
theorem op_eqO (F : FnOk X.prog X.w X.K X.mg X.base CX n f fd ps sp) (hb : Binds X.K fd ps []) (hx : Passes CX X (fun _ _ _ => False)) (T : NeC X.K C f) (hr : Room n X.A) : OpR X (compareOp .Eq) (rEqO C sp id) := by
  intro pins s σ H x y u v Q I rx ry h
  obtain ⟨a, b, dx, dy, fs, gs, rfl, rfl, ha, hb', hs⟩ := h
  cases rx
  cases ry
  obtain ⟨mA, J, _⟩ := ins_get I.hok ha
  obtain ⟨mB, J', _⟩ := ins_get I.hok hb'
  obtain ⟨od, J, _⟩ := J.look
  obtain ⟨od', J', _⟩ := J'.look
  obtain ⟨m, hF⟩ := I.fr
  refine PySem.W.cmp_K (op := .Eq) (tb := .ref C) hr.units0 hF I.ok.mod.kin J J'.type (by simp [PySem.W.notFirst]) T.eq T.fn ?_
  refine run_eqO F hb hx hr rfl I hs fun v u s' H' I' rv q => ?_
  obtain ⟨r, rfl, q⟩ := q
  cases rv
  exact ⟨.bl r, H', I', rfl, q⟩
theorem op_neO (F : FnOk X.prog X.w X.K X.mg X.base CX n f fd ps sp) (hb : Binds X.K fd ps []) (hx : Passes CX X (fun _ _ _ => False)) (T : NeC X.K C f) (hr : Room (n + 1) X.A) : OpR X (compareOp .NotEq) (rEqO C sp not) := by
  intro pins s σ H x y u v Q I rx ry h
  obtain ⟨a, b, dx, dy, fs, gs, rfl, rfl, ha, hb', hs⟩ := h
  cases rx
  cases ry
  obtain ⟨mA, J, _⟩ := ins_get I.hok ha
  obtain ⟨mB, J', _⟩ := ins_get I.hok hb'
  obtain ⟨od, J, _⟩ := J.look
  obtain ⟨od', J', _⟩ := J'.look
  refine ne_rich (s := s) T I.kIn J J' (by have := hr.un; omega) ?_
  refine run_eqO F hb hx hr.in1 rfl I hs fun v u s' H' I' rv q => ?_
  obtain ⟨r, rfl, q⟩ := q
  cases rv
  exact ⟨r, rfl, .bl (!r), H', I', rfl, q⟩
end

/-! ### == and != of dicts whose values are data -/
section
variable {X : Cx}
/-- the dict at a: keys and data -/
def DkD (K : PySem.W.Frag) (H : Hp) (x : V) (ds : List (Key × PyData)) : Prop := ∃ a kvs, x = .ref a ∧ H a = some (.dK kvs) ∧ Paired (fun (p : Key × V) (q : Key × PyData) => p.1 = q.1 ∧ Dp K H p.2 q.2 ∧ SeqAt.shaped q.2 = true) kvs ds
def eqKD (ds es : List (Key × PyData)) : Bool := ds.length == es.length && ds.all fun p => match es.find? fun q => decide (q.1 = p.1) with | some q => PyData.eqv p.2 q.2 | none => false
theorem paired_find {K : PySem.W.Frag} {H : Hp} : ∀ {kvs : List (Key × V)} {ds : List (Key × PyData)} (k : Key), Paired (fun (p : Key × V) (q : Key × PyData) => p.1 = q.1 ∧ Dp K H p.2 q.2 ∧ SeqAt.shaped q.2 = true) kvs ds →
    (valV kvs k = none ∧ ds.find? (fun q => decide (q.1 = k)) = none) ∨ ∃ v q, valV kvs k = some v ∧ ds.find? (fun q => decide (q.1 = k)) = some q ∧ Dp K H v q.2 ∧ SeqAt.shaped q.2 = true
  | _, _, _, .nil => .inl ⟨rfl, rfl⟩
  | (k1, v) :: kvs, (k2, d) :: ds, k, .cons h t => by
    obtain ⟨e, hd, sd⟩ := h
    cases (show k1 = k2 from e)
    by_cases hk : k1 = k
    · exact .inr ⟨v, (k1, d), by simp [valV, hk], by simp [hk], hd, sd⟩
    · have ih := paired_find k t
      rw [show valV ((k1, v) :: kvs) k = valV kvs k from by simp [valV, hk], show ((k1, d) :: ds).find? (fun q => decide (q.1 = k)) = ds.find? (fun q => decide (q.1 = k)) from by simp [hk]]
      exact ih
theorem hits_data {A : Around} {pins : List (Addr × Obj)} {σ : L2.St} {H : Hp} {s : Shared} (I : Inv X pins σ H s) (hu : A.in1.units + 64 < cLine) {ls : List (Key × V)} {es : List (Key × PyData)} {vb : List (Key × Value)} (rb : KV ls vb)
    (pb : Paired (fun (p : Key × V) (q : Key × PyData) => p.1 = q.1 ∧ Dp X.K H p.2 q.2 ∧ SeqAt.shaped q.2 = true) ls es) :
    ∀ {ks : List (Key × V)} {ds : List (Key × PyData)} {va : List (Key × Value)}, KV ks va → Paired (fun (p : Key × V) (q : Key × PyData) => p.1 = q.1 ∧ Dp X.K H p.2 q.2 ∧ SeqAt.shaped q.2 = true) ks ds →
      PySem.W.KeqHits A.in1 s vb va (ds.all fun p => match es.find? fun q => decide (q.1 = p.1) with | some q => PyData.eqv p.2 q.2 | none => false)
  | _, _, _, .nil, .nil => .nil
  | (k1, v) :: ks, (k2, d) :: ds, (k3, u) :: va, .cons r t, .cons p t' => by
    obtain ⟨e, hd, sd⟩ := p
    obtain ⟨e2, ru⟩ := r
    cases (show k1 = k2 from e)
    cases (show k1 = k3 from e2)
    have ih := hits_data (A := A) I hu rb pb t t'
    have rv := rb.val k1
    rcases paired_find k1 pb with ⟨n1, n2⟩ | ⟨v', q, n1, n2, hq, sq⟩
    · rw [n1] at rv
      have hn : valueAt vb k1 = none := by
        cases c : valueAt vb k1 with
        | none => rfl
        | some y => rw [c] at rv; exact False.elim rv
      simp only [List.all_cons, n2, Bool.false_and]
      exact .miss hn
    · rw [n1] at rv
      obtain ⟨y, hy, ry⟩ := rv.some_of
      obtain ⟨as, r1⟩ := Dp.reads I d v u hd ru
      obtain ⟨bs, r2⟩ := Dp.reads I q.2 v' y hq ry
      simp only [List.all_cons, n2]
      exact .hit hy (PySem.W.keq_at r1 r2 sd sq hu) ih
def rEqDD (K : PySem.W.Frag) (g : Bool → Bool) : R2 := fun x y H Q => ∃ ds es, DkD K H x ds ∧ DkD K H y es ∧ Q (.bl (g (eqKD ds es))) H
theorem op_eqDD (hu : X.A.units + 65 < cLine) : OpR X (compareOp .Eq) (rEqDD X.K id) := by
  intro pins s σ H x y v u Q I rx ry h
  obtain ⟨ds, es, ⟨a, ks, rfl, ea, pa⟩, ⟨b, ls, rfl, eb, pb⟩, q⟩ := h
  cases rx
  cases ry
  obtain ⟨_, ya, va, ra, da⟩ := (show ObjOk X.prog X.w H s.heap a (.dK ks) from I.hok a _ ea)
  obtain ⟨_, yb, vb, rb, db⟩ := (show ObjOk X.prog X.w H s.heap b (.dK ls) from I.hok b _ eb)
  have hl : (va.length == vb.length) = (ds.length == es.length) := by rw [← ra.length, ← rb.length, pa.length, pb.length]
  have hu1 : X.A.in1.units + 64 < cLine := by show X.A.units + 1 + 64 < cLine; omega
  exact PySem.W.keq_eq (knd := mixKind X.prog X.w) ya yb da db (by omega) (fun _ => hits_data I hu1 rb pb ra pa) (fin_bl I q (by simp only [id]; unfold eqKD; rw [hl]))
theorem op_neDD (hu : X.A.units + 65 < cLine) : OpR X (compareOp .NotEq) (rEqDD X.K not) := by
  intro pins s σ H x y v u Q I rx ry h
  obtain ⟨ds, es, ⟨a, ks, rfl, ea, pa⟩, ⟨b, ls, rfl, eb, pb⟩, q⟩ := h
  cases rx
  cases ry
  obtain ⟨_, ya, va, ra, da⟩ := (show ObjOk X.prog X.w H s.heap a (.dK ks) from I.hok a _ ea)
  obtain ⟨_, yb, vb, rb, db⟩ := (show ObjOk X.prog X.w H s.heap b (.dK ls) from I.hok b _ eb)
  have hl : (va.length == vb.length) = (ds.length == es.length) := by rw [← ra.length, ← rb.length, pa.length, pb.length]
  have hu1 : X.A.in1.units + 64 < cLine := by show X.A.units + 1 + 64 < cLine; omega
  exact PySem.W.keq_ne (knd := mixKind X.prog X.w) ya yb da db (by omega) (fun _ => hits_data I hu1 rb pb ra pa) (fin_bl I q (by unfold eqKD; rw [hl]))
end
end BF
set_option Elab.async false
set_option linter.all false
set_option maxRecDepth 100000
set_option maxHeartbeats 4000000
namespace BF
open PySem PySem.Spec PyProof.Rows L2
section
variable {X : Cx}
/-- sorted(a tuple of texts) -/
def rSortT (K : PySem.W.Frag) : List V → Hp → VK → Prop := fun vs H Q => ∃ (a : Addr) (ks : List Str), vs = [.ref a] ∧ SqT K H a (ks.map V.str) ∧ ks.length < 64 ∧
  ∀ (ys : List Str) (p : Addr), ys.Perm ks → sortedS ys = true → H p = none → Q (.ref p) (upd H p (.lst (ys.map V.str)))
theorem cr_sortedTS : CallR X (.builtin "sorted") (rSortT X.K) := by
  intro pins s σ H xs us Q I r h
  obtain ⟨a, ks, rfl, hT, h64, q⟩ := h
  rw [Vals.ref1 r]
  obtain ⟨its, rv, pl, hz⟩ := I.tuple hT
  obtain ⟨o, ho, hc, n, hd⟩ := pl
  have hlen : its.length = ks.length := by rw [← rv.length, List.length_map]
  have hS : StrsAre its ks := rv.strs
  have h16 : its.length ≤ sizeLine := by rw [hlen, sizeLine_eq]; omega
  refine Calls.call_function_entry PyProof.Rows.kind_sorted PyProof.Rows.plain_sorted PyProof.Rows.entry_sorted (PyProof.Rows.args_sorted1 _) ?_
  unfold Builtin.«sorted»
  refine wpAny_bind (m := checkCount "sorted" 1 1 _) (wpAny_pure ?_)
  refine wpAny_bind (wpAny_collect_seq a (.inr rfl) ho hc hd (fun h' kp => ?_) (by rw [List.size_toArray]; exact h16))
  have I1 : Inv X pins σ H { s with heap := h' } := I.kept (t' := s.toks) kp
  have hS' : StrsAre its.toArray.toList ks := by simpa using hS
  have hl' : its.toArray.toList.length = ks.length := by simpa using hlen
  refine wpAny_bind (wpAny_newList ?_ (by rw [hl', sizeLine_eq]; omega))
  have hoL : (h'.push (seqObj "list" its.toArray.toList.toArray 0)).get? h'.objs.size = some (seqObj "list" its.toArray.toList.toArray 0) := Heap.get?_push_size _ rfl
  show wpAny _ _ _ _ _ { s with heap := h'.push (seqObj "list" its.toArray.toList.toArray 0) }
  refine wpAny_bind (wpAny_holding (wpAny_call_entry PyProof.Rows.slot_list_sort ⟨_, hoL, rfl⟩ PyProof.Rows.entry_list_sort (list_sort_treeK strKind_oneLt hoL hS'.keysOf (fun v₁ v₂ rest e => keyKind_strs (by rw [← e]; exact hS')) (by rw [hl']; exact h64) fun st' hp hs => ⟨_, rfl, ?_⟩) (PyProof.Rows.args_list_sort _)))
  obtain ⟨ys, g1, g2, g3⟩ := sorted_out_str hS' hp hs
  obtain ⟨ep, hep⟩ := PyProof.Rows.sortedHeap_at (vs := its.toArray.toList) (out := (arrOf st').map (·.2)) hoL
  have hfit : (ys.map V.str).length ≤ sizeLine := by
    rw [List.length_map, g2.length_eq, sizeLine_eq]
    omega
  have old : ∀ b u, h'.get? b = some u → (sortedHeap (h'.push (seqObj "list" its.toArray.toList.toArray 0)) h'.objs.size its.toArray.toList ((arrOf st').map (·.2))).get? b = some u := fun b u e => by
    have hb : b < h'.objs.size := Heap.lt_size e
    rw [PyProof.Rows.sortedHeap_old (Nat.ne_of_lt hb) (by rw [size_push']; exact Nat.lt_succ_of_lt hb)]
    exact Heap.get?_push_of_some _ e
  exact wpAny_pure ⟨_, rfl, .ref h'.objs.size, _, I1.laid (t' := s.toks) old (Nat.le_refl _) (show ObjOk X.prog X.w _ _ _ (.lst (ys.map V.str)) from ⟨hfit, ((arrOf st').map (·.2)).toList, ep, vals_of_strs g1, by rw [Array.toArray_toList]; exact hep⟩), rfl, q ys _ g2 g3 (I1.hok.fresh (Nat.le_refl _))⟩
end
end BF
set_option Elab.async false
set_option linter.all false
set_option maxRecDepth 100000
set_option maxHeartbeats 4000000
namespace BF
open PySem PySem.Spec PyProof.Rows L2
section
variable {prog : Program} {w : World} {A : Around} {E : Value → Shared → Prop} {s : Shared}
/-- t[::-1] of a pair -/
theorem rev_pair {t sl : Addr} {u v : Value} {tk : Tok} {Q : Value → Shared → Prop} (ht : IsTup s.heap t #[u, v]) (hs : s.heap.IsSliceOf sl .none .none (.int (-1) tk))
    (h : Q (.ref s.heap.objs.size) { s with heap := s.heap.push { cls := .type "tuple", data := .seq #[v, u] } }) : wpAny (model prog w) A (getItem (.ref t) (.ref sl)) Q E s := by
  obtain ⟨os, hos, hcs, hds⟩ := id hs
  have hTs : s.TypeIs (.ref sl) "slice" := ⟨os, hos, hcs⟩
  have run : ∀ {Q : Int × Int × Nat → Shared → Prop} {E : Value → Shared → Prop}, Q (1, -1, 2) s → wpAny (model prog w) A.in1 (Builtin.Slice.sliceApplied (.ref sl) (pure (2 : Int))) Q E s := fun {Q E} q => by
    unfold Builtin.Slice.sliceApplied Builtin.Slice.sliceFields
    refine wpAny_bind (wpAny_bind (wpAny_field hos hds (x := .none) rfl (wpAny_bind (wpAny_field hos hds (x := .none) rfl (wpAny_bind (wpAny_field hos hds (x := .int (-1) tk) rfl (wpAny_pure ?_)))))))
    refine wpAny_bind (slicePart_int ?_)
    show wpAny _ _ (if ((-1 : Int) == 0) = true then _ else _) _ _ s
    rw [if_neg (by decide)]
    exact wpAny_bind (slicePart_none (wpAny_bind (slicePart_none (wpAny_bind (wpAny_pure (wpAny_pure q))))))
  have big : sizeOk (.seq #[v, u]) := by
    show 2 ≤ sizeLine
    rw [sizeLine_eq]
    omega
  unfold getItem
  try with_reducible refine wpAny_holding ?_
  first | refine wpAny_bind (wpAny_pure ?_) | skip
  refine wpAny_bind (wpAny_sequenceKey ht.typeIs (by decide) ?_)
  refine wpAny_bind (wpAny_callSpecial?_slot (name := Str.ofString "__getitem__") ht.typeIs PyProof.Rows.slot_tuple_getitem
    (wpAny_call_entry PyProof.Rows.slot_tuple_getitem ht.typeIs entry_tuple_getitem ?_ (args_tuple_getitem _ _)))
  refine wpAny_bind (m := Builtin.Tuple.tupleItemsOf (.ref t)) (tupleItemsOf_ ht ?_)
  refine wpAny_bind (wpAny_typeOf hTs ?_)
  rw [if_pos (by decide)]
  refine wpAny_bind (run ?_)
  show wpAny _ _ (if ((1 : Int) == 0 && (-1 : Int) == 1 && 2 == 2) = true then _ else _) _ _ s
  rw [if_neg (by decide)]
  have e : ((List.range 2).filterMap fun (k : Nat) => (#[u, v] : Array Value)[((1 : Int) + (k : Int) * (-1)).toNat]?).toArray = #[v, u] := by rfl
  rw [e]
  first
    | exact wpAny_bind (m := Builtin.Tuple.tupleExact _) (wpAny_newObj_type (wpAny_pure ⟨_, rfl, wpAny_pure h⟩) big)
    | exact wpAny_bind (m := Builtin.Tuple.tupleExact _) (wpAny_newObj_type (wpAny_bind (wpAny_pure (wpAny_pure ⟨_, rfl, wpAny_pure h⟩))) big)
    | exact wpAny_bind (wpAny_bind (m := Builtin.Tuple.tupleExact _) (wpAny_newObj_type (wpAny_pure (wpAny_pure ⟨_, rfl, wpAny_pure h⟩)) big))
end
section
variable {X : Cx}
def tRevT (K : PySem.W.Frag) (te : TE) : TE := fun σ H Q => te σ H fun x H1 => ∃ a y z, x = .ref a ∧ SqT K H1 a [y, z] ∧ ∀ p, H1 p = none → Q (.ref p) (upd H1 p (.tup [z, y]))
theorem pe_revT {e : Expr} {te : TE} {k : Nat} {p1 p2 p3 pos : Pos} (he : PE X e te) : PE X (.Subscript e (.Slice none none (some (.UnaryOp .USub (.Constant (.int 1) k p1) p2)) p3) pos) (tRevT X.K te) := by
  refine ⟨fun pins s σ H Q I h => Subscript_ (thn (he.run pins s σ H _ I h) fun v s1 ⟨x, H1, I1, r1, a, y, z, ex, hx, q⟩ => ?_)⟩
  subst ex
  cases r1
  have step : PO X (some (.UnaryOp .USub (.Constant (.int 1) k p1) p2)) (tPart (tUn (rU fun i => .int (-i)) (tC (.int 1)))) := po_some (pe_un un_neg pe_int)
  refine wpAny_Slice (thn (po_none.run pins s1 σ H1 (fun o H2 => o = none ∧ H2 = H1) I1 ⟨rfl, rfl⟩) fun vl s2 ⟨l, H2, I2, pl, el, e2⟩ => ?_)
  subst el e2
  refine thn (po_none.run pins s2 σ H2 (fun o H3 => o = none ∧ H3 = H2) I2 ⟨rfl, rfl⟩) fun vu s3 ⟨u, H3, I3, pu, eu, e3⟩ => ?_
  subst eu e3
  refine thn (step.run pins s3 σ H3 (fun o H4 => o = some (-1) ∧ H4 = H3) I3 ⟨1, rfl, -1, rfl, rfl, rfl⟩) fun vs s4 ⟨o, H4, I4, ps, eo, e4⟩ => ?_
  subst eo e4
  cases pl
  cases pu
  cases ps with
  | int i tk =>
    have I5 : Inv X pins σ H4 { s4 with heap := s4.heap.push { cls := .type "slice", data := .fields #[.none, .none, .int (-1) tk] } } := I4.kept (t' := s4.toks) fun b ob q => Heap.get?_push_of_some _ q
    obtain ⟨its, r, ht, hz⟩ := I5.tuple hx
    cases r with
    | cons ry r =>
      cases r with
      | cons rz r =>
        cases r
        refine tail_any (ops := [.ref a, .ref s4.heap.objs.size]) ht.typeIs (PyProof.Rows.slot_tuple_getitem.lookup) ?_ (by with_unfolding_all rfl)
        refine rev_pair ht (Heap.IsSliceOf.new _ _ _ _) ⟨.ref _, _, I5.laid (t' := s4.toks) (o := .tup [z, y]) (fun b ob q => Heap.get?_push_of_some _ q) (Nat.le_refl _) ?_, rfl, q _ (I5.hok.fresh (Nat.le_refl _))⟩
        exact ⟨by show 2 ≤ sizeLine; rw [sizeLine_eq]; omega, _, .cons rz (.cons ry .nil), IsTup.new _ _⟩
end
end BF
set_option Elab.async false
set_option linter.all false
set_option maxRecDepth 100000
set_option maxHeartbeats 4000000
namespace BF
open PySem PySem.Spec PyProof.Rows L2
/-! ### rules that name the written part: K is said, so that they serve within comprehensions -/
section
variable {X : Cx}
theorem in_seqK (K : PySem.W.Frag) (h : X.K = K := by rfl) : OpR X (compareOp .In) (rIn K false) := by
  subst h
  exact op_in_seq
theorem notIn_seqK (K : PySem.W.Frag) (h : X.K = K := by rfl) : OpR X (compareOp .NotIn) (rIn K true) := by
  subst h
  exact op_notIn_seq
theorem isiK (K : PySem.W.Frag) (h : X.K = K := by rfl) : CallR X (.builtin "isinstance") (rIsi K) := by
  subst h
  exact call_isi
theorem lenK (K : PySem.W.Frag) (h : X.K = K := by rfl) : CallR X (.builtin "len") (fun xs H Q => ∃ x n, xs = [x] ∧ LenV K x H n ∧ Q (.int (n : Nat)) H) := by
  subst h
  exact call_len
theorem allK (K : PySem.W.Frag) (hc : X.calm = true) (h : X.K = K := by rfl) : CallR X (.builtin "all") (rAll K) := by
  subst h
  exact cr_all hc
theorem anyK (K : PySem.W.Frag) (hc : X.calm = true) (h : X.K = K := by rfl) : CallR X (.builtin "any") (rAny K) := by
  subst h
  exact cr_any hc
theorem sortedSK (K : PySem.W.Frag) (h : X.K = K := by rfl) : CallR X (.builtin "sorted") (rSortedS K) := by
  subst h
  exact cr_sortedS
theorem sortedTK (K : PySem.W.Frag) (h : X.K = K := by rfl) : CallR X (.builtin "sorted") (rSortT K) := by
  subst h
  exact cr_sortedTS
theorem listK (K : PySem.W.Frag) (h : X.K = K := by rfl) : CallR X (.type "list") (fun xs H Q => ∃ p ys, xs = [.ref p] ∧ (SqL K H p ys ∨ SqT K H p ys) ∧ ∀ l, H l = none → Q (.ref l) (upd H l (.lst ys))) := by
  subst h
  exact call_list_of
theorem tupleK (K : PySem.W.Frag) (h : X.K = K := by rfl) : CallR X (.type "tuple") (fun xs H Q => ∃ p ys, xs = [.ref p] ∧ ((SqL K H p ys ∧ ∀ l, H l = none → Q (.ref l) (upd H l (.tup ys))) ∨ (SqT K H p ys ∧ Q (.ref p) H))) := by
  subst h
  exact call_tuple_of
theorem dictPK (K : PySem.W.Frag) (hc : X.calm = true) (h : X.K = K := by rfl) : CallR X (.type "dict") (fun xs H Q => ∃ (a : Addr) (ps : List Addr) (kvs : List (Key × V)), xs = [.ref a] ∧ SqL K H a (ps.map V.ref) ∧
    Paired (fun p kv => SqT K H p [kV kv.1, kv.2]) ps kvs ∧ ∀ p, H p = none → Q (.ref p) (upd H p (.dK (mergeK [] kvs)))) := by
  subst h
  exact call_dictP hc
theorem ixLK (K : PySem.W.Frag) (h : X.K = K := by rfl) : IxR X (rIxL K) := by
  subst h
  exact ix_list
theorem ixTK (K : PySem.W.Frag) (h : X.K = K := by rfl) : IxR X (rIxT K) := by
  subst h
  exact ix_tup
theorem ixQK (K : PySem.W.Frag) (h : X.K = K := by rfl) : IxR X (rIx K) := by
  subst h
  exact ix_seq
theorem slLK (K : PySem.W.Frag) (h : X.K = K := by rfl) : SlR X (rSlL K) := by
  subst h
  exact sl_list
theorem slTK (K : PySem.W.Frag) (h : X.K = K := by rfl) : SlR X (rSlA K) := by
  subst h
  exact sl_tupA
theorem catTK (K : PySem.W.Frag) (h : X.K = K := by rfl) : OpR X (binaryOp .Add) (rCatA K) := by
  subst h
  exact op_catA
theorem eqDK {k : Nat} (K : PySem.W.Frag) (hr : Room k X.A) (h : X.K = K := by rfl) : OpR X (compareOp .Eq) (rEqD K) := by
  subst h
  exact op_eqD hr.units
theorem neDK {k : Nat} (K : PySem.W.Frag) (hr : Room k X.A) (h : X.K = K := by rfl) : OpR X (compareOp .NotEq) (rNeD K) := by
  subst h
  exact op_neD hr.units
theorem eqDDK {k : Nat} (K : PySem.W.Frag) (hr : Room k X.A) (h : X.K = K := by rfl) : OpR X (compareOp .Eq) (rEqDD K id) := by
  subst h
  exact op_eqDD (by have := hr.un; omega)
theorem neDDK {k : Nat} (K : PySem.W.Frag) (hr : Room k X.A) (h : X.K = K := by rfl) : OpR X (compareOp .NotEq) (rEqDD K not) := by
  subst h
  exact op_neDD (by have := hr.un; omega)
theorem pe_fldK (K : PySem.W.Frag) {e : Expr} {ta : TE} {f : Str} {pos : Pos} (he : PE X e ta) (hb : attributeBase e f X.env (eval e X.env) = eval e X.env) (h : X.K = K := by rfl) : PE X (.Attribute e f pos) (tFld K ta f) := by
  subst h
  exact pe_fld he hb
theorem pe_revTK (K : PySem.W.Frag) {e : Expr} {te : TE} {k : Nat} {p1 p2 p3 pos : Pos} (he : PE X e te) (h : X.K = K := by rfl) : PE X (.Subscript e (.Slice none none (some (.UnaryOp .USub (.Constant (.int 1) k p1) p2)) p3) pos) (tRevT K te) := by
  subst h
  exact pe_revT he
theorem pi_listK (K : PySem.W.Frag) {tg l : Expr} {tl : TE} (hl : PE X l tl) (h : X.K = K := by rfl) : PI X tg l (iList K tl) := by
  subst h
  exact pi_list hl
end
end BF
set_option Elab.async false
set_option linter.all false
set_option maxRecDepth 100000
set_option maxHeartbeats 4000000
namespace BF
open PySem PySem.Spec PyProof.Rows L2
/-! ### the same rules, the name's binding asked last: in a try's body the context is known late -/
section
variable {X : Cx} {k j : Nat} {C f : Addr} {x m : Str} {sp : Sp} {p pos apos : Pos} {e o : Expr} {es : List Expr} {ta : TE} {t : TA} {W : WX}
theorem pe_cS2 (c : CalX X.prog X.w X.K X.mg X.base k x sp) (hr : Room j X.A) (hk : k ≤ j) {E : L2.St → XK} (hx : ∀ σ, PassesAt (L2.CX X.prog X.w) X σ (E σ)) (ha : PA X (e :: es) t) (hg : Gl X x := by rfl)
    (hdb : (x == ("__debug__" : Str)) = false := by decide) (he : starEach (e :: es) X.env = (false, eval e X.env) :: starEach es X.env := by rfl) (hpl : (backTo pos (starEach es X.env)).any (·.1) = false := by rfl) :
    PE X (.Call (.Name x p) (e :: es) [] pos) (tCallS sp E t) := pe_cS c hr hk hg hx ha hdb he hpl
theorem pe_mkS2 (c : MakX X.prog X.w X.K X.mg X.base k x C sp) (hr : Room j X.A) (hk : k + 1 ≤ j) {E : L2.St → XK} (hx : ∀ σ, PassesAt (L2.CX X.prog X.w) X σ (E σ)) (ha : PA X (e :: es) t) (hg : Gl X x := by rfl)
    (hdb : (x == ("__debug__" : Str)) = false := by decide) (he : starEach (e :: es) X.env = (false, eval e X.env) :: starEach es X.env := by rfl) (hpl : (backTo pos (starEach es X.env)).any (·.1) = false := by rfl) :
    PE X (.Call (.Name x p) (e :: es) [] pos) (tMakeS C sp E t) := pe_mkS c hr hk hg hx ha hdb he hpl
end
end BF
set_option Elab.async false
set_option linter.all false
set_option maxRecDepth 100000
set_option maxHeartbeats 4000000
namespace BF
open PySem PySem.Spec PyProof.Rows L2
/-! ### the well: a list of three ints that draws change -/
def isW : HO → Bool
  | .lst [.int _, .int _, .int _] => true
  | _ => false
def WellAt (H : Hp) (w : Addr) : Prop := ∃ a b c : Int, H w = some (.lst [.int a, .int b, .int c])
/-- all but the well stands, the well is a well still -/
structure Kp (w : Addr) (H H' : Hp) : Prop where
  keep : ∀ b o, b ≠ w → H b = some o → H' b = some o
  well : WellAt H w → WellAt H' w
theorem WellAt.ne {H : Hp} {w p : Addr} (h : WellAt H w) (hp : H p = none) : p ≠ w := fun e => by
  obtain ⟨a, b, c, q⟩ := h
  rw [e, q] at hp
  cases hp
theorem WellAt.neo {H : Hp} {w p : Addr} {o : HO} (h : WellAt H w) (hp : H p = some o) (ho : isW o = false) : p ≠ w := fun e => by
  obtain ⟨a, b, c, q⟩ := h
  rw [e, q] at hp
  cases hp
  exact absurd ho (by simp [isW])
theorem Kp.refl (w : Addr) (H : Hp) : Kp w H H := ⟨fun _ _ _ h => h, id⟩
theorem Kp.trans {w : Addr} {H H1 H2 : Hp} (a : Kp w H H1) (b : Kp w H1 H2) : Kp w H H2 := ⟨fun c o n h => b.keep c o n (a.keep c o n h), fun h => b.well (a.well h)⟩
theorem Kp.same {w : Addr} {H H' : Hp} (s : Same H H') : Kp w H H' := ⟨fun c o _ h => s c o h, fun ⟨a, b, c, h⟩ => ⟨a, b, c, s _ _ h⟩⟩
theorem Kp.get {w : Addr} {H H' : Hp} (k : Kp w H H') (hw : WellAt H w) {p : Addr} {o : HO} (h : H p = some o) (ho : isW o = false := by rfl) : H' p = some o := k.keep p o (hw.neo h ho) h
theorem Kp.free {w : Addr} {H H' : Hp} (k : Kp w H H') (hw : WellAt H w) {p : Addr} (h : H' p = none) : H p = none := by
  have ne : p ≠ w := (k.well hw).ne h
  cases e : H p with
  | none => rfl
  | some o => rw [k.keep p o ne e] at h; cases h
/-- something new is laid -/
theorem Same.new {H : Hp} {p : Addr} {o : HO} (h : H p = none) : Same H (upd H p o) := fun b u e => by rw [upd_ne (ne_of_none e h)]; exact e
/-- what was laid since H is changed -/
theorem Same.put {H H1 : Hp} {p : Addr} {o : HO} (s : Same H H1) (h : H p = none) : Same H (upd H1 p o) := fun b u e => by rw [upd_ne (ne_of_none e h)]; exact s b u e
theorem Kp.put {w : Addr} {H H1 : Hp} {p : Addr} {o : HO} (k : Kp w H H1) (hw : WellAt H w) (h : H p = none) : Kp w H (upd H1 p o) :=
  have ne : p ≠ w := hw.ne h
  ⟨fun b u n e => by rw [upd_ne (ne_of_none e h)]; exact k.keep b u n e, fun q => by
    obtain ⟨a, b, c, z⟩ := k.well q
    exact ⟨a, b, c, by rw [upd_ne ne.symm]; exact z⟩⟩
theorem Kp.set {w : Addr} {H : Hp} {a b c : Int} : Kp w H (upd H w (.lst [.int a, .int b, .int c])) := ⟨fun p o n e => by rw [upd_ne n]; exact e, fun _ => ⟨a, b, c, upd_same⟩⟩
theorem WellAt.put {H : Hp} {w p : Addr} {o : HO} (h : WellAt H w) (ne : p ≠ w) : WellAt (upd H p o) w := by
  obtain ⟨a, b, c, z⟩ := h
  exact ⟨a, b, c, by rw [upd_ne ne.symm]; exact z⟩
theorem WellAt.same {H H' : Hp} {w : Addr} (h : WellAt H w) (s : Same H H') : WellAt H' w := by
  obtain ⟨a, b, c, z⟩ := h
  exact ⟨a, b, c, s _ _ z⟩
theorem isW_strs (xs : List Str) : isW (.lst (xs.map V.str)) = false := by
  match xs with
  | [] => rfl
  | [a] => rfl
  | [a, b] => rfl
  | [a, b, c] => rfl
  | a :: b :: c :: d :: r => rfl
/-! ### promises of the law's drawing -/
def spSource : Sp := fun vs H Q _ => ∃ c : Int, vs = [.int c] ∧ ∀ p H', H p = none → Same H H' → WellAt H' p → Q (.ref p) H'
def spDraw : Sp := fun vs H Q _ => ∃ (w : Addr) (m : Int), vs = [.ref w, .int m] ∧ WellAt H w ∧ 1 ≤ m ∧ m < 1073741824 ∧ ∀ n H', 0 ≤ n → n < m → Kp w H H' → Q (.int n) H'
/-- from a list that stands still, or a text -/
def spPick : Sp := fun vs H Q _ => ∃ (w : Addr) (x : V), vs = [.ref w, x] ∧ WellAt H w ∧
  ((∃ a xs, x = .ref a ∧ H a = some (.lst xs) ∧ isW (.lst xs) = false ∧ xs ≠ [] ∧ xs.length < 1000 ∧ ∀ v H', v ∈ xs → Kp w H H' → Q v H') ∨
   (∃ z : Str, x = .str z ∧ 1 ≤ z.length ∧ z.length < 1000 ∧ ∀ c H', c ∈ z.cps.toList → Kp w H H' → Q (.str ⟨#[c]⟩) H'))
theorem atI_of {xs : List V} {n : Int} (h0 : 0 ≤ n) (h : n.toNat < xs.length) : atI xs n = some xs[n.toNat] := by
  have q : atI xs ((n.toNat : Nat) : Int) = some xs[n.toNat] := atI_nat (by simp)
  rw [Int.toNat_of_nonneg h0] at q
  exact q
theorem atN_of {xs : List Nat} {n : Int} (h0 : 0 ≤ n) (h : n.toNat < xs.length) : atI xs n = some xs[n.toNat] := by
  have q : atI xs ((n.toNat : Nat) : Int) = some xs[n.toNat] := atI_nat (by simp)
  rw [Int.toNat_of_nonneg h0] at q
  exact q
/-! ### names -/
def isLow (c : Nat) : Bool := decide (97 ≤ c) && decide (c ≤ 122)
def isNm (x : Str) : Bool := decide (1 ≤ x.length) && decide (x.length ≤ 8) && x.cps.toList.all isLow
def letters : Str := "abcdefghijklmnopqrstuvwxyz"
theorem letters_list : letters.cps.toList = List.range' 97 26 := by decide +kernel
theorem letters_mem (c : Nat) : c ∈ letters.cps.toList ↔ isLow c = true := by
  rw [letters_list, List.mem_range']
  unfold isLow
  simp only [Bool.and_eq_true, decide_eq_true_eq]
  constructor
  · rintro ⟨i, h1, h2⟩
    omega
  · intro ⟨h1, h2⟩
    exact ⟨c - 97, by omega, by omega⟩
theorem letters_len : letters.length = 26 := by decide +kernel
theorem joinL_nil (cs : List Nat) : TL.joinL [] (cs.map fun c => [c]) = cs := by
  match cs with
  | [] => rfl
  | [c] => rfl
  | c :: d :: r =>
    have ih := joinL_nil (d :: r)
    show [c] ++ ([] ++ TL.joinL [] (([d] : List Nat) :: r.map fun c => [c])) = c :: d :: r
    have e : TL.joinL [] (([d] : List Nat) :: r.map fun c => [c]) = d :: r := ih
    rw [e]
    rfl
theorem bf_join (cs : List Nat) : Txt.join (Str.ofString "") ((cs.map fun c => [c]).map SX.S) = SX.S cs := by
  have e : Str.ofString "" = SX.S [] := by decide +kernel
  rw [e, SX.join_S, joinL_nil]
theorem slice_8 {cs : List Nat} (h : cs.length ≤ 8) : Txt.slice (SX.S cs) none (some 8) = SX.S cs := by
  rw [SX.slice_to (by omega)]
  congr 1
  exact List.take_of_length_le (by show cs.length ≤ 8; exact h)
theorem bf_sum (cs : List Nat) : (((cs.map fun c => [c]).map SX.S).map (·.length)).sum = cs.length := by
  rw [SX.lens]
  induction cs with
  | nil => rfl
  | cons c r ih =>
    simp only [List.map_cons, List.sum_cons, ih, List.length_cons, List.length_nil]
    omega
theorem flat_strs (xs : List Str) : (xs.map V.str).all flatV = true := by
  rw [List.all_eq_true]
  intro x hx
  obtain ⟨y, _, rfl⟩ := List.mem_map.mp hx
  rfl
/-- a short word: at most seven of the letters, one at least, not six -/
def Short (x : Str) : Prop := isNm x = true ∧ x.length ≤ 7 ∧ x.length ≠ 6
theorem short_of {cs : List Nat} (h1 : 1 ≤ cs.length) (h2 : cs.length ≤ 7) (h6 : cs.length ≠ 6) (h3 : ∀ c ∈ cs, isLow c = true) : Short (SX.S cs) := by
  have e : (SX.S cs).cps.toList = cs := rfl
  refine ⟨?_, by rw [SX.S_len]; exact ⟨h2, h6⟩⟩
  unfold isNm
  rw [SX.S_len, e]
  simp only [Bool.and_eq_true, decide_eq_true_eq, List.all_eq_true]
  exact ⟨⟨h1, by omega⟩, h3⟩
/-- the join of single letters, cut at 8 -/
theorem word_of {cs : List Nat} (h2 : cs.length ≤ 7) : Txt.slice (Txt.join (SX.S []) ((cs.map fun c => [c]).map SX.S)) none (some 8) = SX.S cs := by
  rw [SX.join_S, joinL_nil, SX.slice_to (by omega)]
  congr 1
  exact List.take_of_length_le (by show cs.length ≤ 8; omega)
def spNames : Sp := fun vs H Q _ => ∃ (w : Addr) (m : Int), vs = [.ref w, .int m] ∧ WellAt H w ∧ 0 ≤ m ∧ m ≤ 1000 ∧
  ∀ p (xs : List Str) H', H p = none → Kp w H H' → H' p = some (.lst (xs.map V.str)) → (xs.length : Int) = m → (∀ x ∈ xs, Short x) → Q (.ref p) H'
/-- of a list that stands still, or of a dict's keys -/
def spShuffled : Sp := fun vs H Q _ => ∃ (w a : Addr) (xs : List V), vs = [.ref w, .ref a] ∧ WellAt H w ∧ H a = some (.lst xs) ∧ isW (.lst xs) = false ∧ xs.length ≤ 1000 ∧
  ∀ p ys H', H p = none → Kp w H H' → H' p = some (.lst ys) → ys.Perm xs → Q (.ref p) H'
def spShuffledD : Sp := fun vs H Q _ => ∃ (w a : Addr) (kvs : List (Key × V)), vs = [.ref w, .ref a] ∧ WellAt H w ∧ H a = some (.dK kvs) ∧ kvs.length ≤ 1000 ∧
  ∀ p ys H', H p = none → Kp w H H' → H' p = some (.lst ys) → ys.Perm (kvs.map fun kv => kV kv.1) → Q (.ref p) H'
def spIsName : Sp := fun vs H Q _ => ∃ x : Str, vs = [.str x] ∧ x.length ≤ 1000 ∧ ∀ H', Same H H' → Q (.bl (isNm x)) H'
theorem in_letters (c : Nat) : decide (c ∈ (Str.ofString "abcdefghijklmnopqrstuvwxyz").cps.toList) = isLow c := by
  cases e : isLow c with
  | true => exact decide_eq_true ((letters_mem c).mpr e)
  | false => exact decide_eq_false fun h => by rw [(letters_mem c).mp h] at e; cases e
theorem one_lt (a b : Nat) : (([a] : List Nat) < [b]) ↔ a < b := by
  constructor
  · intro h
    cases h with
    | rel h => exact h
    | cons h => cases h
  · intro h
    exact List.Lex.rel h
theorem from_a (c : Nat) : (!decide ((⟨#[c]⟩ : Str).cps.toList < (Str.ofString "a").cps.toList)) = decide (97 ≤ c) := by
  have e : (Str.ofString "a").cps.toList = [97] := by decide +kernel
  rw [e]
  show (!decide (([c] : List Nat) < [97])) = _
  by_cases h : 97 ≤ c
  · rw [decide_eq_true h, decide_eq_false (fun q => by have := (one_lt c 97).mp q; omega)]
    rfl
  · rw [decide_eq_false h, decide_eq_true ((one_lt c 97).mpr (by omega))]
    rfl
theorem to_z (c : Nat) : (!decide ((Str.ofString "z").cps.toList < (⟨#[c]⟩ : Str).cps.toList)) = decide (c ≤ 122) := by
  have e : (Str.ofString "z").cps.toList = [122] := by decide +kernel
  rw [e]
  show (!decide (([122] : List Nat) < [c])) = _
  by_cases h : c ≤ 122
  · rw [decide_eq_true h, decide_eq_false (fun q => by have := (one_lt 122 c).mp q; omega)]
    rfl
  · rw [decide_eq_false h, decide_eq_true ((one_lt 122 c).mpr (by omega))]
    rfl
theorem isNm_true {x : Str} (h1 : 1 ≤ x.length) (h2 : x.length ≤ 8) : isNm x = (x.cps.toList.map isLow).all id := by
  unfold isNm
  rw [decide_eq_true h1, decide_eq_true h2, List.all_map]
  rfl
theorem isNm_no {x : Str} (h : ¬ (1 ≤ x.length ∧ x.length ≤ 8)) : isNm x = false := by
  unfold isNm
  by_cases h1 : 1 ≤ x.length
  · rw [decide_eq_false (fun h2 => h ⟨h1, h2⟩)]
    simp
  · rw [decide_eq_false h1]
    simp
theorem take_snoc {α β : Type} (f : α → β) {l : List α} {i : Nat} {c : α} (h : l[i]? = some c) : (l.take (i + 1)).map f = (l.take i).map f ++ [f c] := by
  rw [List.take_succ, h]
  simp
theorem erase_perm {α : Type} : ∀ {l : List α} {i : Nat} (h : i < l.length), (l[i] :: l.eraseIdx i).Perm l
  | a :: l, 0, _ => List.Perm.refl _
  | a :: l, i + 1, h => by
    have ih := erase_perm (l := l) (i := i) (by simpa using h)
    have hi : i < l.length := by simpa using h
    show (l[i] :: a :: l.eraseIdx i).Perm (a :: l)
    exact (List.Perm.swap _ _ _).trans (List.Perm.cons _ ih)
/-! ### the first wrong entry of a list of names -/
def okAt (xs : List Str) (k : Nat) : Bool := match xs[k]? with
  | some x => isNm x && !decide (x ∈ xs.take k)
  | none => true
def fwF (xs : List Str) : Option Nat := (List.range xs.length).find? fun k => !okAt xs k
theorem fw_none {xs : List Str} (h : ∀ k, k < xs.length → okAt xs k = true) : fwF xs = none := by
  unfold fwF
  rw [List.find?_eq_none]
  intro k hk
  rw [h k (List.mem_range.mp hk)]
  simp
theorem fw_some {xs : List Str} {k : Nat} (h1 : k < xs.length) (h2 : okAt xs k = false) (h3 : ∀ j, j < k → okAt xs j = true) : fwF xs = some k := by
  unfold fwF
  rw [List.find?_range_eq_some]
  refine ⟨by rw [h2]; rfl, List.mem_range.mpr h1, fun j hj => by rw [h3 j hj]; rfl⟩
theorem fw_ok {xs : List Str} (h : fwF xs = none) {k : Nat} (hk : k < xs.length) : okAt xs k = true := by
  unfold fwF at h
  rw [List.find?_eq_none] at h
  have := h k (List.mem_range.mpr hk)
  simpa using this
def fwV (xs : List Str) : V := match fwF xs with
  | none => .non
  | some k => .int (k : Nat)
/-- first_wrong(entries, is_name), is_name being the def at f -/
def spFirst (f : Addr) : Sp := fun vs H Q _ => ∃ (a : Addr) (xs : List Str), vs = [.ref a, .ref f] ∧ H a = some (.lst (xs.map V.str)) ∧ xs.length ≤ 1000 ∧ (∀ x ∈ xs, x.length ≤ 1000) ∧ ∀ H', Same H H' → Q (fwV xs) H'
/-! ### readings in one step -/
section
variable {K : PySem.W.Frag} {H : Hp} {Q : VK}
theorem len_s {z : Str} (h : z.length ≤ 1000) (q : Q (.int z.length) H) : ∃ x n, [V.str z] = [x] ∧ LenV K x H n ∧ Q (.int (n : Nat)) H := ⟨_, _, rfl, ⟨by rw [sizeLine_eq]; omega, rfl⟩, q⟩
theorem len_l {a : Addr} {xs : List V} (h : H a = some (.lst xs)) (q : Q (.int xs.length) H) : ∃ x n, [V.ref a] = [x] ∧ LenV K x H n ∧ Q (.int (n : Nat)) H := ⟨_, _, rfl, .inl ⟨_, SqL.of h, rfl⟩, q⟩
theorem len_t {a : Addr} {xs : List V} (h : H a = some (.tup xs)) (q : Q (.int xs.length) H) : ∃ x n, [V.ref a] = [x] ∧ LenV K x H n ∧ Q (.int (n : Nat)) H := ⟨_, _, rfl, .inr ⟨_, SqT.of h, rfl⟩, q⟩
theorem isi_ss {z : Str} (q : Q (.bl true) H) : rIsi K [.str z, .ty "str"] H Q := ⟨_, _, _, _, true, rfl, .ty _, .base (.str _), kit_ty (by decide +kernel), q⟩
end
end BF
set_option Elab.async false
set_option linter.all false
set_option maxRecDepth 100000
set_option maxHeartbeats 4000000
namespace BF
open PySem PySem.Spec PyProof.Rows L2
/-! ### texts in order -/
def leS (a b : Str) : Bool := !decide (b.cps.toList < a.cps.toList)
theorem leS_iff (a b : Str) : leS a b = true ↔ a.cps.toList ≤ b.cps.toList := by
  unfold leS
  rw [Bool.not_eq_true', decide_eq_false_iff_not, List.not_lt]
theorem leS_trans (a b c : Str) (h1 : leS a b = true) (h2 : leS b c = true) : leS a c = true := (leS_iff a c).mpr (List.le_trans ((leS_iff a b).mp h1) ((leS_iff b c).mp h2))
theorem leS_total (a b : Str) : (leS a b || leS b a) = true := by
  rw [Bool.or_eq_true, leS_iff, leS_iff]
  exact List.le_total _ _
theorem str_ext {a b : Str} (h : a.cps.toList = b.cps.toList) : a = b := by
  cases a
  cases b
  simp only at h
  congr
  exact Array.toList_inj.mp h
theorem leS_anti (a b : Str) (h1 : leS a b = true) (h2 : leS b a = true) : a = b := str_ext (List.le_antisymm ((leS_iff a b).mp h1) ((leS_iff b a).mp h2))
def sortS (xs : List Str) : List Str := xs.mergeSort leS
theorem rising_all : ∀ (r : List Str) (p : Str), risingS p r = true → (p :: r).Pairwise fun a b => leS a b = true
  | [], p, _ => List.pairwise_singleton _ _
  | x :: r, p, h => by
    unfold risingS at h
    rw [Bool.and_eq_true] at h
    have h1 : leS p x = true := by
      have := h.1
      rw [ltCps_eq] at this
      exact this
    have ih := rising_all r x h.2
    refine List.pairwise_cons.mpr ⟨fun y hy => ?_, ih⟩
    rcases List.mem_cons.mp hy with rfl | hy
    · exact h1
    · exact leS_trans _ _ _ h1 ((List.pairwise_cons.mp ih).1 y hy)
theorem sortS_eq {xs ys : List Str} (p : ys.Perm xs) (h : sortedS ys = true) : ys = sortS xs := by
  have h1 : ys.Pairwise fun a b => leS a b = true := by
    cases ys with
    | nil => exact List.Pairwise.nil
    | cons y r => exact rising_all r y h
  have h2 : (sortS xs).Pairwise fun a b => leS a b = true := List.pairwise_mergeSort (le := leS) leS_trans leS_total xs
  exact List.Perm.eq_of_pairwise (le := fun a b => leS a b = true) (fun a b _ _ x y => leS_anti a b x y) h1 h2 (p.trans (List.mergeSort_perm xs leS).symm)
theorem sortS_perm (xs : List Str) : (sortS xs).Perm xs := List.mergeSort_perm xs leS
theorem sortS_length (xs : List Str) : (sortS xs).length = xs.length := (sortS_perm xs).length_eq
theorem sortS_of_perm {xs ys : List Str} (p : xs.Perm ys) : sortS xs = sortS ys := by
  have h1 : (sortS xs).Pairwise fun a b => leS a b = true := List.pairwise_mergeSort (le := leS) leS_trans leS_total xs
  have h2 : (sortS ys).Pairwise fun a b => leS a b = true := List.pairwise_mergeSort (le := leS) leS_trans leS_total ys
  exact List.Perm.eq_of_pairwise (le := fun a b => leS a b = true) (fun a b _ _ x y => leS_anti a b x y) h1 h2 ((sortS_perm xs).trans (p.trans (sortS_perm ys).symm))

/-! ### values that may be a pair of places -/
inductive TV where
  | ends (a b : Str)
  | junk
def tvOf : Option Str → Option Str → TV
  | some a, some b => .ends a b
  | _, _ => .junk
/-- a text, or surely none -/
inductive IsS (K : PySem.W.Frag) (H : Hp) : V → Option Str → Prop
  | str (z : Str) : IsS K H (.str z) (some z)
  | no {x : V} {t : Value} (h : TyX K H x t) (k : PySem.W.kitOne K t (.type "str") = some false) : IsS K H x none
inductive TVr (K : PySem.W.Frag) (H : Hp) : V → TV → Prop
  | no {x : V} {t : Value} (h : TyX K H x t) (k : PySem.W.kitOne K t (.type "tuple") = some false) : TVr K H x .junk
  | long {p : Addr} {xs : List V} (h : H p = some (.tup xs)) (n : xs.length ≠ 2) : TVr K H (.ref p) .junk
  | pair {p : Addr} {x y : V} {a b : Option Str} (h : H p = some (.tup [x, y])) (hx : IsS K H x a) (hy : IsS K H y b) : TVr K H (.ref p) (tvOf a b)
theorem _root_.L2.TyX.kp {K : PySem.W.Frag} {H H' : Hp} {w : Addr} {x : V} {t : Value} (h : TyX K H x t) (k : Kp w H H') (hw : WellAt H w) : TyX K H' x t := by
  cases h with
  | base b =>
    cases b with
    | non => exact .base .non
    | bl x => exact .base (.bl x)
    | int i => exact .base (.int i)
    | str x => exact .base (.str x)
    | flt x => exact .base (.flt x)
    | @lst a xs e =>
      by_cases ea : a = w
      · subst ea
        obtain ⟨p, q, r, z⟩ := k.well hw
        exact .base (.lst z)
      · exact .base (.lst (k.keep _ _ ea e))
    | frz e => exact .base (.frz (k.get hw e))
    | tup e => exact .base (.tup (k.get hw e))
    | dK e => exact .base (.dK (k.get hw e))
    | dT e => exact .base (.dT (k.get hw e))
    | ins e cl ha hn htk hm => exact .base (.ins (k.get hw e) cl ha hn htk hm)
  | byt b => exact .byt b
  | set e => exact .set (k.get hw e)
  | kList e c => exact .kList e c
  | kTuple e c => exact .kTuple e c
  | kDict e c => exact .kDict e c
  | fTuple e => exact .fTuple (k.get hw e)
  | fDict e => exact .fDict (k.get hw e)
theorem _root_.L2.TyX.same {K : PySem.W.Frag} {H H' : Hp} {x : V} {t : Value} (h : TyX K H x t) (s : Same H H') : TyX K H' x t := by
  cases h with
  | base b =>
    cases b with
    | non => exact .base .non
    | bl x => exact .base (.bl x)
    | int i => exact .base (.int i)
    | str x => exact .base (.str x)
    | flt x => exact .base (.flt x)
    | lst e => exact .base (.lst (s _ _ e))
    | frz e => exact .base (.frz (s _ _ e))
    | tup e => exact .base (.tup (s _ _ e))
    | dK e => exact .base (.dK (s _ _ e))
    | dT e => exact .base (.dT (s _ _ e))
    | ins e cl ha hn htk hm => exact .base (.ins (s _ _ e) cl ha hn htk hm)
  | byt b => exact .byt b
  | set e => exact .set (s _ _ e)
  | kList e c => exact .kList e c
  | kTuple e c => exact .kTuple e c
  | kDict e c => exact .kDict e c
  | fTuple e => exact .fTuple (s _ _ e)
  | fDict e => exact .fDict (s _ _ e)
theorem IsS.kp {K : PySem.W.Frag} {H H' : Hp} {w : Addr} {x : V} {o : Option Str} (h : IsS K H x o) (k : Kp w H H') (hw : WellAt H w) : IsS K H' x o := by
  cases h with
  | str z => exact .str z
  | no h e => exact .no (h.kp k hw) e
theorem IsS.same {K : PySem.W.Frag} {H H' : Hp} {x : V} {o : Option Str} (h : IsS K H x o) (s : Same H H') : IsS K H' x o := by
  cases h with
  | str z => exact .str z
  | no h e => exact .no (h.same s) e
theorem TVr.kp {K : PySem.W.Frag} {H H' : Hp} {w : Addr} {x : V} {o : TV} (h : TVr K H x o) (k : Kp w H H') (hw : WellAt H w) : TVr K H' x o := by
  cases h with
  | no h e => exact .no (h.kp k hw) e
  | long h n => exact .long (k.get hw h) n
  | pair h hx hy => exact .pair (k.get hw h) (hx.kp k hw) (hy.kp k hw)
theorem TVr.same {K : PySem.W.Frag} {H H' : Hp} {x : V} {o : TV} (h : TVr K H x o) (s : Same H H') : TVr K H' x o := by
  cases h with
  | no h e => exact .no (h.same s) e
  | long h n => exact .long (s _ _ h) n
  | pair h hx hy => exact .pair (s _ _ h) (hx.same s) (hy.same s)
theorem TVr.ends {K : PySem.W.Frag} {H : Hp} {p : Addr} {a b : Str} (h : H p = some (.tup [.str a, .str b])) : TVr K H (.ref p) (.ends a b) := TVr.pair (a := some a) (b := some b) h (.str a) (.str b)
theorem TVr.get {K : PySem.W.Frag} {H : Hp} {x : V} {a b : Str} (h : TVr K H x (.ends a b)) : ∃ p, x = .ref p ∧ H p = some (.tup [.str a, .str b]) := by
  generalize ht : TV.ends a b = t at h
  cases h with
  | no h e => cases ht
  | long h n => cases ht
  | @pair p x y oa ob h hx hy =>
    cases hx with
    | no _ _ => cases ht
    | str u =>
      cases hy with
      | no _ _ => cases ht
      | str v =>
        cases ht
        exact ⟨p, rfl, h⟩
/-! ### dicts of such -/
abbrev Tie (K : PySem.W.Frag) (H : Hp) : Key × V → Str × TV → Prop := fun p e => p.1 = .inr e.1 ∧ TVr K H p.2 e.2
structure TiesR (K : PySem.W.Frag) (H : Hp) (d : Addr) (es : List (Str × TV)) : Prop where
  ex : ∃ kvs, H d = some (.dK kvs) ∧ Paired (Tie K H) kvs es
  nd : (es.map (·.1)).Nodup
def lkE (es : List (Str × TV)) (n : Str) : Option TV := (es.find? fun e => decide (e.1 = n)).map (·.2)
theorem Paired.imp {α β : Type} {F G : α → β → Prop} (h : ∀ a b, F a b → G a b) : ∀ {xs : List α} {ys : List β}, Paired F xs ys → Paired G xs ys
  | _, _, .nil => .nil
  | _, _, .cons p t => .cons (h _ _ p) (Paired.imp h t)
theorem tie_keys {K : PySem.W.Frag} {H : Hp} : ∀ {kvs : List (Key × V)} {es : List (Str × TV)}, Paired (Tie K H) kvs es → kvs.map (·.1) = (es.map (·.1)).map Sum.inr
  | _, _, .nil => rfl
  | _, _, .cons p t => by rw [List.map_cons, List.map_cons, List.map_cons, tie_keys t, p.1]
theorem tie_get {K : PySem.W.Frag} {H : Hp} {n : Str} : ∀ {kvs : List (Key × V)} {es : List (Str × TV)}, Paired (Tie K H) kvs es → n ∈ es.map (·.1) → ∃ v tv, valV kvs (.inr n) = some v ∧ lkE es n = some tv ∧ TVr K H v tv
  | _, _, .nil, h => by cases h
  | (k, v) :: kvs, (m, tv) :: es, .cons p t, h => by
    obtain ⟨e, r⟩ := p
    have e : k = Sum.inr m := e
    subst e
    by_cases hm : m = n
    · subst hm
      exact ⟨v, tv, valV_pos rfl, by simp [lkE], r⟩
    · obtain ⟨v', tv', h1, h2, h3⟩ := tie_get t ((List.mem_cons.mp h).resolve_left fun q => hm q.symm)
      exact ⟨v', tv', by rw [valV_neg (fun q => hm (Sum.inr.inj q))]; exact h1, by simpa [lkE, hm] using h2, h3⟩
theorem TiesR.kp {K : PySem.W.Frag} {H H' : Hp} {w d : Addr} {es : List (Str × TV)} (h : TiesR K H d es) (k : Kp w H H') (hw : WellAt H w) : TiesR K H' d es := by
  obtain ⟨⟨kvs, e, p⟩, nd⟩ := h
  exact ⟨⟨kvs, k.get hw e, Paired.imp (fun a b q => ⟨q.1, q.2.kp k hw⟩) p⟩, nd⟩
theorem TiesR.same {K : PySem.W.Frag} {H H' : Hp} {d : Addr} {es : List (Str × TV)} (h : TiesR K H d es) (s : Same H H') : TiesR K H' d es := by
  obtain ⟨⟨kvs, e, p⟩, nd⟩ := h
  exact ⟨⟨kvs, s _ _ e, Paired.imp (fun a b q => ⟨q.1, q.2.same s⟩) p⟩, nd⟩
/-! ### what is due -/
inductive Due where
  | places (k : Int)
  | ties (n : Str)
  | many
def goodT (ps : List Str) : TV → Bool
  | .ends a b => decide (a ∈ ps) && decide (b ∈ ps)
  | .junk => false
def goodE (ps : List Str) (es : List (Str × TV)) (n : Str) : Bool := isNm n && match lkE es n with
  | some tv => goodT ps tv
  | none => false
/-- the first wrong thing of places: its index, or -1 -/
def plF (ps : List Str) : Option Int := if 1 ≤ ps.length ∧ ps.length ≤ 16 then (fwF ps).map (fun k => (k : Int)) else some (-1)
def tiF (ps : List Str) (es : List (Str × TV)) : Option Str := (sortS (es.map (·.1))).find? fun n => !goodE ps es n
def dueOf (ps : List Str) (es : List (Str × TV)) : Option Due := match plF ps with
  | some k => some (.places k)
  | none => match tiF ps es with
    | some n => some (.ties n)
    | none => if 24 < es.length then some .many else none
def srt2 (a b : Str) : Str × Str := if leS a b = true then (a, b) else (b, a)
theorem sortS_two (a b : Str) : sortS [a, b] = [(srt2 a b).1, (srt2 a b).2] := by
  unfold srt2
  split
  · rename_i h
    refine (sortS_eq (List.Perm.refl _) ?_).symm
    show (!ltCps b.cps.toList a.cps.toList && true) = true
    rw [ltCps_eq, Bool.and_true]
    exact h
  · rename_i h
    refine (sortS_eq (List.Perm.swap _ _ _) ?_).symm
    show (!ltCps a.cps.toList b.cps.toList && true) = true
    rw [ltCps_eq, Bool.and_true]
    have := leS_total a b
    rw [Bool.or_eq_true] at this
    exact this.resolve_left h
def endsOf (es : List (Str × TV)) (n : Str) : Str × Str := match lkE es n with
  | some (.ends a b) => srt2 a b
  | _ => (n, n)
def webTies (es : List (Str × TV)) : List (Str × Str × Str) := (sortS (es.map (·.1))).map fun n => (n, endsOf es n)
theorem inV_strs (z : Str) (ps : List Str) : inV (.str z) (ps.map V.str) = decide (z ∈ ps) := by
  induction ps with
  | nil => rfl
  | cons p r ih =>
    unfold inV at ih ⊢
    rw [List.map_cons, List.any_cons, ih]
    show (decide (p = z) || decide (z ∈ r)) = _
    by_cases h : p = z
    · subst h
      simp
    · have h' : ¬ z = p := fun e => h e.symm
      simp [h, h']
def inO (ps : List Str) : Option Str → Bool
  | some z => decide (z ∈ ps)
  | none => false
theorem goodT_of (ps : List Str) (a b : Option Str) : goodT ps (tvOf a b) = ([inO ps a, inO ps b]).all id := by
  cases a with
  | none => rfl
  | some a =>
    cases b with
    | none => simp [tvOf, goodT, inO]
    | some b => simp [tvOf, goodT, inO]
end BF
set_option Elab.async false
set_option linter.all false
set_option maxRecDepth 100000
set_option maxHeartbeats 4000000
namespace BF
open PySem PySem.Spec PyProof.Rows L2
theorem dget_s {H : Hp} {a : Addr} {kvs : List (Key × V)} {n : Str} {v : V} (e : Rd H a (.dK kvs)) (h : valV kvs (.inr n) = some v) : DGet H a (.str n) (some v) := .inl ⟨kvs, .inr n, e, rfl, h.symm⟩
/-- pairs of texts under a key -/
abbrev Tup2 (H : Hp) : Key × V → Str × Str × Str → Prop := fun p e => p.1 = .inr e.1 ∧ ∃ t, p.2 = .ref t ∧ H t = some (.tup [.str e.2.1, .str e.2.2])
theorem tup2_mono {H H' : Hp} (hs : ∀ t xs, H t = some (.tup xs) → H' t = some (.tup xs)) {kvs : List (Key × V)} {ts : List (Str × Str × Str)} (h : Paired (Tup2 H) kvs ts) : Paired (Tup2 H') kvs ts :=
  Paired.imp (fun _ _ ⟨e, t, e2, q⟩ => ⟨e, t, e2, hs _ _ q⟩) h
theorem Paired.snoc {α β : Type} {F : α → β → Prop} {a : α} {b : β} (f : F a b) : ∀ {xs : List α} {ys : List β}, Paired F xs ys → Paired F (xs ++ [a]) (ys ++ [b])
  | _, _, .nil => .cons f .nil
  | _, _, .cons p t => .cons p (Paired.snoc f t)
theorem keys2 {H : Hp} : ∀ {kvs : List (Key × V)} {ts : List (Str × Str × Str)}, Paired (Tup2 H) kvs ts → kvs.map (·.1) = (ts.map (·.1)).map Sum.inr
  | _, _, .nil => rfl
  | _, _, .cons p t => by rw [List.map_cons, List.map_cons, List.map_cons, keys2 t, p.1]
theorem valV_none {kvs : List (Key × V)} {k : Key} (h : k ∉ kvs.map (·.1)) : valV kvs k = none := by
  unfold valV
  rw [List.find?_eq_none.mpr (fun p hp => by simp only [decide_eq_true_eq]; exact fun e => h (List.mem_map.mpr ⟨p, hp, e⟩))]
  rfl
theorem get2 {H : Hp} {n : Str} {e : Str × Str} : ∀ {kvs : List (Key × V)} {ts : List (Str × Str × Str)}, Paired (Tup2 H) kvs ts → (ts.map (·.1)).Nodup → (n, e) ∈ ts → ∃ t, valV kvs (.inr n) = some (.ref t) ∧ H t = some (.tup [.str e.1, .str e.2])
  | _, _, .nil, _, h => by cases h
  | (k, v) :: kvs, (m, f) :: ts, .cons p t, nd, h => by
    obtain ⟨e1, q, e2, hq⟩ := p
    have e1 : k = Sum.inr m := e1
    have e2 : v = .ref q := e2
    subst e1 e2
    have nd : (m :: ts.map (·.1)).Nodup := nd
    rcases List.mem_cons.mp h with h | h
    · cases h
      exact ⟨q, valV_pos rfl, hq⟩
    · have hm : ¬ m = n := fun e => (List.nodup_cons.mp nd).1 (List.mem_map.mpr ⟨_, h, e.symm⟩)
      obtain ⟨t', h1, h2⟩ := get2 t (List.nodup_cons.mp nd).2 h
      exact ⟨t', by rw [valV_neg (fun q => hm (Sum.inr.inj q))]; exact h1, h2⟩
theorem goodT_perm {ps qs : List Str} (h : ∀ x, x ∈ ps ↔ x ∈ qs) (tv : TV) : goodT ps tv = goodT qs tv := by
  cases tv with
  | junk => rfl
  | ends a b => simp [goodT, h]
theorem tiF_perm {ps qs : List Str} (h : ∀ x, x ∈ ps ↔ x ∈ qs) (es : List (Str × TV)) : tiF ps es = tiF qs es := by
  have e : goodE ps es = goodE qs es := by
    funext n
    unfold goodE
    cases lkE es n with
    | none => rfl
    | some tv => simp only [goodT_perm h tv]
  unfold tiF
  rw [e]
theorem mem_sortS (xs : List Str) (x : Str) : x ∈ sortS xs ↔ x ∈ xs := (sortS_perm xs).mem_iff
theorem tiF_some {ps : List Str} {es : List (Str × TV)} {i : Nat} {n : Str} (h : (sortS (es.map (·.1)))[i]? = some n) (hb : goodE ps es n = false) (hok : ∀ j, j < i → ∀ m, (sortS (es.map (·.1)))[j]? = some m → goodE ps es m = true) : tiF ps es = some n := by
  unfold tiF
  rw [List.find?_eq_some_iff_getElem]
  obtain ⟨hi, e⟩ := List.getElem?_eq_some_iff.mp h
  refine ⟨by rw [hb]; rfl, i, hi, e, fun j hj => ?_⟩
  rw [hok j hj _ (List.getElem?_eq_getElem (by omega))]
  rfl
theorem tiF_none {ps : List Str} {es : List (Str × TV)} (hok : ∀ j, j < es.length → ∀ m, (sortS (es.map (·.1)))[j]? = some m → goodE ps es m = true) : tiF ps es = none := by
  unfold tiF
  rw [List.find?_eq_none]
  intro n hn
  obtain ⟨j, hj, e⟩ := List.mem_iff_getElem.mp hn
  have hj' : j < es.length := by
    rw [sortS_length, List.length_map] at hj
    exact hj
  rw [hok j hj' n (by rw [← e]; exact List.getElem?_eq_getElem hj)]
  simp
theorem goodE_of {ps : List Str} {es : List (Str × TV)} {n : Str} {tv : TV} (h : lkE es n = some tv) : goodE ps es n = (isNm n && goodT ps tv) := by
  unfold goodE
  rw [h]
theorem goodE_ends {ps : List Str} {es : List (Str × TV)} {n : Str} (h : goodE ps es n = true) : isNm n = true ∧ ∃ a b, lkE es n = some (.ends a b) ∧ a ∈ ps ∧ b ∈ ps := by
  unfold goodE at h
  rw [Bool.and_eq_true] at h
  obtain ⟨h1, h2⟩ := h
  refine ⟨h1, ?_⟩
  cases e : lkE es n with
  | none => rw [e] at h2; cases h2
  | some tv =>
    rw [e] at h2
    cases tv with
    | junk => cases h2
    | ends a b =>
      simp [goodT] at h2
      exact ⟨a, b, rfl, h2.1, h2.2⟩
theorem endsOf_eq {es : List (Str × TV)} {n a b : Str} (h : lkE es n = some (.ends a b)) : endsOf es n = srt2 a b := by
  unfold endsOf
  rw [h]
theorem nodup_sortS {xs : List Str} (h : xs.Nodup) : (sortS xs).Nodup := (sortS_perm xs).nodup_iff.mpr h
end BF
set_option Elab.async false
set_option linter.all false
set_option maxRecDepth 100000
set_option maxHeartbeats 4000000
namespace BF
open PySem PySem.Spec PyProof.Rows L2
/-! ### lists of texts and ties as data -/
theorem dpAll_strs {K : PySem.W.Frag} {H : Hp} : ∀ ps : List Str, DpAll K H (ps.map V.str) (ps.map PyData.str)
  | [] => .nil
  | p :: r => .cons (.str p) (dpAll_strs r)
theorem dp_strs {K : PySem.W.Frag} {H : Hp} {a : Addr} {ps : List Str} (h : H a = some (.lst (ps.map V.str))) : Dp K H (.ref a) (.list (ps.map PyData.str)) := .lst (SqL.of h) (dpAll_strs ps)
theorem isNm_ok {x : Str} (h : isNm x = true) : PyData.strOk x = true := by
  unfold isNm at h
  simp only [Bool.and_eq_true, decide_eq_true_eq, List.all_eq_true] at h
  unfold PyData.strOk
  rw [Array.all_eq_true']
  intro c hc
  have := h.2 c (Array.mem_toList_iff.mpr hc)
  unfold isLow at this
  simp only [Bool.and_eq_true, decide_eq_true_eq] at this
  simp only [decide_eq_true_eq]
  omega
theorem lay_strs : ∀ ps : List Str, (∀ p ∈ ps, PyData.strOk p = true) → PyData.canLayAll0 (ps.map PyData.str) = true ∧ PyData.depthAll (ps.map PyData.str) = 0
  | [], _ => by simp [PyData.canLayAll0, PyData.depthAll]
  | p :: r, h => by simp [PyData.canLayAll0, PyData.canLay0, PyData.depthAll, PyData.depth, lay_strs r (fun q hq => h q (List.mem_cons_of_mem _ hq)), h p List.mem_cons_self]
theorem shaped_strs {ps : List Str} (h : ∀ p ∈ ps, PyData.strOk p = true) : SeqAt.shaped (.list (ps.map PyData.str)) = true := by
  simp [SeqAt.shaped, PyData.canLay0, PyData.depth, lay_strs ps h]
theorem shaped_two {a b : Str} (ha : PyData.strOk a = true) (hb : PyData.strOk b = true) : SeqAt.shaped (.tuple [.str a, .str b]) = true := by
  simp [SeqAt.shaped, PyData.canLay0, PyData.canLayAll0, PyData.depth, PyData.depthAll, ha, hb]
/-- a tie's ends are texts of letters alone -/
def OkT (t : Str × Str × Str) : Prop := PyData.strOk t.2.1 = true ∧ PyData.strOk t.2.2 = true
theorem eqv_strs (ps qs : List Str) : PyData.eqv (.list (ps.map PyData.str)) (.list (qs.map PyData.str)) = decide (ps = qs) := PySem.W.Datum.eqv (α := List Str) ps qs
theorem eqv_tup2 (a b : Str × Str) : PyData.eqv (.tuple [.str a.1, .str a.2]) (.tuple [.str b.1, .str b.2]) = decide (a = b) := PySem.W.Datum.eqv (α := Str × Str) a b
def tieD (t : Str × Str × Str) : Key × PyData := (.inr t.1, .tuple [.str t.2.1, .str t.2.2])
theorem dp_tup2 {K : PySem.W.Frag} {H : Hp} {a : Addr} {x y : Str} (h : H a = some (.tup [.str x, .str y])) : Dp K H (.ref a) (.tuple [.str x, .str y]) := .tup (SqT.of h) (.cons (.str x) (.cons (.str y) .nil))
theorem dkd_pairs {K : PySem.W.Frag} {H : Hp} : ∀ {kvs : List (Key × V)} {ts : List (Str × Str × Str)}, Paired (Tup2 H) kvs ts → (∀ t ∈ ts, OkT t) →
    Paired (fun (p : Key × V) (q : Key × PyData) => p.1 = q.1 ∧ Dp K H p.2 q.2 ∧ SeqAt.shaped q.2 = true) kvs (ts.map tieD)
  | _, _, .nil, _ => .nil
  | (k, v) :: kvs, (m, e) :: ts, .cons p t, h => by
    obtain ⟨e1, q, e2, hq⟩ := p
    have e2 : v = .ref q := e2
    subst e2
    have ho := h _ List.mem_cons_self
    exact .cons ⟨e1, dp_tup2 hq, shaped_two ho.1 ho.2⟩ (dkd_pairs t fun u hu => h u (List.mem_cons_of_mem _ hu))
theorem dkd_of {K : PySem.W.Frag} {H : Hp} {a : Addr} {kvs : List (Key × V)} {ts : List (Str × Str × Str)} (h : H a = some (.dK kvs)) (p : Paired (Tup2 H) kvs ts) (ho : ∀ t ∈ ts, OkT t) : DkD K H (.ref a) (ts.map tieD) := ⟨a, kvs, rfl, h, dkd_pairs p ho⟩
theorem eqKD_len {ts us : List (Str × Str × Str)} (h : ts.length ≠ us.length) : eqKD (ts.map tieD) (us.map tieD) = false := by
  unfold eqKD
  rw [List.length_map, List.length_map, show (ts.length == us.length) = false from by simp [h]]
  rfl
theorem find_tie : ∀ {us : List (Str × Str × Str)} {t : Str × Str × Str}, (us.map (·.1)).Nodup → t ∈ us → (us.map tieD).find? (fun q => decide (q.1 = (tieD t).1)) = some (tieD t)
  | u :: us, t, nd, h => by
    have nd : (u.1 :: us.map (·.1)).Nodup := nd
    rcases List.mem_cons.mp h with rfl | h
    · simp
    · have hne : ¬ (tieD u).1 = (tieD t).1 := fun e => (List.nodup_cons.mp nd).1 (List.mem_map.mpr ⟨t, h, (Sum.inr.inj e).symm⟩)
      rw [List.map_cons, List.find?_cons, decide_eq_false hne]
      exact find_tie (List.nodup_cons.mp nd).2 h
theorem eqKD_mem {ts us : List (Str × Str × Str)} (hl : ts.length = us.length) (nd : (us.map (·.1)).Nodup) (h : ∀ t, t ∈ ts → t ∈ us) : eqKD (ts.map tieD) (us.map tieD) = true := by
  unfold eqKD
  rw [List.length_map, List.length_map, hl, Bool.and_eq_true]
  refine ⟨by simp, List.all_eq_true.mpr fun q hq => ?_⟩
  obtain ⟨t, ht, rfl⟩ := List.mem_map.mp hq
  rw [find_tie nd (h t ht)]
  show PyData.eqv _ _ = true
  unfold tieD
  rw [eqv_tup2]
  simp
/-! ### values that may be instances whose fields change -/
theorem _root_.L2.TyX.fr {K : PySem.W.Frag} {H H' : Hp} {x C d : Addr} {fs fs' : List (Str × V)} {v : V} {t : Value} (h : TyX K H v t) (k : ∀ b o, b ≠ x → H b = some o → H' b = some o) (h1 : H x = some (.ins C d fs)) (h2 : H' x = some (.ins C d fs')) : TyX K H' v t := by
  have go : ∀ {b : Addr} {o : HO}, H b = some o → (∀ C d fs, o ≠ .ins C d fs) → H' b = some o := fun {b o} e n => k b o (fun q => by rw [q, h1] at e; exact n _ _ _ (Option.some.inj e).symm) e
  cases h with
  | base b =>
    cases b with
    | non => exact .base .non
    | bl x => exact .base (.bl x)
    | int i => exact .base (.int i)
    | str x => exact .base (.str x)
    | flt x => exact .base (.flt x)
    | lst e => exact .base (.lst (go e (by intros; simp)))
    | frz e => exact .base (.frz (go e (by intros; simp)))
    | tup e => exact .base (.tup (go e (by intros; simp)))
    | dK e => exact .base (.dK (go e (by intros; simp)))
    | dT e => exact .base (.dT (go e (by intros; simp)))
    | @ins a C' d' fs0 e cl ha hn htk hm =>
      by_cases q : a = x
      · subst q
        rw [h1] at e
        cases e
        exact .base (.ins h2 cl ha hn htk hm)
      · exact .base (.ins (k _ _ q e) cl ha hn htk hm)
  | byt b => exact .byt b
  | set e => exact .set (go e (by intros; simp))
  | kList e c => exact .kList e c
  | kTuple e c => exact .kTuple e c
  | kDict e c => exact .kDict e c
  | fTuple e => exact .fTuple (go e (by intros; simp))
  | fDict e => exact .fDict (go e (by intros; simp))
theorem IsS.fr {K : PySem.W.Frag} {H H' : Hp} {x C d : Addr} {fs fs' : List (Str × V)} {v : V} {o : Option Str} (h : IsS K H v o) (k : ∀ b o, b ≠ x → H b = some o → H' b = some o) (h1 : H x = some (.ins C d fs)) (h2 : H' x = some (.ins C d fs')) : IsS K H' v o := by
  cases h with
  | str z => exact .str z
  | no h e => exact .no (h.fr k h1 h2) e
theorem TVr.fr {K : PySem.W.Frag} {H H' : Hp} {x C d : Addr} {fs fs' : List (Str × V)} {v : V} {o : TV} (h : TVr K H v o) (k : ∀ b o, b ≠ x → H b = some o → H' b = some o) (h1 : H x = some (.ins C d fs)) (h2 : H' x = some (.ins C d fs')) : TVr K H' v o := by
  have go : ∀ {b : Addr} {o : HO}, H b = some o → (∀ C d fs, o ≠ .ins C d fs) → H' b = some o := fun {b o} e n => k b o (fun q => by rw [q, h1] at e; exact n _ _ _ (Option.some.inj e).symm) e
  cases h with
  | no h e => exact .no (h.fr k h1 h2) e
  | long h n => exact .long (go h (by intros; simp)) n
  | pair h hx hy => exact .pair (go h (by intros; simp)) (hx.fr k h1 h2) (hy.fr k h1 h2)
theorem TiesR.fr {K : PySem.W.Frag} {H H' : Hp} {x C d : Addr} {fs fs' : List (Str × V)} {a : Addr} {es : List (Str × TV)} (h : TiesR K H a es) (k : ∀ b o, b ≠ x → H b = some o → H' b = some o) (h1 : H x = some (.ins C d fs)) (h2 : H' x = some (.ins C d fs')) : TiesR K H' a es := by
  obtain ⟨⟨kvs, e, p⟩, nd⟩ := h
  exact ⟨⟨kvs, k _ _ (fun q => by rw [q, h1] at e; cases e) e, Paired.imp (fun a b q => ⟨q.1, q.2.fr k h1 h2⟩) p⟩, nd⟩
theorem webTies_keys (es : List (Str × TV)) : (webTies es).map (·.1) = sortS (es.map (·.1)) := by
  unfold webTies
  rw [List.map_map]
  exact (List.map_congr_left fun _ _ => rfl).trans (List.map_id _)
theorem webTies_nodup {es : List (Str × TV)} (h : (es.map (·.1)).Nodup) : ((webTies es).map (·.1)).Nodup := by
  rw [webTies_keys]
  exact nodup_sortS h
end BF
set_option Elab.async false
set_option linter.all false
set_option maxRecDepth 100000
set_option maxHeartbeats 4000000
namespace BF
open PySem PySem.Spec PyProof.Rows L2
/-! ### a tie is put -/
def putE (es : List (Str × TV)) (n : Str) (tv : TV) : List (Str × TV) := if (es.any fun e => decide (e.1 = n)) = true then es.map (fun e => if e.1 = n then (e.1, tv) else e) else es ++ [(n, tv)]
theorem tie_any {K : PySem.W.Frag} {H : Hp} {n : Str} : ∀ {kvs : List (Key × V)} {es : List (Str × TV)}, Paired (Tie K H) kvs es → (kvs.any fun kv => decide (kv.1 = Sum.inr n)) = es.any fun e => decide (e.1 = n)
  | _, _, .nil => rfl
  | (k, v) :: kvs, (m, tv) :: es, .cons p t => by
    have e : k = Sum.inr m := p.1
    subst e
    rw [List.any_cons, List.any_cons, tie_any t]
    congr 1
    exact decide_eq_decide.mpr ⟨fun h => Sum.inr.inj h, fun h => congrArg _ h⟩
theorem tie_map {K : PySem.W.Frag} {H : Hp} {n : Str} {v : V} {tv : TV} (h : TVr K H v tv) : ∀ {kvs : List (Key × V)} {es : List (Str × TV)}, Paired (Tie K H) kvs es →
    Paired (Tie K H) (kvs.map fun kv => if kv.1 = Sum.inr n then (kv.1, v) else kv) (es.map fun e => if e.1 = n then (e.1, tv) else e)
  | _, _, .nil => .nil
  | (k, u) :: kvs, (m, tu) :: es, .cons p t => by
    have e : k = Sum.inr m := p.1
    subst e
    refine .cons ?_ (tie_map h t)
    show Tie K H (if (Sum.inr m : Key) = Sum.inr n then (Sum.inr m, v) else (Sum.inr m, u)) (if m = n then (m, tv) else (m, tu))
    by_cases c : m = n
    · subst c
      rw [if_pos rfl, if_pos rfl]
      exact ⟨rfl, h⟩
    · rw [if_neg (fun q => c (Sum.inr.inj q)), if_neg c]
      exact p
theorem tie_put {K : PySem.W.Frag} {H : Hp} {n : Str} {v : V} {tv : TV} {kvs : List (Key × V)} {es : List (Str × TV)} (h : TVr K H v tv) (p : Paired (Tie K H) kvs es) : Paired (Tie K H) (putK kvs (.inr n) v) (putE es n tv) := by
  unfold putK putE
  rw [tie_any p]
  split
  · exact tie_map h p
  · exact Paired.snoc ⟨rfl, h⟩ p
theorem putE_keys (es : List (Str × TV)) (n : Str) (tv : TV) : (putE es n tv).map (·.1) = if n ∈ es.map (·.1) then es.map (·.1) else es.map (·.1) ++ [n] := by
  have e : (es.any fun e => decide (e.1 = n)) = decide (n ∈ es.map (·.1)) := by
    rw [Bool.eq_iff_iff, List.any_eq_true, decide_eq_true_eq, List.mem_map]
    constructor
    · rintro ⟨x, h, q⟩
      exact ⟨x, h, of_decide_eq_true q⟩
    · rintro ⟨x, h, q⟩
      exact ⟨x, h, decide_eq_true q⟩
  unfold putE
  rw [e]
  by_cases h : n ∈ es.map (·.1)
  · rw [decide_eq_true h, if_pos rfl, if_pos h, List.map_map]
    refine List.map_congr_left fun x _ => ?_
    show (if x.1 = n then (x.1, tv) else x).1 = x.1
    split <;> rfl
  · rw [decide_eq_false h, if_neg (by decide), if_neg h, List.map_append]
    rfl
theorem putE_nodup {es : List (Str × TV)} {n : Str} {tv : TV} (h : (es.map (·.1)).Nodup) : ((putE es n tv).map (·.1)).Nodup := by
  rw [putE_keys]
  split
  · exact h
  · rename_i q
    rw [List.nodup_append]
    refine ⟨h, by simp, fun a ha b hb e => ?_⟩
    rw [List.mem_singleton.mp hb] at e
    exact q (e ▸ ha)
theorem putE_len (es : List (Str × TV)) (n : Str) (tv : TV) : (putE es n tv).length ≤ es.length + 1 := by
  unfold putE
  split
  · rw [List.length_map]
    omega
  · rw [List.length_append]
    exact Nat.le_refl _
theorem putE_mem {es : List (Str × TV)} {n : Str} {tv : TV} {e : Str × TV} (h : e ∈ putE es n tv) : e ∈ es ∨ e = (n, tv) := by
  unfold putE at h
  split at h
  · obtain ⟨x, hx, q⟩ := List.mem_map.mp h
    split at q
    · rename_i c
      right
      rw [← q, c]
    · left
      rw [← q]
      exact hx
  · rcases List.mem_append.mp h with h | h
    · exact .inl h
    · exact .inr (List.mem_singleton.mp h)
theorem TiesR.put {K : PySem.W.Frag} {H H' : Hp} {d : Addr} {es : List (Str × TV)} {kvs : List (Key × V)} {n : Str} {v : V} {tv : TV} (p : Paired (Tie K H) kvs es) (nd : (es.map (·.1)).Nodup) (h : TVr K H v tv) (s : ∀ x t, TVr K H x t → TVr K H' x t)
    (hd : H' d = some (.dK (putK kvs (.inr n) v))) : TiesR K H' d (putE es n tv) := ⟨⟨_, hd, Paired.imp (fun _ _ q => ⟨q.1, s _ _ q.2⟩) (tie_put h p)⟩, putE_nodup nd⟩
/-! ### a dict changes: what values are stays -/
theorem _root_.L2.TyX.dk {K : PySem.W.Frag} {H : Hp} {d : Addr} {kvs kvs' : List (Key × V)} {v : V} {t : Value} (h : TyX K H v t) (h1 : H d = some (.dK kvs)) : TyX K (upd H d (.dK kvs')) v t := by
  have go : ∀ {b : Addr} {o : HO}, H b = some o → (∀ k, o ≠ .dK k) → upd H d (.dK kvs') b = some o := fun {b o} e n => by
    rw [upd_ne (fun q => by rw [q, h1] at e; exact n _ (Option.some.inj e).symm)]
    exact e
  cases h with
  | base b =>
    cases b with
    | non => exact .base .non
    | bl x => exact .base (.bl x)
    | int i => exact .base (.int i)
    | str x => exact .base (.str x)
    | flt x => exact .base (.flt x)
    | lst e => exact .base (.lst (go e (by intros; simp)))
    | frz e => exact .base (.frz (go e (by intros; simp)))
    | tup e => exact .base (.tup (go e (by intros; simp)))
    | @dK a kv e =>
      by_cases q : a = d
      · subst q
        exact .base (.dK upd_same)
      · exact .base (.dK (by rw [upd_ne q]; exact e))
    | dT e => exact .base (.dT (go e (by intros; simp)))
    | ins e cl ha hn htk hm => exact .base (.ins (go e (by intros; simp)) cl ha hn htk hm)
  | byt b => exact .byt b
  | set e => exact .set (go e (by intros; simp))
  | kList e c => exact .kList e c
  | kTuple e c => exact .kTuple e c
  | kDict e c => exact .kDict e c
  | fTuple e => exact .fTuple (go e (by intros; simp))
  | fDict e => exact .fDict (go e (by intros; simp))
theorem TVr.dk {K : PySem.W.Frag} {H : Hp} {d : Addr} {kvs kvs' : List (Key × V)} {v : V} {o : TV} (h : TVr K H v o) (h1 : H d = some (.dK kvs)) : TVr K (upd H d (.dK kvs')) v o := by
  have go : ∀ {b : Addr} {xs : List V}, H b = some (.tup xs) → upd H d (.dK kvs') b = some (.tup xs) := fun {b xs} e => by
    rw [upd_ne (fun q => by rw [q, h1] at e; cases e)]
    exact e
  have si : ∀ {v : V} {o : Option Str}, IsS K H v o → IsS K (upd H d (.dK kvs')) v o := fun {v o} q => by
    cases q with
    | str z => exact .str z
    | no h e => exact .no (h.dk h1) e
  cases h with
  | no h e => exact .no (h.dk h1) e
  | long h n => exact .long (go h) n
  | pair h hx hy => exact .pair (go h) (si hx) (si hy)
end BF
set_option Elab.async false
set_option linter.all false
set_option maxRecDepth 100000
set_option maxHeartbeats 4000000
namespace BF
open PySem PySem.Spec PyProof.Rows L2
/-! ### readings that lay new things alone -/
/-- te lays new things and yields a value with P -/
def EvN (te : TE) (σ : L2.St) (H0 : Hp) (P : V → Hp → Prop) : Prop := ∀ H, Same H0 H → ∀ Q : VK, (∀ v H', Same H H' → P v H' → Q v H') → te σ H Q
def EvNs (ta : TA) (σ : L2.St) (H0 : Hp) (n : Nat) (P : V → Hp → Prop) : Prop := ∀ H, Same H0 H → ∀ Q : List V → Hp → Prop, (∀ vs H', Same H H' → vs.length = n → (∀ v ∈ vs, P v H') → Q vs H') → ta σ H Q
theorem evs_nil {σ : L2.St} {H0 : Hp} {P : V → Hp → Prop} : EvNs tNil σ H0 0 P := fun H _ _ k => k [] H (Same.refl H) rfl (fun _ h => by cases h)
theorem evs_cons {σ : L2.St} {H0 : Hp} {P : V → Hp → Prop} {te : TE} {ta : TA} {n : Nat} (st : ∀ v H H', Same H H' → P v H → P v H') (h : EvN te σ H0 P) (hs : EvNs ta σ H0 n P) : EvNs (tCons te ta) σ H0 (n + 1) P := fun H s Q k =>
  h H s _ fun v H1 s1 p => hs H1 (s.trans s1) _ fun vs H2 s2 hl ps => k (v :: vs) H2 (s1.trans s2) (by rw [List.length_cons, hl]) fun u hu => by
    rcases List.mem_cons.mp hu with rfl | hu
    · exact st _ _ _ s2 p
    · exact ps u hu
theorem ev_lst {σ : L2.St} {H0 : Hp} {P : V → Hp → Prop} {ta : TA} {n : Nat} (st : ∀ v H H', Same H H' → P v H → P v H') (hs : EvNs ta σ H0 n P) (hn : n ≤ 1000) : EvN (tLst ta) σ H0 (fun v H => ∃ l vs, v = .ref l ∧ H l = some (.lst vs) ∧ vs.length = n ∧ ∀ u ∈ vs, P u H) := fun H s Q k =>
  hs H s _ fun vs H1 s1 hl ps => ⟨by rw [sizeLine_eq, hl]; omega, fun l nl => k _ _ (s1.trans (Same.new nl)) ⟨l, vs, rfl, upd_same, hl, fun u hu => st _ _ _ (Same.new nl) (ps u hu)⟩⟩
/-- a value of the kinds that ties are spoiled with -/
def Tv (K : PySem.W.Frag) (v : V) (H : Hp) : Prop := ∃ tv, TVr K H v tv
theorem Tv.st {K : PySem.W.Frag} : ∀ v H H', Same H H' → Tv K v H → Tv K v H' := fun _ _ _ s ⟨tv, h⟩ => ⟨tv, h.same s⟩
section
variable {K : PySem.W.Frag} {σ : L2.St} {H0 : Hp} {i : Nat} {p : Str}
theorem tv_var (h : σ[i]? = some (some (.str p))) : EvN (tVar i) σ H0 (Tv K) := fun H s Q k => ⟨_, h, k _ _ (Same.refl H) ⟨_, .no (.base (.str p)) (kit_ty (by decide +kernel))⟩⟩
theorem tv_non : EvN (tC .non) σ H0 (Tv K) := fun H s Q k => k _ _ (Same.refl H) ⟨_, .no (.base .non) (kit_ty (by decide +kernel))⟩
theorem tv_int {n : Int} : EvN (tC (.int n)) σ H0 (Tv K) := fun H s Q k => k _ _ (Same.refl H) ⟨_, .no (.base (.int n)) (kit_ty (by decide +kernel))⟩
theorem tv_bl {b : Bool} : EvN (tC (.bl b)) σ H0 (Tv K) := fun H s Q k => k _ _ (Same.refl H) ⟨_, .no (.base (.bl b)) (kit_ty (by decide +kernel))⟩
theorem tv_dict : EvN tDNewK σ H0 (Tv K) := fun H s Q k => fun d nd => k _ _ (Same.new nd) ⟨_, .no (.base (.dK upd_same)) (kit_ty (by decide +kernel))⟩
theorem tv_one (h : σ[i]? = some (some (.str p))) : EvN (tTup (tCons (tVar i) tNil)) σ H0 (Tv K) := fun H s Q k => ⟨_, h, (by show 1 ≤ sizeLine; rw [sizeLine_eq]; omega), fun t nt => k _ _ (Same.new nt) ⟨_, .long upd_same (by show 1 ≠ 2; decide)⟩⟩
theorem tv_three (h : σ[i]? = some (some (.str p))) : EvN (tTup (tCons (tVar i) (tCons (tVar i) (tCons (tVar i) tNil)))) σ H0 (Tv K) := fun H s Q k =>
  ⟨_, h, _, h, _, h, (by show 3 ≤ sizeLine; rw [sizeLine_eq]; omega), fun t nt => k _ _ (Same.new nt) ⟨_, .long upd_same (by show 3 ≠ 2; decide)⟩⟩
theorem tv_list (h : σ[i]? = some (some (.str p))) : EvN (tLst (tCons (tVar i) (tCons (tVar i) tNil))) σ H0 (Tv K) := fun H s Q k =>
  ⟨_, h, _, h, (by show 2 ≤ sizeLine; rw [sizeLine_eq]; omega), fun t nt => k _ _ (Same.new nt) ⟨_, .no (.base (.lst upd_same)) (kit_ty (by decide +kernel))⟩⟩
theorem tv_vc {z : Str} (h : σ[i]? = some (some (.str p))) : EvN (tTup (tCons (tVar i) (tCons (tC (.str z)) tNil))) σ H0 (Tv K) := fun H s Q k =>
  ⟨_, h, (by show 2 ≤ sizeLine; rw [sizeLine_eq]; omega), fun t nt => k _ _ (Same.new nt) ⟨_, .pair upd_same (.str _) (.str _)⟩⟩
theorem tv_cv {z : Str} (h : σ[i]? = some (some (.str p))) : EvN (tTup (tCons (tC (.str z)) (tCons (tVar i) tNil))) σ H0 (Tv K) := fun H s Q k =>
  ⟨_, h, (by show 2 ≤ sizeLine; rw [sizeLine_eq]; omega), fun t nt => k _ _ (Same.new nt) ⟨_, .pair upd_same (.str _) (.str _)⟩⟩
theorem tv_vn (h : σ[i]? = some (some (.str p))) : EvN (tTup (tCons (tVar i) (tCons (tC .non) tNil))) σ H0 (Tv K) := fun H s Q k =>
  ⟨_, h, (by show 2 ≤ sizeLine; rw [sizeLine_eq]; omega), fun t nt => k _ _ (Same.new nt) ⟨_, .pair upd_same (.str _) (.no (.base .non) (kit_ty (by decide +kernel)))⟩⟩
theorem tv_iv {n : Int} (h : σ[i]? = some (some (.str p))) : EvN (tTup (tCons (tC (.int n)) (tCons (tVar i) tNil))) σ H0 (Tv K) := fun H s Q k =>
  ⟨_, h, (by show 2 ≤ sizeLine; rw [sizeLine_eq]; omega), fun t nt => k _ _ (Same.new nt) ⟨_, .pair upd_same (.no (.base (.int n)) (kit_ty (by decide +kernel))) (.str _)⟩⟩
theorem tv_lv (h : σ[i]? = some (some (.str p))) : EvN (tTup (tCons (tLst (tCons (tVar i) tNil)) (tCons (tVar i) tNil))) σ H0 (Tv K) := fun H s Q k =>
  ⟨_, h, (by show 1 ≤ sizeLine; rw [sizeLine_eq]; omega), fun l nl => ⟨_, h, (by show 2 ≤ sizeLine; rw [sizeLine_eq]; omega), fun t nt => k _ _ ((Same.new nl).trans (Same.new nt))
    ⟨_, .pair upd_same (.no (.base (.lst (Same.new nt _ _ upd_same))) (kit_ty (by decide +kernel))) (.str _)⟩⟩⟩
theorem tv_vv {j : Nat} {q : Str} (h : σ[i]? = some (some (.str p))) (h2 : σ[j]? = some (some (.str q))) : EvN (tTup (tCons (tVar i) (tCons (tVar j) tNil))) σ H0 (Tv K) := fun H s Q k =>
  ⟨_, h, _, h2, (by show 2 ≤ sizeLine; rw [sizeLine_eq]; omega), fun t nt => k _ _ (Same.new nt) ⟨_, .pair upd_same (.str _) (.str _)⟩⟩
end
/-! ### one statement ahead -/
theorem seq_asg {te : TE} {g : TG} {b : TS} {D : Ends} {σ : L2.St} {H : Hp} (h : te σ H fun x H1 => g x σ H1 (b D)) : tSeq (tAsg te g) b D σ H := h
theorem seq_put {td ty tv : TE} {b : TS} {D : Ends} {σ : L2.St} {H : Hp} (h : tv σ H fun v H1 => td σ H1 fun x H2 => ty σ H2 fun y H3 => ∃ a H4, x = V.ref a ∧ DPut H3 a y v H4 ∧ b D σ H4) : tSeq (sDPut td ty tv) b D σ H := h
theorem g_name {i : Nat} {v : V} {σ : L2.St} {H : Hp} {k : L2.St → Hp → Prop} (h : k (σ.set i (some v)) H) : gName i v σ H k := h
end BF
set_option Elab.async false
set_option linter.all false
set_option maxRecDepth 100000
set_option maxHeartbeats 4000000
namespace BF
open PySem PySem.Spec PyProof.Rows L2
/-! ### ties whose values are pairs of texts -/
abbrev Tr := Str × Str × Str
def rawE (r : Tr) : Str × TV := (r.1, .ends r.2.1 r.2.2)
theorem raw_keys (rs : List Tr) : (rs.map rawE).map (·.1) = rs.map (·.1) := by
  rw [List.map_map]
  exact List.map_congr_left fun _ _ => rfl
theorem raw_of {ps : List Str} : ∀ {es : List (Str × TV)}, (∀ e ∈ es, ∃ a b, e.2 = .ends a b ∧ a ∈ ps ∧ b ∈ ps) → ∃ rs : List Tr, es = rs.map rawE ∧ ∀ r ∈ rs, r.2.1 ∈ ps ∧ r.2.2 ∈ ps
  | [], _ => ⟨[], rfl, fun _ h => by cases h⟩
  | (n, tv) :: es, h => by
    obtain ⟨a, b, e, ha, hb⟩ := h _ List.mem_cons_self
    obtain ⟨rs, e2, h2⟩ := raw_of (es := es) (fun x hx => h x (List.mem_cons_of_mem _ hx))
    have e : tv = .ends a b := e
    refine ⟨(n, a, b) :: rs, by rw [e2, e]; rfl, fun r hr => ?_⟩
    rcases List.mem_cons.mp hr with rfl | hr
    · exact ⟨ha, hb⟩
    · exact h2 r hr
theorem tie_raw {K : PySem.W.Frag} {H : Hp} : ∀ {kvs : List (Key × V)} {rs : List Tr}, Paired (Tie K H) kvs (rs.map rawE) → Paired (Tup2 H) kvs rs
  | [], [], _ => .nil
  | (k, v) :: kvs, r :: rs, .cons p t => by
    obtain ⟨q, e, h⟩ := TVr.get (a := r.2.1) (b := r.2.2) p.2
    exact .cons ⟨p.1, q, e, h⟩ (tie_raw t)
theorem raw_tie {K : PySem.W.Frag} {H : Hp} : ∀ {kvs : List (Key × V)} {rs : List Tr}, Paired (Tup2 H) kvs rs → Paired (Tie K H) kvs (rs.map rawE)
  | _, _, .nil => .nil
  | (k, v) :: kvs, r :: rs, .cons p t => by
    obtain ⟨e, q, e2, h⟩ := p
    have e2 : v = .ref q := e2
    subst e2
    exact .cons ⟨e, TVr.ends h⟩ (raw_tie t)
theorem ties_raw {K : PySem.W.Frag} {H : Hp} {d : Addr} {kvs : List (Key × V)} {rs : List Tr} (h : H d = some (.dK kvs)) (p : Paired (Tup2 H) kvs rs) (nd : (rs.map (·.1)).Nodup) : TiesR K H d (rs.map rawE) := ⟨⟨kvs, h, raw_tie p⟩, by rw [raw_keys]; exact nd⟩
theorem lk_raw : ∀ {rs : List Tr} {r : Tr}, (rs.map (·.1)).Nodup → r ∈ rs → lkE (rs.map rawE) r.1 = some (.ends r.2.1 r.2.2)
  | u :: us, r, nd, h => by
    have nd : (u.1 :: us.map (·.1)).Nodup := nd
    unfold lkE
    rcases List.mem_cons.mp h with rfl | h
    · simp [rawE]
    · have hne : ¬ u.1 = r.1 := fun e => (List.nodup_cons.mp nd).1 (List.mem_map.mpr ⟨r, h, e.symm⟩)
      have ih := lk_raw (List.nodup_cons.mp nd).2 h
      unfold lkE at ih
      rw [List.map_cons, List.find?_cons, show decide ((rawE u).1 = r.1) = false from decide_eq_false hne]
      exact ih
theorem ends_raw {rs : List Tr} {r : Tr} (nd : (rs.map (·.1)).Nodup) (h : r ∈ rs) : endsOf (rs.map rawE) r.1 = srt2 r.2.1 r.2.2 := endsOf_eq (lk_raw nd h)
theorem srt2_swap (a b : Str) : srt2 a b = srt2 b a := by
  unfold srt2
  by_cases h : leS a b = true
  · rw [if_pos h]
    by_cases h2 : leS b a = true
    · rw [if_pos h2, leS_anti a b h h2]
    · rw [if_neg h2]
  · rw [if_neg h]
    have := leS_total a b
    rw [Bool.or_eq_true] at this
    rw [if_pos (this.resolve_left h)]
theorem due_ok {ps : List Str} {rs : List Tr} (h1 : 1 ≤ ps.length) (h16 : ps.length ≤ 16) (hn : ∀ p ∈ ps, isNm p = true) (nd : ps.Nodup) (hk : ∀ r ∈ rs, isNm r.1 = true ∧ r.2.1 ∈ ps ∧ r.2.2 ∈ ps) (ndk : (rs.map (·.1)).Nodup) (hl : rs.length ≤ 24) : dueOf ps (rs.map rawE) = none := by
  have e1 : plF ps = none := by
    unfold plF
    rw [if_pos ⟨h1, h16⟩, fw_none (fun k hk => ?_)]
    · rfl
    · unfold okAt
      rw [List.getElem?_eq_getElem hk]
      simp only [hn _ (List.getElem_mem hk), Bool.true_and, Bool.not_eq_true', decide_eq_false_iff_not]
      intro hm
      obtain ⟨j, hj, e⟩ := List.mem_iff_getElem.mp hm
      rw [List.length_take] at hj
      rw [List.getElem_take] at e
      have := (List.getElem_inj nd).mp e
      omega
  have e2 : tiF ps (rs.map rawE) = none := by
    unfold tiF
    rw [List.find?_eq_none]
    intro n hm
    rw [mem_sortS, raw_keys] at hm
    obtain ⟨r, hr, rfl⟩ := List.mem_map.mp hm
    rw [goodE_of (lk_raw ndk hr)]
    obtain ⟨q1, q2, q3⟩ := hk r hr
    simp [goodT, q1, q2, q3]
  unfold dueOf
  rw [e1, e2]
  simp only [List.length_map, if_neg (show ¬ 24 < rs.length by omega)]
def endR (rs : List Tr) (n : Str) : Str × Str := match rs.find? fun r => decide (r.1 = n) with
  | some r => r.2
  | none => (n, n)
theorem endR_mem : ∀ {rs : List Tr} {n : Str}, n ∈ rs.map (·.1) → (n, endR rs n) ∈ rs
  | u :: us, n, h => by
    unfold endR
    rw [List.find?_cons]
    by_cases e : u.1 = n
    · subst e
      simp
    · rw [decide_eq_false e]
      have h : n = u.1 ∨ n ∈ us.map (·.1) := List.mem_cons.mp h
      have ih := endR_mem (rs := us) (h.resolve_left fun q => e q.symm)
      unfold endR at ih
      exact List.mem_cons_of_mem _ ih
theorem webTies_rev {rs : List Tr} {ns : List Str} (nd : (rs.map (·.1)).Nodup) (pm : ns.Perm (rs.map (·.1))) : webTies ((ns.map fun n => (n, (endR rs n).2, (endR rs n).1)).map rawE) = webTies (rs.map rawE) := by
  have hk : (ns.map fun n => ((n, (endR rs n).2, (endR rs n).1) : Tr)).map (·.1) = ns := by
    rw [List.map_map]
    exact (List.map_congr_left fun _ _ => rfl).trans (List.map_id _)
  have hnd : ((ns.map fun n => ((n, (endR rs n).2, (endR rs n).1) : Tr)).map (·.1)).Nodup := by
    rw [hk]
    exact pm.nodup_iff.mpr nd
  unfold webTies
  rw [raw_keys, raw_keys, hk, sortS_of_perm pm]
  refine List.map_congr_left fun n hn => ?_
  have hn : n ∈ rs.map (·.1) := (mem_sortS _ _).mp hn
  have h1 := ends_raw nd (endR_mem hn)
  have h2 := ends_raw hnd (List.mem_map.mpr ⟨n, pm.mem_iff.mpr hn, rfl⟩)
  have h1 : endsOf (rs.map rawE) n = srt2 (endR rs n).1 (endR rs n).2 := h1
  have h2 : endsOf ((ns.map fun n => ((n, (endR rs n).2, (endR rs n).1) : Tr)).map rawE) n = srt2 (endR rs n).2 (endR rs n).1 := h2
  rw [h1, h2, srt2_swap]
theorem webTies_mem {rs : List Tr} (nd : (rs.map (·.1)).Nodup) {t : Tr} (h : t ∈ webTies (rs.map rawE)) : ∃ r ∈ rs, t = (r.1, srt2 r.2.1 r.2.2) := by
  unfold webTies at h
  obtain ⟨n, hn, rfl⟩ := List.mem_map.mp h
  rw [mem_sortS, raw_keys] at hn
  obtain ⟨r, hr, rfl⟩ := List.mem_map.mp hn
  exact ⟨r, hr, by rw [ends_raw nd hr]⟩
theorem webTies_len (rs : List Tr) : (webTies (rs.map rawE)).length = rs.length := by
  unfold webTies
  rw [List.length_map, sortS_length, List.length_map, List.length_map]
theorem mem_webTies {rs : List Tr} (nd : (rs.map (·.1)).Nodup) {r : Tr} (h : r ∈ rs) : (r.1, srt2 r.2.1 r.2.2) ∈ webTies (rs.map rawE) := by
  unfold webTies
  refine List.mem_map.mpr ⟨r.1, (mem_sortS _ _).mpr (by rw [raw_keys]; exact List.mem_map.mpr ⟨r, h, rfl⟩), ?_⟩
  rw [ends_raw nd h]
/-! ### dict(list of pairs) -/
abbrev PT (H : Hp) : Addr → Tr → Prop := fun q e => ∃ t, H q = some (.tup [.str e.1, .ref t]) ∧ H t = some (.tup [.str e.2.1, .str e.2.2])
theorem pt_same {H H' : Hp} (s : Same H H') {qs : List Addr} {ts : List Tr} (h : Paired (PT H) qs ts) : Paired (PT H') qs ts := Paired.imp (fun _ _ ⟨t, a, b⟩ => ⟨t, s _ _ a, s _ _ b⟩) h
theorem pt_kvs {K : PySem.W.Frag} {H : Hp} : ∀ {qs : List Addr} {ts : List Tr}, Paired (PT H) qs ts → ∃ kvs : List (Key × V), Paired (fun p kv => SqT K H p [kV kv.1, kv.2]) qs kvs ∧ Paired (Tup2 H) kvs ts
  | _, _, .nil => ⟨[], .nil, .nil⟩
  | q :: qs, e :: ts, .cons p h => by
    obtain ⟨kvs, h1, h2⟩ := pt_kvs (K := K) h
    obtain ⟨t, a, b⟩ := p
    exact ⟨(.inr e.1, .ref t) :: kvs, .cons (SqT.of a) h1, .cons ⟨rfl, t, rfl, b⟩ h2⟩
theorem mergeK_app : ∀ (kvs acc : List (Key × V)), ((acc ++ kvs).map (·.1)).Nodup → mergeK acc kvs = acc ++ kvs
  | [], acc, _ => by rw [List.append_nil]; rfl
  | kv :: kvs, acc, nd => by
    have hv : valV acc kv.1 = none := valV_none (fun h => by
      rw [List.map_append, List.nodup_append] at nd
      exact nd.2.2 _ h kv.1 List.mem_cons_self rfl)
    have ih := mergeK_app kvs (acc ++ [kv]) (by rw [List.append_assoc]; exact nd)
    show mergeK (putK acc kv.1 kv.2) kvs = _
    rw [putK_new _ hv, ih, List.append_assoc]
    rfl
theorem mergeK_nd {H : Hp} {kvs : List (Key × V)} {ts : List Tr} (h : Paired (Tup2 H) kvs ts) (nd : (ts.map (·.1)).Nodup) : mergeK [] kvs = kvs := by
  refine mergeK_app kvs [] ?_
  rw [List.nil_append, keys2 h]
  exact nodup_inr nd
  where nodup_inr {l : List Str} (h : l.Nodup) : (l.map (Sum.inr : Str → Key)).Nodup := List.Pairwise.map _ (fun a b hne e => hne (Sum.inr.inj e)) h
/-- a lock is taken off -/
theorem lock_same {H H' : Hp} {d : Addr} {od : Obj} {u : HO} (hd : H d = some u) (s : Same (upd H d (.frz od u)) H') : Same H (upd H' d u) := fun b o e => by
  by_cases q : b = d
  · subst q
    rw [upd_same, ← e, hd]
  · rw [upd_ne q]
    exact s _ _ (by rw [upd_ne q]; exact e)
theorem at2 {H : Hp} : ∀ {kvs : List (Key × V)} {rs : List Tr} {i : Nat} {kv : Key × V}, Paired (Tup2 H) kvs rs → kvs[i]? = some kv → ∃ r, rs[i]? = some r ∧ Tup2 H kv r
  | _, _, 0, kv, .cons p t, h => by
    cases Option.some.inj h
    exact ⟨_, rfl, p⟩
  | _, _, i + 1, kv, .cons p t, h => at2 (i := i) t h
theorem get2' {H : Hp} {kvs : List (Key × V)} {rs : List Tr} {r : Tr} (h : Paired (Tup2 H) kvs rs) (nd : (rs.map (·.1)).Nodup) (hr : r ∈ rs) : ∃ t, valV kvs (.inr r.1) = some (.ref t) ∧ H t = some (.tup [.str r.2.1, .str r.2.2]) := get2 (n := r.1) (e := r.2) h nd hr
def strOf : V → Str
  | .str z => z
  | _ => ""
theorem perm_strs {ys : List V} {ps : List Str} (h : ys.Perm (ps.map V.str)) : ∃ qs : List Str, ys = qs.map V.str ∧ qs.Perm ps := by
  refine ⟨ys.map strOf, ?_, ?_⟩
  · rw [List.map_map]
    refine ((List.map_congr_left fun y hy => ?_).trans (List.map_id ys)).symm
    obtain ⟨z, _, rfl⟩ := List.mem_map.mp (h.mem_iff.mp hy)
    rfl
  · have e := h.map strOf
    rw [List.map_map] at e
    rw [show (strOf ∘ V.str) = id from rfl, List.map_id] at e
    exact e
theorem keysV {H : Hp} {kvs : List (Key × V)} {rs : List Tr} (h : Paired (Tup2 H) kvs rs) : (kvs.map fun kv => kV kv.1) = (rs.map (·.1)).map V.str := by
  have e := congrArg (List.map kV) (keys2 h)
  rw [List.map_map, List.map_map] at e
  rw [show (fun kv : Key × V => kV kv.1) = kV ∘ (fun x => x.1) from rfl, e]
  rfl
theorem key_uniq {n : Str} {e f : Str × Str} : ∀ {ts : List Tr}, (ts.map (·.1)).Nodup → (n, e) ∈ ts → (n, f) ∈ ts → e = f
  | u :: us, nd, h1, h2 => by
    have nd : (u.1 :: us.map (·.1)).Nodup := nd
    have no : ∀ g, (n, g) ∈ us → u.1 ≠ n := fun g hg q => (List.nodup_cons.mp nd).1 (List.mem_map.mpr ⟨_, hg, q.symm⟩)
    rcases List.mem_cons.mp h1 with q1 | q1
    · rcases List.mem_cons.mp h2 with q2 | q2
      · exact (Prod.mk.inj (q1.trans q2.symm)).2
      · exact absurd (congrArg (·.1) q1).symm (no _ q2)
    · rcases List.mem_cons.mp h2 with q2 | q2
      · exact absurd (congrArg (·.1) q2).symm (no _ q1)
      · exact key_uniq (List.nodup_cons.mp nd).2 q1 q2
theorem replicate_snoc (i : Nat) : (List.replicate (i + 1) true).map V.bl = (List.replicate i true).map V.bl ++ [V.bl true] := by
  rw [List.replicate_succ', List.map_append]
  rfl
theorem all_replicate (n : Nat) : (List.replicate n true).all id = true := by
  rw [List.all_eq_true]
  intro x hx
  rw [(List.mem_replicate.mp hx).2]
  rfl
theorem replicate_snocF (i : Nat) : (List.replicate (i + 1) false).map V.bl = (List.replicate i false).map V.bl ++ [V.bl false] := by
  rw [List.replicate_succ', List.map_append]
  rfl
theorem any_replicate (n : Nat) : (List.replicate n false).any id = false := by
  rw [List.any_eq_false]
  intro x hx
  rw [(List.mem_replicate.mp hx).2]
  simp
theorem take_filter {p : Tr → Bool} {l : List Tr} {i : Nat} {r : Tr} (h : l[i]? = some r) : (l.take (i + 1)).filter p = (l.take i).filter p ++ if p r = true then [r] else [] := by
  rw [List.take_succ, h, List.filter_append]
  congr 1
  by_cases e : p r = true
  · simp [e]
  · simp [e]
end BF
set_option Elab.async false
set_option linter.all false
set_option maxRecDepth 100000
set_option maxHeartbeats 4000000
/-! Texts repeated, min of texts, max with a default, C(.., k = v) with a keyword alone, == with values of other classes, a dict comprehension over any walk. -/
namespace BF
open PySem PySem.Spec PyProof.Rows L2
/-! ### a text many times -/
def rRepS : R2 := fun x y H Q => ∃ (z : Str) (k : Int), x = .str z ∧ y = .int k ∧ 0 ≤ k ∧ k ≤ 1000 ∧ z.length ≤ 1000 ∧ Q (.str (Txt.mul z k)) H
theorem op_repS {X : Cx} : OpR X (binaryOp .Mult) rRepS := by
  rintro pins s σ H x y v u Q I rx ry ⟨z, k, rfl, rfl, h1, h2, h3, q⟩
  obtain ⟨t, rfl⟩ := rx
  obtain ⟨t2, rfl⟩ := ry
  exact SB.mul (mulOk_of 1000 1000 h3 h2 (by omega) (by omega) (by omega)) fun t3 tk => ⟨.str (Txt.mul z k), H, I.tok _, ⟨_, rfl⟩, q⟩
theorem rep_foldl (c : Nat) : ∀ (n : Nat) (acc : Array Nat), ((List.replicate n (#[c] : Array Nat)).foldl (· ++ ·) acc).toList = acc.toList ++ List.replicate n c
  | 0, acc => by simp
  | n + 1, acc => by
    rw [List.replicate_succ, List.foldl_cons, rep_foldl c n, Array.toList_append, List.replicate_succ, List.append_assoc]
    rfl
theorem mul_sign (c : Nat) {k : Int} (h : 1 ≤ k) : Txt.mul (SX.S [c]) k = SX.S (List.replicate k.toNat c) := by
  unfold Txt.mul
  rw [if_neg (by omega)]
  split
  · rename_i e
    have e : (k == 1) = true := by
      rw [Bool.or_eq_true] at e
      rcases e with e | e
      · exact e
      · rw [SX.S_len] at e
        cases e
    rw [beq_iff_eq.mp e]
    rfl
  · refine str_ext ?_
    show ((List.replicate k.toNat (#[c] : Array Nat)).foldl (· ++ ·) #[]).toList = _
    rw [rep_foldl]
    rfl
/-! ### min of texts -/
def leastS (z : Str) (zs : List Str) : Str := zs.foldl (fun a y => if decide (y.cps.toList < a.cps.toList) = true then y else a) z
theorem minD_strs : ∀ (zs : List Str) (z : Str), PySem.W.minD (.str z) (zs.map PyData.str) = .str (leastS z zs)
  | [], z => rfl
  | y :: r, z => by
    have ih := minD_strs r (if decide (y.cps.toList < z.cps.toList) = true then y else z)
    unfold PySem.W.minD leastS at ih ⊢
    rw [List.map_cons, List.foldl_cons, List.foldl_cons, ← ih]
    congr 1
    rw [PySem.W.dataLt_str]
    split <;> rfl
theorem leastS_mem : ∀ (zs : List Str) (z : Str), leastS z zs ∈ z :: zs
  | [], z => List.mem_cons_self
  | y :: r, z => by
    have ih := leastS_mem r (if decide (y.cps.toList < z.cps.toList) = true then y else z)
    show leastS _ r ∈ _
    rcases List.mem_cons.mp ih with e | e
    · unfold leastS at e ⊢
      rw [e]
      split
      · exact List.mem_cons_of_mem _ List.mem_cons_self
      · exact List.mem_cons_self
    · exact List.mem_cons_of_mem _ (List.mem_cons_of_mem _ e)
theorem leastS_le : ∀ (zs : List Str) (z : Str), ∀ y ∈ z :: zs, leS (leastS z zs) y = true
  | [], z, y, h => by
    rw [List.mem_singleton.mp h]
    have := leS_total z z
    rw [Bool.or_self] at this
    exact this
  | y :: r, z, x, h => by
    have ih := leastS_le r (if decide (y.cps.toList < z.cps.toList) = true then y else z)
    show leS (leastS (if decide (y.cps.toList < z.cps.toList) = true then y else z) r) x = true
    have h0 := ih _ List.mem_cons_self
    by_cases c : y.cps.toList < z.cps.toList
    · rw [if_pos (decide_eq_true c)] at ih h0 ⊢
      rcases List.mem_cons.mp h with rfl | h
      · refine leS_trans _ _ _ h0 ?_
        have := leS_total x y
        rw [Bool.or_eq_true] at this
        rcases this with q | q
        · unfold leS at q
          rw [decide_eq_true c] at q
          cases q
        · exact q
      · rcases List.mem_cons.mp h with rfl | h
        · exact h0
        · exact ih _ (List.mem_cons_of_mem _ h)
    · rw [if_neg (by rw [decide_eq_false c]; decide)] at ih h0 ⊢
      rcases List.mem_cons.mp h with rfl | h
      · exact h0
      · rcases List.mem_cons.mp h with rfl | h
        · refine leS_trans _ _ _ h0 ?_
          unfold leS
          rw [decide_eq_false c]
          rfl
        · exact ih _ (List.mem_cons_of_mem _ h)
theorem depth_strs (zs : List Str) : PyData.depthAll (zs.map PyData.str) = 0 := by
  induction zs with
  | nil => rfl
  | cons z r ih =>
    show max (PyData.depth (.str z)) (PyData.depthAll (r.map PyData.str)) = 0
    rw [ih]
    simp [PyData.depth]
theorem alike_strs (zs : List Str) : PySem.W.AlikeAll (zs.map PyData.str) := by
  refine ⟨fun x hx y hy => ?_, fun x hx => ?_⟩
  · obtain ⟨a, _, rfl⟩ := List.mem_map.mp hx
    obtain ⟨b, _, rfl⟩ := List.mem_map.mp hy
    rfl
  · obtain ⟨a, _, rfl⟩ := List.mem_map.mp hx
    exact fun h => by cases h
def rMinS (K : PySem.W.Frag) : List V → Hp → VK → Prop := fun vs H Q => ∃ (a : Addr) (z : Str) (zs : List Str), vs = [.ref a] ∧ SqL K H a ((z :: zs).map V.str) ∧ Q (.str (leastS z zs)) H
theorem minSK {X : Cx} {k : Nat} (K : PySem.W.Frag) (hc : X.calm = true) (hr : Room k X.A) (h : X.K = K := by rfl) : CallR X (.builtin "min") (rMinS K) := by
  subst h
  rintro pins s σ H vs us Q I r ⟨a, z, zs, rfl, hs, q⟩
  obtain ⟨its, rv, hl, _⟩ := I.list hs
  rw [Vals.ref1 r]
  obtain ⟨as, hr2⟩ := Dp.readsAll I _ _ _ (dpAll_strs (z :: zs)) rv
  refine PySem.W.min_list_data (x := .str z) (xs := zs.map PyData.str) (I.ok.hd hc) hl.isList (as := as) ?_ (alike_strs (z :: zs)) ?_ fun i v h2 tk bs hv hrd hk => ?_
  · simpa using hr2
  · have e := depth_strs (z :: zs)
    have un := hr.un
    show _ + 1 + PyData.depthAll ((z :: zs).map PyData.str) < cLine
    rw [e]
    omega
  · rw [minD_strs] at hrd
    cases hrd
    exact ⟨.str _, H, I.kept hk, ⟨_, rfl⟩, q⟩
/-! ### max of ints, with a default -/
def greatestI (d : Int) : List Int → Int
  | [] => d
  | n :: r => r.foldl max n
theorem dpAll_ints {K : PySem.W.Frag} {H : Hp} : ∀ ns : List Int, DpAll K H (ns.map V.int) (ns.map PyData.int)
  | [] => .nil
  | n :: r => .cons (.int n) (dpAll_ints r)
theorem depth_ints (ns : List Int) : PyData.depthAll (ns.map PyData.int) = 0 := by
  induction ns with
  | nil => rfl
  | cons z r ih =>
    show max (PyData.depth (.int z)) (PyData.depthAll (r.map PyData.int)) = 0
    rw [ih]
    simp [PyData.depth]
theorem alike_ints (ns : List Int) : PySem.W.AlikeAll (ns.map PyData.int) := by
  refine ⟨fun x hx y hy => ?_, fun x hx => ?_⟩
  · obtain ⟨a, _, rfl⟩ := List.mem_map.mp hx
    obtain ⟨b, _, rfl⟩ := List.mem_map.mp hy
    rfl
  · obtain ⟨a, _, rfl⟩ := List.mem_map.mp hx
    exact fun h => by cases h
def rMaxDf (K : PySem.W.Frag) : List V → List V → Hp → VK → Prop := fun vs zs H Q => ∃ (a : Addr) (ns : List Int) (d : Int), vs = [.ref a] ∧ zs = [.int d] ∧ SqL K H a (ns.map V.int) ∧ Q (.int (greatestI d ns)) H
theorem maxDfK {X : Cx} {k : Nat} (K : PySem.W.Frag) (hc : X.calm = true) (hr : Room k X.A) (h : X.K = K := by rfl) : CallRK X (.builtin "max") [Str.ofString "default"] (rMaxDf K) := by
  subst h
  rintro pins s σ H vs zs us ws Q I r r2 ⟨a, ns, d, rfl, rfl, hs, q⟩
  obtain ⟨its, rv, hl, _⟩ := I.list hs
  rw [Vals.ref1 r]
  cases r2 with
  | cons rd r3 =>
    cases r3
    obtain ⟨t, rfl⟩ := rd
    obtain ⟨as, hr2⟩ := Dp.readsAll I _ _ _ (dpAll_ints ns) rv
    refine PySem.W.max_list_default (xs := ns.map PyData.int) (I.ok.hd hc) hl.isList (as := as) ?_ (alike_ints ns) ?_ (fun e h2 tk hk => ?_) fun y ys i v h2 tk bs e hv hrd hk => ?_
    · simpa using hr2
    · have un := hr.un
      rw [depth_ints]
      omega
    · cases ns with
      | nil => exact ⟨.int d, H, I.kept hk, ⟨_, rfl⟩, q⟩
      | cons n r => cases e
    · cases ns with
      | nil => cases e
      | cons n r =>
        cases e
        rw [PySem.W.maxD_ints] at hrd
        cases hrd
        exact ⟨.int _, H, I.kept hk, ⟨_, rfl⟩, q⟩
/-! ### a class whose __init__ has a parameter by name alone -/
structure MakXK (P : Program) (w : World) (K : PySem.W.Frag) (mg : Str → Option Value) (base : Heap) (k : Nat) (x : Str) (C : Addr) (n : Nat) (ks : List Str) (sp : Sp) : Prop where
  ex : ∃ (f : Addr) (fd : FuncData) (ps : List Str), Mk K C f ∧ FnOk P w K mg base (L2.CX P w) k f fd ps sp ∧ mg x = some (.ref C) ∧ KBn K fd ps (n + 1) ks (fun us ws => us ++ ws) (fun vs zs => vs ++ zs)
def tMakeKS (C : Addr) (n m : Nat) (sp : Sp) (E : L2.St → XK) (t tk : TA) : TE := fun σ H Q => t σ H fun vs G => tk σ G fun zs G2 => vs.length = n ∧ zs.length = m ∧
  ∀ x dx, G2 x = none → G2 dx = none → dx ≠ x → sp ((.ref x :: vs) ++ zs) (upd (upd G2 dx (.own x)) x (.ins C dx [])) (fun v G3 => v = .non ∧ Q (.ref x) G3) (E σ)
section
variable {X : Cx} {k j n : Nat} {C : Addr} {x : Str} {ks : List Str} {sp : Sp} {p pos : Pos} {e : Expr} {es : List Expr} {kws : List Keyword} {t tk : TA}
theorem pe_mkKN (c : MakXK X.prog X.w X.K X.mg X.base k x C n ks sp) (hr : Room j X.A) (hk : k + 1 ≤ j) (ha : PA X (e :: es) t) (hkw : PK X kws tk) (hg : Gl X x := by rfl)
    (hall : (backToKw pos (keywordEach kws X.env)).all (·.1.isSome) = true := by rfl) (hks : (backToKw pos (keywordEach kws X.env)).filterMap (·.1) = ks := by rfl) (hdb : (x == ("__debug__" : Str)) = false := by decide)
    (he : starEach (e :: es) X.env = (false, eval e X.env) :: starEach es X.env := by rfl) (hpl : ((backTo pos (starEach (e :: es) X.env)).any (·.1) || (backToKw pos (keywordEach kws X.env)).any (·.1.isNone)) = false := by rfl) :
    PE X (.Call (.Name x p) (e :: es) kws pos) (tMakeK C n ks.length sp (fun vs zs => vs ++ zs) (fun _ _ _ => False) t tk) := by
  obtain ⟨f, fd, ps, M, F, hm, b⟩ := c.ex
  exact pe_makeK M F (hr.mono hk) hg hm b (passN rfl) ha hkw hall hks hdb he hpl
theorem pe_mkKS (c : MakXK X.prog X.w X.K X.mg X.base k x C n ks sp) (hr : Room j X.A) (hk : k + 1 ≤ j) {E : L2.St → XK} (hx : ∀ σ, PassesAt (L2.CX X.prog X.w) X σ (E σ)) (ha : PA X (e :: es) t) (hkw : PK X kws tk) (hg : Gl X x := by rfl)
    (hall : (backToKw pos (keywordEach kws X.env)).all (·.1.isSome) = true := by rfl) (hks : (backToKw pos (keywordEach kws X.env)).filterMap (·.1) = ks := by rfl) (hdb : (x == ("__debug__" : Str)) = false := by decide)
    (he : starEach (e :: es) X.env = (false, eval e X.env) :: starEach es X.env := by rfl) (hpl : ((backTo pos (starEach (e :: es) X.env)).any (·.1) || (backToKw pos (keywordEach kws X.env)).any (·.1.isNone)) = false := by rfl) :
    PE X (.Call (.Name x p) (e :: es) kws pos) (tMakeKS C n ks.length sp E t tk) := by
  obtain ⟨fI, data, names, M, F, glob, binds⟩ := c.ex
  have room := hr.mono hk
  constructor
  intro pins s σ H Q I w
  refine wpAny_Call_Name_kw (ld_glob I hg glob (PySem.W.callWith_KW (h₀ := X.base) I.ok.mod.kin M.kp hall (thn (ha.run pos pins s σ H _ I w) ?_) hpl he) hdb)
  rintro us s2 ⟨vs, G, J, rel, w2⟩
  refine thn (hkw.run pos pins s2 σ G _ J w2) ?_
  rintro ws s3 ⟨zs, G2, J2, rel2, n1, n2, w3⟩
  refine ⟨J2.kIn, ?_⟩
  rw [hks]
  let m := s3.heap.objs.size
  have sat := w3 (m + 1) m (J2.hok.fresh (Nat.le_succ _)) (J2.hok.fresh (Nat.le_refl _)) (Nat.ne_of_lt (Nat.lt_succ_self _))
  have made := Inv.made (C := C) J2
  have args : Vals (V.ref (m + 1) :: vs) (Value.ref (m + 1) :: us) := .cons rfl rel
  have many : (Value.ref (m + 1) :: us).length = n + 1 := by
    have := rel.length
    rw [List.length_cons, ← this, n1]
  have bound := binds.to _ (Value.ref (m + 1) :: us) ws made.kIn many (rel2.length.symm.trans n2)
  have runs := F.run _ X.stack _ _ ⟨Value.ref (m + 1) :: us, ks.zip ws⟩ _ _ _ (E σ) (room.make C us (ks.zip ws)) (made.env0.make C us (ks.zip ws)) bound (binds.rel args rel2) sat
  refine wpAny_call (make_map (f := fI) J2.kIn M.makes M.init (beq_iff_eq.mp M.fn) (codeAny_mono runs fun out t2 q => ?_))
  match out, q with
  | .error e, q => exact hx σ pins _ _ e t2 made q
  | .ok (.ret u), q =>
    obtain ⟨v, G3, J3, rv, ev, q2⟩ := made.after q
    cases ev
    exact ⟨rv, V.ref (m + 1), G3, J3, rfl, q2⟩
end
/-! ### == of an instance and a value of another class, by the class's own __eq__ -/
section
variable {X : Cx} {n : Nat} {C f : Addr} {fd : FuncData} {ps : List Str} {sp : Sp}
def rEqX (K : PySem.W.Frag) (C : Addr) (sp : Sp) : R2 := fun x y H Q => ∃ (a dx : Addr) (fs : List (Str × V)) (t : Value), x = .ref a ∧ H a = some (.ins C dx fs) ∧ TyX K H y t ∧ PySem.W.notFirst K C t = true ∧ sp [.ref a, y] H (fun v G => ∃ r, v = .bl r ∧ Q (.bl r) G) (fun _ _ _ => False)
theorem op_eqX (K : PySem.W.Frag) (F : FnOk X.prog X.w X.K X.mg X.base C8.CX0 n f fd ps sp) (hb : Binds X.K fd ps []) (T : NeC X.K C f) (hr : Room n X.A) (hK : X.K = K := by rfl) : OpR X (compareOp .Eq) (rEqX K C sp) := by
  subst hK
  rintro pins s σ H x y u v Q I rx ry ⟨a, dx, fs, t, rfl, ha, ty, nf, hs⟩
  cases rx
  obtain ⟨mA, J, _⟩ := ins_get I.hok ha
  obtain ⟨od, J, _⟩ := J.look
  obtain ⟨m, hF⟩ := I.fr
  obtain ⟨P0, kx, hp, _⟩ := kit_of I ry ty
  refine PySem.W.cmp_K (op := .Eq) (tb := t) hr.units0 hF I.ok.mod.kin J (kx.ty _ _ I.kIn hp) nf T.eq T.fn ?_
  have e0 := I.env0
  have hx : Passes C8.CX0 X (fun _ _ _ => False) := C8.pass0
  have r2 : Vals [V.ref a, y] [Value.ref a, v] := .cons rfl (.cons ry .nil)
  have hl := F.len _ _ _ _ hs
  have bb := hb s [.ref a, v] I.kIn (by rw [List.append_nil]; exact hl)
  rw [List.append_nil] at bb
  refine wpAny_call (codeAny_mono (F.run X.A X.stack s H ⟨[.ref a, v], []⟩ _ _ _ _ hr e0 bb r2 hs) fun out s2 hq => ?_)
  match out, hq with
  | .error e, hq => exact hx _ _ _ _ _ _ I hq
  | .ok (.ret w), hq =>
    obtain ⟨z, G, J2, rz, r, rfl, q⟩ := I.after hq
    cases rz
    exact ⟨.bl r, G, J2, rfl, q⟩
end
/-! ### isinstance of a caught error that has a dict of its own -/
structure IsC (K : PySem.W.Frag) (D : Addr) : Prop where
  cl : PySem.W.isClsIn K D = true
  xf : XfC K D
  ca : PySem.W.findIn K (.ref D) "__class__" = some (some (.builtin "object.__class__"))
  cg : PySem.W.specialIn K (.builtin "object.__class__") "__get__" = some (some (.builtin "getset_descriptor.__get__"))
  ct : PySem.W.takesIn K (.builtin "object.__class__") = some true
  cm : PySem.W.mroIn K D (.type "object") = some true
def rIsD (K : PySem.W.Frag) (D : Addr) (cls : Value) (d : Option Addr) (a : Addr) : List V → Hp → VK → Prop := fun xs H Q => ∃ (c : V) (u : Value) (b : Bool) (dd : Addr) (fs : List (Str × V)), xs = [.ref a, c] ∧ ClsV c u ∧ cls = .ref D ∧ d = some dd ∧ H dd = some (.xd fs) ∧ PySem.W.kitOne K (.ref D) u = some b ∧ Q (.bl b) H
theorem call_isD {X : Cx} {a D : Addr} {oe : Obj} {cls : Value} {d : Option Addr} {pn : List (Addr × Obj)} (C : IsC X.K D) (hz : Zc cls d oe) (hf : ∃ vs, oe.data = .fields vs) : CallR (X.suite a ((a, oe) :: pn)) (.builtin "isinstance") (rIsD X.K D cls d a) := by
  rintro pins s σ H xs us Q I r ⟨c, u, b, dd, fs, rfl, hc, rfl, rfl, hd, e, q⟩
  match us, r with
  | [v, w], .cons rv (.cons rw .nil) =>
    cases rv
    have ec := hc.eq rw
    subst ec
    obtain ⟨at1, _⟩ := I.pin (a, oe) (List.mem_append_left _ List.mem_cons_self)
    obtain ⟨vs, hv⟩ := hf
    obtain ⟨mA, hns, _⟩ := (show ObjOk X.prog X.w H s.heap dd (.xd fs) from I.hok dd _ hd)
    obtain ⟨od, ho, _⟩ := lookIn_ns hns
    have J : PySem.W.InstAt s.heap a oe D (some od) := ⟨at1, hz.1, by unfold PySem.W.notCls; rw [hv] <;> rfl, by rw [hz.2]; exact ho⟩
    exact PySem.W.kia_one (PySem.W.kitx_exc C.cl C.xf.ga C.xf.gg C.xf.exC C.ca C.cg C.ct C.cm) I.kIn J e (fun z => nomatch z) fun tk => ⟨.bl b, H, I.kept (t' := tk) fun _ _ z => z, rfl, q⟩
theorem kit_sub {K : PySem.W.Frag} {t : Value} {C : Addr} {r : Bool} (h1 : PySem.W.isClsIn K C = true) (h2 : PySem.W.typeIn K (.ref C) = some (.type "type")) (h3 : PySem.W.subIn K t (.ref C) = some r) (h4 : r = true ∨ t ≠ .ref C) : PySem.W.kitOne K t (.ref C) = some r := by
  unfold PySem.W.kitOne
  by_cases c : (t == Value.ref C) = true
  · rw [if_pos c]
    rcases h4 with h4 | h4
    · rw [h4]
    · exact absurd (beq_iff_eq.mp c) h4
  · rw [if_neg c]
    unfold PySem.W.kitCls
    have e : ((PySem.W.clsIn K C).isSome && PySem.W.typeIn K (.ref C) == some (.type "type")) = true := Bool.and_eq_true_iff.mpr ⟨h1, beq_iff_eq.mpr h2⟩
    show (if _ = true then _ else _) = _
    rw [if_pos e]
    exact h3
theorem nf_of {K : PySem.W.Frag} {t : Value} {C : Addr} (h : PySem.W.subIn K t (.ref C) = some false) : PySem.W.notFirst K C t = true := by
  unfold PySem.W.notFirst
  rw [h]
  exact Bool.or_true _
/-! ### a dict comprehension over any walk -/
theorem dc_it {J : It} {n : Nat} {G : Hp → Prop} {Y : Nat → Hp → V → Hp → Prop} (w : Walk J n G Y) {g : TG} {tt : TT} {tk tv : TE} {vs : List Nat} {σ : L2.St} {H0 : Hp} {D : Addr} {Qd : Hp → Prop} (Pv : Nat → Hp → Prop) (h0 : Pv 0 (upd H0 D (.dK []))) (hG : ∀ i H, i ≤ n → Pv i H → G H)
    (hs : ∀ i x H H2, i < n → Pv i H → Y i H x H2 → g x (wipe σ vs) H2 fun σ2 H3 => wipe σ2 vs = wipe σ vs ∧ tt σ2 H3 fun b H4 =>
      if b = true then tk σ2 H4 fun y H5 => tv σ2 H5 fun z H6 => ∃ kvs k, y = kV k ∧ H6 D = some (.dK kvs) ∧ kvs.length < sizeLine ∧ Pv (i + 1) (upd H6 D (.dK (putK kvs k z))) else Pv (i + 1) H4) (hd : ∀ H, Pv n H → Qd H) :
    ∃ W : Nat → Nat → Hp → Prop, (∃ m, W 0 m (upd H0 D (.dK []))) ∧ ∀ i m H, W i m H →
      (J.stop i H ∧ Qd H) ∨ (J.go i H ∧ ∃ Nx : Hp → Prop, (∀ H2, Nx H2 → ∃ m2, m2 < m ∧ W (i + 1) m2 H2) ∧ ∀ x H2, J.yld i H x H2 → g x (wipe σ vs) H2 fun σ2 H3 => wipe σ2 vs = wipe σ vs ∧ tt σ2 H3 fun b H4 =>
        if b = true then tk σ2 H4 fun y H5 => tv σ2 H5 fun z H6 => ∃ kvs k, y = kV k ∧ H6 D = some (.dK kvs) ∧ kvs.length < sizeLine ∧ Nx (upd H6 D (.dK (putK kvs k z))) else Nx H4) := by
  refine ⟨fun i left H => left = n - i ∧ (i ≤ n ∧ Pv i H), ⟨n, by omega, Nat.zero_le n, h0⟩, ?_⟩
  rintro i m H ⟨rfl, hi, p⟩
  have q := hG i H hi p
  by_cases c : i < n
  · exact .inr ⟨w.goes i H c q, Pv (i + 1), fun H2 p2 => ⟨n - (i + 1), by omega, rfl, c, p2⟩, fun x H2 y => hs i x H H2 c p (w.yields i H x H2 c q y)⟩
  · have e : i = n := by omega
    subst e
    exact .inl ⟨w.stops H q, hd H p⟩
end BF
set_option Elab.async false
set_option linter.all false
set_option maxRecDepth 100000
set_option maxHeartbeats 4000000
namespace BF
open PySem PySem.Spec PyProof.Rows L2
/-! ### the state of the laws that begin with a state: at w a list of the script's copy (at c) and five ints -/
def isSt : HO → Bool
  | .lst [.ref _, .int _, .int _, .int _, .int _, .int _] => true
  | _ => false
structure StAt (H : Hp) (w c : Addr) : Prop where
  ex : ∃ (i : Nat) (x y z u : Int), H w = some (.lst [.ref c, .int (i : Nat), .int x, .int y, .int z, .int u])
  cp : ∃ ns : List Int, H c = some (.lst (ns.map V.int)) ∧ ns.length ≤ 1000
/-- all but the state stands, the state is a state still -/
structure KpS (w c : Addr) (H H' : Hp) : Prop where
  keep : ∀ b o, b ≠ w → H b = some o → H' b = some o
  st : StAt H w c → StAt H' w c
theorem int_head {a : Addr} {r : List V} {ns : List Int} : V.ref a :: r ≠ ns.map V.int := fun e => by
  cases ns with
  | nil => cases e
  | cons n r => cases e
section
variable {H H' H1 H2 : Hp} {w c p : Addr} {o : HO}
theorem StAt.cw (h : StAt H w c) : c ≠ w := fun e => by
  obtain ⟨⟨i, x, y, z, u, q⟩, ns, q2, _⟩ := h
  rw [e, q] at q2
  exact int_head (HO.lst.inj (Option.some.inj q2))
theorem StAt.ne (h : StAt H w c) (hp : H p = none) : p ≠ w := fun e => by
  obtain ⟨⟨i, x, y, z, u, q⟩, _⟩ := h
  rw [e, q] at hp
  cases hp
theorem StAt.nc (h : StAt H w c) (hp : H p = none) : p ≠ c := fun e => by
  obtain ⟨_, ns, q, _⟩ := h
  rw [e, q] at hp
  cases hp
theorem StAt.neo (h : StAt H w c) (hp : H p = some o) (ho : isSt o = false) : p ≠ w := fun e => by
  obtain ⟨⟨i, x, y, z, u, q⟩, _⟩ := h
  rw [e, q] at hp
  cases hp
  exact absurd ho (by simp [isSt])
theorem KpS.refl (w c : Addr) (H : Hp) : KpS w c H H := ⟨fun _ _ _ h => h, id⟩
theorem KpS.trans (a : KpS w c H H1) (b : KpS w c H1 H2) : KpS w c H H2 := ⟨fun c o n h => b.keep c o n (a.keep c o n h), fun h => b.st (a.st h)⟩
theorem StAt.same (h : StAt H w c) (s : Same H H') : StAt H' w c := by
  obtain ⟨⟨i, x, y, z, u, q⟩, ns, q2, hl⟩ := h
  exact ⟨⟨i, x, y, z, u, s _ _ q⟩, ns, s _ _ q2, hl⟩
theorem KpS.same (s : Same H H') : KpS w c H H' := ⟨fun c o _ h => s c o h, fun h => h.same s⟩
theorem KpS.get (k : KpS w c H H') (hw : StAt H w c) (h : H p = some o) (ho : isSt o = false := by rfl) : H' p = some o := k.keep p o (hw.neo h ho) h
theorem KpS.free (k : KpS w c H H') (hw : StAt H w c) (h : H' p = none) : H p = none := by
  have ne : p ≠ w := (k.st hw).ne h
  cases e : H p with
  | none => rfl
  | some o => rw [k.keep p o ne e] at h; cases h
/-- what was free at the beginning is laid or changed -/
theorem KpS.put (k : KpS w c H H1) (hw : StAt H w c) (h : H p = none) : KpS w c H (upd H1 p o) :=
  ⟨fun b u n e => by rw [upd_ne (ne_of_none e h)]; exact k.keep b u n e, fun q => by
    obtain ⟨⟨i, x, y, z, u, q1⟩, ns, q2, hl⟩ := k.st q
    exact ⟨⟨i, x, y, z, u, by rw [upd_ne (hw.ne h).symm]; exact q1⟩, ns, by rw [upd_ne (hw.nc h).symm]; exact q2, hl⟩⟩
/-- the state itself is stored to -/
theorem StAt.set {i j : Nat} {x y z u x' y' z' u' : Int} (h : StAt H w c) : KpS w c H (upd H w (.lst [.ref c, .int (j : Nat), .int x', .int y', .int z', .int u'])) :=
  ⟨fun p o n e => by rw [upd_ne n]; exact e, fun _ => ⟨⟨j, x', y', z', u', upd_same⟩, by
    obtain ⟨ns, q, hl⟩ := h.cp
    exact ⟨ns, by rw [upd_ne h.cw]; exact q, hl⟩⟩⟩
end
theorem isSt_strs (xs : List Str) : isSt (.lst (xs.map V.str)) = false := by
  match xs with
  | [] => rfl
  | [a] => rfl
  | [a, b] => rfl
  | [a, b, c] => rfl
  | [a, b, c, d] => rfl
  | [a, b, c, d, e] => rfl
  | [a, b, c, d, e, f] => rfl
  | a :: b :: c :: d :: e :: f :: g :: r => rfl
theorem isSt_ints (ns : List Int) : isSt (.lst (ns.map V.int)) = false := by
  cases ns with
  | nil => rfl
  | cons a r => rfl
/-! ### promises of the law's drawing -/
def spState (K : PySem.W.Frag) : Sp := fun vs H Q _ => ∃ (a : Addr) (ns : List Int), vs = [.ref a] ∧ SqL K H a (ns.map V.int) ∧ ns.length ≤ 63 ∧ ∀ w c H', H w = none → H c = none → Same H H' → StAt H' w c → Q (.ref w) H'
def spDrawS : Sp := fun vs H Q _ => ∃ (w c : Addr) (m : Int), vs = [.ref w, .int m] ∧ StAt H w c ∧ 1 ≤ m ∧ m < 1073741824 ∧ ∀ n H', 0 ≤ n → n < m → KpS w c H H' → Q (.int n) H'
/-- "two" or "whole" -/
def ovS (b : Bool) : Str := if b = true then "two" else "whole"
def spField : Sp := fun vs H Q _ => ∃ (w c : Addr), vs = [.ref w] ∧ StAt H w c ∧ ∀ (b : Bool) H', KpS w c H H' → Q (.str (ovS b)) H'
/-- a name that begins with no z -/
def firstOf (x : Str) : Nat := x.cps.toList.headD 122
def NmK (x : Str) : Prop := isNm x = true ∧ firstOf x ≠ 122
/-- m names, each once, in order -/
def spNamesS : Sp := fun vs H Q _ => ∃ (w c : Addr) (m : Int), vs = [.ref w, .int m] ∧ StAt H w c ∧ 0 ≤ m ∧ m ≤ 9 ∧
  ∀ p (xs : List Str) H', H p = none → KpS w c H H' → H' p = some (.lst (xs.map V.str)) → (xs.length : Int) = m → xs.Nodup → sortS xs = xs → (∀ x ∈ xs, NmK x) → Q (.ref p) H'
end BF
set_option Elab.async false
set_option linter.all false
set_option maxRecDepth 100000
set_option maxHeartbeats 4000000
namespace BF
open PySem PySem.Spec PyProof.Rows L2
/-! ### values that may be rows -/
/-- an integer, or surely none -/
inductive EV (K : PySem.W.Frag) (H : Hp) : V → Option Int → Prop
  | int (i : Int) : EV K H (.int i) (some i)
  | bl (b : Bool) : EV K H (.bl b) none
  | no {x : V} {t : Value} (h : TyX K H x t) (k : PySem.W.kitOne K t (.type "int") = some false) : EV K H x none
/-- a list of such, or no list -/
inductive RV where
  | row (os : List (Option Int))
  | junk
inductive RVr (K : PySem.W.Frag) (H : Hp) : V → RV → Prop
  | no {x : V} {t : Value} (h : TyX K H x t) (k : PySem.W.kitOne K t (.type "list") = some false) : RVr K H x .junk
  | lst {p : Addr} {xs : List V} {os : List (Option Int)} (h : H p = some (.lst xs)) (e : Paired (EV K H) xs os) (l : os.length ≤ 1000) (n : isSt (.lst xs) = false) : RVr K H (.ref p) (.row os)
/-- the types of values, where a place that was free then is laid or changed -/
theorem _root_.L2.TyX.fw {K : PySem.W.Frag} {H H' : Hp} {v : V} {t : Value} (h : TyX K H v t) (k : ∀ b o, (∀ xs, o ≠ .lst xs) → H b = some o → H' b = some o) (kl : ∀ b xs, H b = some (.lst xs) → ∃ ys, H' b = some (.lst ys)) : TyX K H' v t := by
  cases h with
  | base b =>
    cases b with
    | non => exact .base .non
    | bl x => exact .base (.bl x)
    | int i => exact .base (.int i)
    | str x => exact .base (.str x)
    | flt x => exact .base (.flt x)
    | lst e =>
      obtain ⟨ys, e2⟩ := kl _ _ e
      exact .base (.lst e2)
    | frz e => exact .base (.frz (k _ _ (by intros; simp) e))
    | tup e => exact .base (.tup (k _ _ (by intros; simp) e))
    | dK e => exact .base (.dK (k _ _ (by intros; simp) e))
    | dT e => exact .base (.dT (k _ _ (by intros; simp) e))
    | ins e cl ha hn htk hm => exact .base (.ins (k _ _ (by intros; simp) e) cl ha hn htk hm)
  | byt b => exact .byt b
  | set e => exact .set (k _ _ (by intros; simp) e)
  | kList e c => exact .kList e c
  | kTuple e c => exact .kTuple e c
  | kDict e c => exact .kDict e c
  | fTuple e => exact .fTuple (k _ _ (by intros; simp) e)
  | fDict e => exact .fDict (k _ _ (by intros; simp) e)
theorem EV.fw {K : PySem.W.Frag} {H H' : Hp} {v : V} {o : Option Int} (h : EV K H v o) (k : ∀ b o, (∀ xs, o ≠ .lst xs) → H b = some o → H' b = some o) (kl : ∀ b xs, H b = some (.lst xs) → ∃ ys, H' b = some (.lst ys)) : EV K H' v o := by
  cases h with
  | int i => exact .int i
  | bl b => exact .bl b
  | no h e => exact .no (h.fw k kl) e
theorem EV.same {K : PySem.W.Frag} {H H' : Hp} {v : V} {o : Option Int} (h : EV K H v o) (s : Same H H') : EV K H' v o := h.fw (fun b o _ e => s b o e) fun b xs e => ⟨xs, s _ _ e⟩
theorem RVr.same {K : PySem.W.Frag} {H H' : Hp} {v : V} {o : RV} (h : RVr K H v o) (s : Same H H') : RVr K H' v o := by
  cases h with
  | no h e => exact .no (h.same s) e
  | lst h e l n => exact .lst (s _ _ h) (Paired.imp (fun _ _ q => q.same s) e) l n
/-- all but the state w stands -/
theorem KpS.tyx {K : PySem.W.Frag} {H H' : Hp} {w c : Addr} {v : V} {t : Value} (k : KpS w c H H') (hw : StAt H w c) (h : TyX K H v t) : TyX K H' v t :=
  h.fw (fun b o no e => k.keep b o (fun q => by
    obtain ⟨⟨i, x, y, z, u, z1⟩, _⟩ := hw
    rw [q, z1] at e
    exact no _ (Option.some.inj e).symm) e) fun b xs e => by
    by_cases q : b = w
    · obtain ⟨⟨i, x, y, z, u, z1⟩, _⟩ := k.st hw
      exact ⟨_, by rw [q]; exact z1⟩
    · exact ⟨xs, k.keep b _ q e⟩
theorem EV.kp {K : PySem.W.Frag} {H H' : Hp} {w c : Addr} {v : V} {o : Option Int} (h : EV K H v o) (k : KpS w c H H') (hw : StAt H w c) : EV K H' v o := by
  cases h with
  | int i => exact .int i
  | bl b => exact .bl b
  | no h e => exact .no (k.tyx hw h) e
theorem RVr.kp {K : PySem.W.Frag} {H H' : Hp} {w c : Addr} {v : V} {o : RV} (h : RVr K H v o) (k : KpS w c H H') (hw : StAt H w c) : RVr K H' v o := by
  cases h with
  | no h e => exact .no (k.tyx hw h) e
  | lst h e l n => exact .lst (k.get hw h n) (Paired.imp (fun _ _ q => q.kp k hw) e) l n
theorem ev_ints {K : PySem.W.Frag} {H : Hp} : ∀ ns : List Int, Paired (EV K H) (ns.map V.int) (ns.map some)
  | [] => .nil
  | n :: r => .cons (.int n) (ev_ints r)
def okEnt (two : Bool) : Option Int → Bool
  | some i => !two || (decide (i = 0) || decide (i = 1))
  | none => false
/-- a row over two, or over whole -/
def goodR (two : Bool) : RV → Bool
  | .row os => decide (os.length ≤ 24) && os.all (okEnt two)
  | .junk => false
def rvLen : RV → Nat
  | .row os => os.length
  | .junk => 0
theorem good_ints {two : Bool} {os : List (Option Int)} (h : os.all (okEnt two) = true) : ∃ ns : List Int, os = ns.map some ∧ ∀ n ∈ ns, two = true → n = 0 ∨ n = 1 := by
  induction os with
  | nil => exact ⟨[], rfl, fun n h => by cases h⟩
  | cons o r ih =>
    rw [List.all_cons, Bool.and_eq_true] at h
    obtain ⟨ns, e, q⟩ := ih h.2
    cases o with
    | none => cases h.1
    | some i =>
      refine ⟨i :: ns, by rw [e]; rfl, fun n hn t => ?_⟩
      rcases List.mem_cons.mp hn with rfl | hn
      · have h1 := h.1
        unfold okEnt at h1
        rw [t] at h1
        simp only [Bool.not_true, Bool.false_or, Bool.or_eq_true, decide_eq_true_eq] at h1
        exact h1
      · exact q n hn t
theorem paired_ints {K : PySem.W.Frag} {H : Hp} : ∀ {xs : List V} {ns : List Int}, Paired (EV K H) xs (ns.map some) → xs = ns.map V.int
  | [], [], _ => rfl
  | x :: xs, n :: ns, .cons h t => by
    cases h
    rw [paired_ints t]
    rfl
/-- is_integer(value) -/
def spInt (K : PySem.W.Frag) : Sp := fun vs H Q _ => ∃ (v : V) (o : Option Int), vs = [v] ∧ EV K H v o ∧ ∀ H', Same H H' → Q (.bl o.isSome) H'
/-- _is_row(value, over) -/
def spRow (K : PySem.W.Frag) : Sp := fun vs H Q _ => ∃ (v : V) (two : Bool) (r : RV), vs = [v, .str (ovS two)] ∧ RVr K H v r ∧ ∀ H', Same H H' → Q (.bl (goodR two r)) H'
end BF
set_option Elab.async false
set_option linter.all false
set_option maxRecDepth 100000
set_option maxHeartbeats 4000000
namespace BF
open PySem PySem.Spec PyProof.Rows L2
theorem paired_at {α β : Type} {F : α → β → Prop} : ∀ {xs : List α} {ys : List β} {i : Nat} {x : α}, Paired F xs ys → xs[i]? = some x → ∃ y, ys[i]? = some y ∧ F x y
  | _, _, 0, x, .cons p t, h => by
    cases Option.some.inj h
    exact ⟨_, rfl, p⟩
  | _, _, i + 1, x, .cons p t, h => paired_at (i := i) t h
/-! ### dicts of rows: N says which places they stand at -/
abbrev Row := Str × List Int
abbrev RowK (N : Addr → Prop) (H : Hp) : Key × V → Row → Prop := fun kv r => kv.1 = .inr r.1 ∧ ∃ q, kv.2 = .ref q ∧ N q ∧ H q = some (.lst (r.2.map V.int))
structure RowsD (N : Addr → Prop) (H : Hp) (d : Addr) (rs : List Row) : Prop where
  at_ : N d
  ex : ∃ kvs, H d = some (.dK kvs) ∧ Paired (RowK N H) kvs rs
theorem RowsD.mv {N : Addr → Prop} {H H' : Hp} {d : Addr} {rs : List Row} (h : RowsD N H d rs) (k : ∀ a o, N a → H a = some o → H' a = some o) : RowsD N H' d rs := by
  obtain ⟨nd, kvs, e, p⟩ := h
  exact ⟨nd, kvs, k _ _ nd e, Paired.imp (fun _ _ ⟨e1, q, e2, nq, e3⟩ => ⟨e1, q, e2, nq, k _ _ nq e3⟩) p⟩
theorem RowsD.wk {N M : Addr → Prop} {H : Hp} {d : Addr} {rs : List Row} (h : RowsD N H d rs) (k : ∀ a, N a → M a) : RowsD M H d rs := by
  obtain ⟨nd, kvs, e, p⟩ := h
  exact ⟨k _ nd, kvs, e, Paired.imp (fun _ _ ⟨e1, q, e2, nq, e3⟩ => ⟨e1, q, e2, k _ nq, e3⟩) p⟩
theorem RowsD.same {N : Addr → Prop} {H H' : Hp} {d : Addr} {rs : List Row} (h : RowsD N H d rs) (s : Same H H') : RowsD N H' d rs := h.mv fun a o _ e => s a o e
theorem rowk_keys {N : Addr → Prop} {H : Hp} : ∀ {kvs : List (Key × V)} {rs : List Row}, Paired (RowK N H) kvs rs → kvs.map (·.1) = (rs.map (·.1)).map Sum.inr
  | _, _, .nil => rfl
  | _, _, .cons p t => by rw [List.map_cons, List.map_cons, List.map_cons, rowk_keys t, p.1]
theorem rowk_get {N : Addr → Prop} {H : Hp} {r : Row} : ∀ {kvs : List (Key × V)} {rs : List Row}, Paired (RowK N H) kvs rs → (rs.map (·.1)).Nodup → r ∈ rs → ∃ q, valV kvs (.inr r.1) = some (.ref q) ∧ N q ∧ H q = some (.lst (r.2.map V.int))
  | _, _, .nil, _, h => by cases h
  | (k, v) :: kvs, u :: us, .cons p t, nd, h => by
    obtain ⟨e1, q, e2, nq, hq⟩ := p
    have e1 : k = Sum.inr u.1 := e1
    have e2 : v = .ref q := e2
    subst e1 e2
    have nd : (u.1 :: us.map (·.1)).Nodup := nd
    rcases List.mem_cons.mp h with h | h
    · cases h
      exact ⟨q, valV_pos rfl, nq, hq⟩
    · have hm : ¬ u.1 = r.1 := fun e => (List.nodup_cons.mp nd).1 (List.mem_map.mpr ⟨_, h, e.symm⟩)
      obtain ⟨q2, h1, h2⟩ := rowk_get t (List.nodup_cons.mp nd).2 h
      exact ⟨q2, by rw [valV_neg (fun q => hm (Sum.inr.inj q))]; exact h1, h2⟩
/-! ### dicts that are passed: values of any kind -/
abbrev RvK (K : PySem.W.Frag) (H : Hp) : Key × V → Str × RV → Prop := fun kv e => kv.1 = .inr e.1 ∧ RVr K H kv.2 e.2
structure RvD (K : PySem.W.Frag) (H : Hp) (d : Addr) (es : List (Str × RV)) : Prop where
  ex : ∃ kvs, H d = some (.dK kvs) ∧ Paired (RvK K H) kvs es
  nd : (es.map (·.1)).Nodup
theorem RvD.same {K : PySem.W.Frag} {H H' : Hp} {d : Addr} {es : List (Str × RV)} (h : RvD K H d es) (s : Same H H') : RvD K H' d es := by
  obtain ⟨⟨kvs, e, p⟩, nd⟩ := h
  exact ⟨⟨kvs, s _ _ e, Paired.imp (fun _ _ q => ⟨q.1, q.2.same s⟩) p⟩, nd⟩
theorem RvD.kp {K : PySem.W.Frag} {H H' : Hp} {w c d : Addr} {es : List (Str × RV)} (h : RvD K H d es) (k : KpS w c H H') (hw : StAt H w c) : RvD K H' d es := by
  obtain ⟨⟨kvs, e, p⟩, nd⟩ := h
  exact ⟨⟨kvs, k.get hw e, Paired.imp (fun _ _ q => ⟨q.1, q.2.kp k hw⟩) p⟩, nd⟩
def lkR (es : List (Str × RV)) (n : Str) : Option RV := (es.find? fun e => decide (e.1 = n)).map (·.2)
theorem rv_keys {K : PySem.W.Frag} {H : Hp} : ∀ {kvs : List (Key × V)} {es : List (Str × RV)}, Paired (RvK K H) kvs es → kvs.map (·.1) = (es.map (·.1)).map Sum.inr
  | _, _, .nil => rfl
  | _, _, .cons p t => by rw [List.map_cons, List.map_cons, List.map_cons, rv_keys t, p.1]
theorem rv_get {K : PySem.W.Frag} {H : Hp} {n : Str} : ∀ {kvs : List (Key × V)} {es : List (Str × RV)}, Paired (RvK K H) kvs es → n ∈ es.map (·.1) → ∃ v r, valV kvs (.inr n) = some v ∧ lkR es n = some r ∧ RVr K H v r
  | _, _, .nil, h => by cases h
  | (k, v) :: kvs, (m, tv) :: es, .cons p t, h => by
    obtain ⟨e, r⟩ := p
    have e : k = Sum.inr m := e
    subst e
    by_cases hm : m = n
    · subst hm
      exact ⟨v, tv, valV_pos rfl, by simp [lkR], r⟩
    · obtain ⟨v2, tv2, h1, h2, h3⟩ := rv_get t ((List.mem_cons.mp h).resolve_left fun q => hm q.symm)
      exact ⟨v2, tv2, by rw [valV_neg (fun q => hm (Sum.inr.inj q))]; exact h1, by simpa [lkR, hm] using h2, h3⟩
theorem lkR_mem {es : List (Str × RV)} {n : Str} {r : RV} (nd : (es.map (·.1)).Nodup) (h : (n, r) ∈ es) : lkR es n = some r := by
  induction es with
  | nil => cases h
  | cons e es ih =>
    have nd : (e.1 :: es.map (·.1)).Nodup := nd
    unfold lkR
    rw [List.find?_cons]
    rcases List.mem_cons.mp h with q | q
    · rw [← q]
      simp
    · have hne : ¬ e.1 = n := fun z => (List.nodup_cons.mp nd).1 (List.mem_map.mpr ⟨_, q, z.symm⟩)
      rw [decide_eq_false hne]
      exact ih (List.nodup_cons.mp nd).2 q
/-! ### what is due -/
def w0 (es : List (Str × RV)) : Nat := match sortS (es.map (·.1)) with
  | n :: _ => rvLen ((lkR es n).getD .junk)
  | [] => 0
def goodN (two : Bool) (es : List (Str × RV)) (n : Str) : Bool := isNm n && match lkR es n with
  | some r => goodR two r && decide (rvLen r = w0 es)
  | none => false
def badF (two : Bool) (es : List (Str × RV)) : Option Str := (sortS (es.map (·.1))).find? fun n => !goodN two es n
theorem badF_some {two : Bool} {es : List (Str × RV)} {i : Nat} {n : Str} (h : (sortS (es.map (·.1)))[i]? = some n) (hb : goodN two es n = false) (hok : ∀ j, j < i → ∀ m, (sortS (es.map (·.1)))[j]? = some m → goodN two es m = true) : badF two es = some n := by
  unfold badF
  rw [List.find?_eq_some_iff_getElem]
  obtain ⟨hi, e⟩ := List.getElem?_eq_some_iff.mp h
  refine ⟨by rw [hb]; rfl, i, hi, e, fun j hj => ?_⟩
  rw [hok j hj _ (List.getElem?_eq_getElem (by omega))]
  rfl
theorem badF_none {two : Bool} {es : List (Str × RV)} (hok : ∀ n ∈ es.map (·.1), goodN two es n = true) : badF two es = none := by
  unfold badF
  rw [List.find?_eq_none]
  intro n hn
  rw [hok n ((mem_sortS _ _).mp hn)]
  simp
theorem goodN_of {two : Bool} {es : List (Str × RV)} {n : Str} {r : RV} (h : lkR es n = some r) : goodN two es n = (isNm n && (goodR two r && decide (rvLen r = w0 es))) := by
  unfold goodN
  rw [h]
def intsR : Option RV → List Int
  | some (.row os) => os.filterMap id
  | _ => []
def rowsOf (es : List (Str × RV)) : List Row := (sortS (es.map (·.1))).map fun n => (n, intsR (lkR es n))
theorem fm_some (ns : List Int) : (ns.map some).filterMap id = ns := by
  induction ns with
  | nil => rfl
  | cons n r ih => rw [List.map_cons, List.filterMap_cons]; simp [ih]
/-! ### the object -/
theorem ro_ne : ¬ (("_rows" : Str) = "_over") := by decide +kernel
def rwf (d : Addr) (two : Bool) : List (Str × V) := putF "_over" (.str (ovS two)) (putF "_rows" (.ref d) [])
theorem rwf_rows (d : Addr) (two : Bool) : (rwf d two).lookup ("_rows" : Str) = some (.ref d) := by
  unfold rwf
  rw [lookup_putF, if_neg ro_ne, lookup_putF, if_pos rfl]
theorem rwf_over (d : Addr) (two : Bool) : (rwf d two).lookup ("_over" : Str) = some (.str (ovS two)) := by
  unfold rwf
  rw [lookup_putF, if_pos rfl]
theorem rwf_no (d : Addr) (two : Bool) {m : Str} (h1 : ¬ m = "_over") (h2 : ¬ m = "_rows") : (rwf d two).lookup m = none := by
  unfold rwf
  rw [lookup_putF, if_neg h1, lookup_putF, if_neg h2]
  rfl
/-- an instance at x, of the class at C; all of it stands at places of N -/
structure RowsO (C : Addr) (N : Addr → Prop) (H : Hp) (x : Addr) (two : Bool) (rs : List Row) : Prop where
  at_ : N x
  ex : ∃ dx d, H x = some (.ins C dx (rwf d two)) ∧ RowsD N H d rs
theorem RowsO.mv {C : Addr} {N : Addr → Prop} {H H' : Hp} {x : Addr} {two : Bool} {rs : List Row} (h : RowsO C N H x two rs) (k : ∀ a o, N a → H a = some o → H' a = some o) : RowsO C N H' x two rs := by
  obtain ⟨nx, dx, d, e, r⟩ := h
  exact ⟨nx, dx, d, k _ _ nx e, r.mv k⟩
theorem RowsO.wk {C : Addr} {N M : Addr → Prop} {H : Hp} {x : Addr} {two : Bool} {rs : List Row} (h : RowsO C N H x two rs) (k : ∀ a, N a → M a) : RowsO C M H x two rs := by
  obtain ⟨nx, dx, d, e, r⟩ := h
  exact ⟨k _ nx, dx, d, e, r.wk k⟩
theorem RowsO.same {C : Addr} {N : Addr → Prop} {H H' : Hp} {x : Addr} {two : Bool} {rs : List Row} (h : RowsO C N H x two rs) (s : Same H H') : RowsO C N H' x two rs := h.mv fun a o _ e => s a o e
/-- rows that are right ones, in order -/
structure RsOk (rs : List Row) : Prop where
  nd : (rs.map (·.1)).Nodup
  nm : ∀ r ∈ rs, isNm r.1 = true
  le : rs.length ≤ 24
  wd : ∃ k, k ≤ 24 ∧ ∀ r ∈ rs, r.2.length = k
  so : sortS (rs.map (·.1)) = rs.map (·.1)
/-! ### rows as data -/
def rowD (r : Row) : Key × PyData := (.inr r.1, .list (r.2.map PyData.int))
theorem lay_ints : ∀ ns : List Int, PyData.canLayAll0 (ns.map PyData.int) = true
  | [] => by simp [PyData.canLayAll0]
  | n :: r => by simp [PyData.canLayAll0, PyData.canLay0, lay_ints r]
theorem shaped_ints (ns : List Int) : SeqAt.shaped (.list (ns.map PyData.int)) = true := by
  simp [SeqAt.shaped, PyData.canLay0, PyData.depth, lay_ints ns, depth_ints ns]
theorem dp_ints {K : PySem.W.Frag} {H : Hp} {a : Addr} {ns : List Int} (h : H a = some (.lst (ns.map V.int))) : Dp K H (.ref a) (.list (ns.map PyData.int)) := .lst (SqL.of h) (dpAll_ints ns)
theorem eqv_ints (ms ns : List Int) : PyData.eqv (.list (ms.map PyData.int)) (.list (ns.map PyData.int)) = decide (ms = ns) := PySem.W.Datum.eqv (α := List Int) ms ns
theorem dkr_pairs {K : PySem.W.Frag} {N : Addr → Prop} {H : Hp} : ∀ {kvs : List (Key × V)} {rs : List Row}, Paired (RowK N H) kvs rs →
    Paired (fun (p : Key × V) (q : Key × PyData) => p.1 = q.1 ∧ Dp K H p.2 q.2 ∧ SeqAt.shaped q.2 = true) kvs (rs.map rowD)
  | _, _, .nil => .nil
  | (k, v) :: kvs, r :: rs, .cons p t => by
    obtain ⟨e1, q, e2, _, hq⟩ := p
    have e2 : v = .ref q := e2
    subst e2
    exact .cons ⟨e1, dp_ints hq, shaped_ints r.2⟩ (dkr_pairs t)
theorem dkr_of {K : PySem.W.Frag} {N : Addr → Prop} {H : Hp} {d : Addr} {rs : List Row} (h : RowsD N H d rs) : DkD K H (.ref d) (rs.map rowD) := by
  obtain ⟨_, kvs, e, p⟩ := h
  exact ⟨d, kvs, rfl, e, dkr_pairs p⟩
theorem eqR_len {rs us : List Row} (h : rs.length ≠ us.length) : eqKD (rs.map rowD) (us.map rowD) = false := by
  unfold eqKD
  rw [List.length_map, List.length_map, show (rs.length == us.length) = false from by simp [h]]
  rfl
theorem find_row : ∀ {us : List Row} {r : Row}, (us.map (·.1)).Nodup → r ∈ us → (us.map rowD).find? (fun q => decide (q.1 = (rowD r).1)) = some (rowD r)
  | u :: us, r, nd, h => by
    have nd : (u.1 :: us.map (·.1)).Nodup := nd
    rcases List.mem_cons.mp h with rfl | h
    · simp
    · have hne : ¬ (rowD u).1 = (rowD r).1 := fun e => (List.nodup_cons.mp nd).1 (List.mem_map.mpr ⟨r, h, (Sum.inr.inj e).symm⟩)
      rw [List.map_cons, List.find?_cons, decide_eq_false hne]
      exact find_row (List.nodup_cons.mp nd).2 h
theorem eqR_mem {rs us : List Row} (hl : rs.length = us.length) (nd : (us.map (·.1)).Nodup) (h : ∀ r, r ∈ rs → r ∈ us) : eqKD (rs.map rowD) (us.map rowD) = true := by
  unfold eqKD
  rw [List.length_map, List.length_map, hl, Bool.and_eq_true]
  refine ⟨by simp, List.all_eq_true.mpr fun q hq => ?_⟩
  obtain ⟨r, hr, rfl⟩ := List.mem_map.mp hq
  rw [find_row nd (h r hr)]
  show PyData.eqv _ _ = true
  unfold rowD
  rw [eqv_ints]
  simp
/-- rows, passed as they are -/
def rvOf (r : Row) : Str × RV := (r.1, .row (r.2.map some))
theorem rvOf_keys (rs : List Row) : (rs.map rvOf).map (·.1) = rs.map (·.1) := by
  rw [List.map_map]
  exact List.map_congr_left fun _ _ => rfl
theorem rv_pairs {K : PySem.W.Frag} {N : Addr → Prop} {H : Hp} : ∀ {kvs : List (Key × V)} {rs : List Row}, Paired (RowK N H) kvs rs → (∀ r ∈ rs, r.2.length ≤ 1000) → Paired (RvK K H) kvs (rs.map rvOf)
  | _, _, .nil, _ => .nil
  | (k, v) :: kvs, r :: rs, .cons p t, hl => by
    obtain ⟨e1, q, e2, _, hq⟩ := p
    have e2 : v = .ref q := e2
    subst e2
    exact .cons ⟨e1, .lst hq (ev_ints r.2) (by rw [List.length_map]; exact hl r List.mem_cons_self) (isSt_ints r.2)⟩ (rv_pairs t fun u hu => hl u (List.mem_cons_of_mem _ hu))
theorem RowsD.rv {K : PySem.W.Frag} {N : Addr → Prop} {H : Hp} {d : Addr} {rs : List Row} (h : RowsD N H d rs) (nd : (rs.map (·.1)).Nodup) (hl : ∀ r ∈ rs, r.2.length ≤ 1000) : RvD K H d (rs.map rvOf) := by
  obtain ⟨_, kvs, e, p⟩ := h
  exact ⟨⟨kvs, e, rv_pairs p hl⟩, by rw [rvOf_keys]; exact nd⟩
theorem lk_rv {rs : List Row} {r : Row} (nd : (rs.map (·.1)).Nodup) (h : r ∈ rs) : lkR (rs.map rvOf) r.1 = some (.row (r.2.map some)) := lkR_mem (by rw [rvOf_keys]; exact nd) (List.mem_map.mpr ⟨r, h, rfl⟩)
/-- entries over two -/
def TwoOk (two : Bool) (rs : List Row) : Prop := two = true → ∀ r ∈ rs, ∀ n ∈ r.2, n = 0 ∨ n = 1
theorem good_row {two : Bool} {ns : List Int} (hl : ns.length ≤ 24) (h : two = true → ∀ n ∈ ns, n = 0 ∨ n = 1) : goodR two (.row (ns.map some)) = true := by
  show (decide ((ns.map some).length ≤ 24) && (ns.map some).all (okEnt two)) = true
  rw [List.length_map, decide_eq_true hl, Bool.true_and, List.all_map, List.all_eq_true]
  intro n hn
  show (!two || (decide (n = 0) || decide (n = 1))) = true
  cases two with
  | false => rfl
  | true =>
    rcases h rfl n hn with rfl | rfl
    · rfl
    · rfl
theorem bad_none {two : Bool} {rs : List Row} {k : Nat} (nd : (rs.map (·.1)).Nodup) (nm : ∀ r ∈ rs, isNm r.1 = true) (hk : k ≤ 24) (hw : ∀ r ∈ rs, r.2.length = k) (h2 : TwoOk two rs) : badF two (rs.map rvOf) = none := by
  have hw0 : ∀ r ∈ rs, w0 (rs.map rvOf) = k := fun r hr => by
    unfold w0
    cases e : sortS ((rs.map rvOf).map (·.1)) with
    | nil =>
      rw [rvOf_keys] at e
      have := sortS_length (rs.map (·.1))
      rw [e, List.length_map] at this
      have h0 : rs.length = 0 := this.symm
      rw [List.length_eq_zero_iff.mp h0] at hr
      cases hr
    | cons n t =>
      have hm : n ∈ sortS ((rs.map rvOf).map (·.1)) := by rw [e]; exact List.mem_cons_self
      rw [mem_sortS, rvOf_keys] at hm
      obtain ⟨u, hu, rfl⟩ := List.mem_map.mp hm
      show rvLen ((lkR (rs.map rvOf) u.1).getD .junk) = k
      rw [lk_rv nd hu]
      show (u.2.map some).length = k
      rw [List.length_map]
      exact hw u hu
  refine badF_none fun n hn => ?_
  rw [rvOf_keys] at hn
  obtain ⟨r, hr, rfl⟩ := List.mem_map.mp hn
  rw [goodN_of (lk_rv nd hr), nm r hr, good_row (by rw [hw r hr]; exact hk) (fun t => h2 t r hr), hw0 r hr]
  show (true && (true && decide ((r.2.map some).length = k))) = true
  rw [List.length_map, hw r hr, decide_eq_true rfl]
  rfl
theorem rowsOf_rv {rs : List Row} (nd : (rs.map (·.1)).Nodup) (so : sortS (rs.map (·.1)) = rs.map (·.1)) : rowsOf (rs.map rvOf) = rs := by
  unfold rowsOf
  rw [rvOf_keys, so, List.map_map]
  refine (List.map_congr_left fun r hr => ?_).trans (List.map_id rs)
  show (r.1, intsR (lkR (rs.map rvOf) r.1)) = r
  rw [lk_rv nd hr]
  show (r.1, (r.2.map some).filterMap id) = r
  rw [fm_some]
end BF
namespace BF
open PySem PySem.Spec PyProof.Rows L2
theorem RowsD.live {N : Addr → Prop} {H : Hp} {d : Addr} {rs : List Row} (h : RowsD N H d rs) : RowsD (fun a => N a ∧ H a ≠ none) H d rs := by
  obtain ⟨nd, kvs, e, p⟩ := h
  exact ⟨⟨nd, by rw [e]; simp⟩, kvs, e, Paired.imp (fun _ _ ⟨e1, q, e2, nq, e3⟩ => ⟨e1, q, e2, ⟨nq, by rw [e3]; simp⟩, e3⟩) p⟩
/-- a row more, under a new key -/
theorem RowsD.snoc {N : Addr → Prop} {H : Hp} {d q : Addr} {rs : List Row} {n : Str} {ns : List Int} {kvs : List (Key × V)} (nd : N d) (p : Paired (RowK N H) kvs rs) (hd : H d = some (.dK kvs)) (hn : n ∉ rs.map (·.1)) (nq : N q) (hq : H q = some (.lst (ns.map V.int))) :
    RowsD N (upd H d (.dK (putK kvs (.inr n) (.ref q)))) d (rs ++ [(n, ns)]) := by
  have hv : valV kvs (.inr n) = none := valV_none (by
    rw [rowk_keys p]
    exact fun h => by
      obtain ⟨m, h5, h6⟩ := List.mem_map.mp h
      cases h6
      exact hn h5)
  refine ⟨nd, _, upd_same, ?_⟩
  rw [putK_new _ hv]
  refine Paired.snoc ⟨rfl, q, rfl, nq, by rw [upd_ne (fun e => by rw [e, hd] at hq; cases hq)]; exact hq⟩ (Paired.imp (fun _ _ ⟨e1, t, e2, nt, e3⟩ => ⟨e1, t, e2, nt, ?_⟩) p)
  rw [upd_ne (fun e => by rw [e, hd] at e3; cases e3)]
  exact e3
end BF
set_option Elab.async false
set_option linter.all false
set_option maxRecDepth 100000
set_option maxHeartbeats 4000000
namespace BF
open PySem PySem.Spec PyProof.Rows L2
/-! ### values that are no right rows -/
theorem isSt_len {xs : List V} (h : xs.length ≠ 6) : isSt (.lst xs) = false := by
  unfold isSt
  split
  · rename_i e
    cases e
    exact absurd rfl h
  · rfl
/-- .. new since H0 -/
def BadV (K : PySem.W.Frag) (H0 : Hp) (two : Bool) (m : Nat) (v : V) (H : Hp) : Prop := (∃ r, RVr K H v r ∧ (goodR two r && decide (rvLen r = m)) = false) ∧ ∀ p, v = .ref p → H0 p = none
theorem BadV.st {K : PySem.W.Frag} {H0 : Hp} {two : Bool} {m : Nat} : ∀ v H H', Same H H' → BadV K H0 two m v H → BadV K H0 two m v H' := fun _ _ _ s ⟨⟨r, h, e⟩, n⟩ => ⟨⟨r, h.same s, e⟩, n⟩
theorem bad_no {K : PySem.W.Frag} {H0 : Hp} {two : Bool} {m : Nat} {v : V} {H : Hp} {t : Value} (n : ∀ p, v = .ref p → H0 p = none) (h : TyX K H v t) (k : PySem.W.kitOne K t (.type "list") = some false) : BadV K H0 two m v H := ⟨⟨.junk, .no h k, rfl⟩, n⟩
theorem bad_list {K : PySem.W.Frag} {H0 : Hp} {two : Bool} {m : Nat} {p : Addr} {H : Hp} {xs : List V} {os : List (Option Int)} (np : H0 p = none) (h : H p = some (.lst xs)) (e : Paired (EV K H) xs os) (l : os.length ≤ 1000) (n6 : os.length ≠ 6) (b : os.length ≠ m ∨ 24 < os.length ∨ ∃ o ∈ os, okEnt two o = false) : BadV K H0 two m (.ref p) H := by
  refine ⟨⟨.row os, .lst h e l (isSt_len (by rw [e.length]; exact n6)), ?_⟩, fun q e => by cases e; exact np⟩
  show ((decide (os.length ≤ 24) && os.all (okEnt two)) && decide (os.length = m)) = false
  rcases b with b | b | ⟨o, ho, b⟩
  · rw [decide_eq_false b, Bool.and_false]
  · rw [decide_eq_false (by omega : ¬ os.length ≤ 24)]
    rfl
  · rw [show os.all (okEnt two) = false from List.all_eq_false.mpr ⟨o, ho, by rw [b]; simp⟩, Bool.and_false, Bool.false_and]
theorem ev_replicate {K : PySem.W.Frag} {H : Hp} {v : V} {o : Option Int} (h : EV K H v o) : ∀ n : Nat, Paired (EV K H) (List.replicate n v) (List.replicate n o)
  | 0 => .nil
  | n + 1 => .cons h (ev_replicate h n)
theorem paired_app {α β : Type} {F : α → β → Prop} : ∀ {xs xs' : List α} {ys ys' : List β}, Paired F xs ys → Paired F xs' ys' → Paired F (xs ++ xs') (ys ++ ys')
  | _, _, _, _, .nil, h => h
  | _, _, _, _, .cons p t, h => .cons p (paired_app t h)
theorem EvN.imp {te : TE} {σ : L2.St} {H0 : Hp} {P P' : V → Hp → Prop} (h : EvN te σ H0 P) (k : ∀ v H, P v H → P' v H) : EvN te σ H0 P' := fun H s Q q => h H s Q fun v H' s' p => q v H' s' (k v H' p)
/-- a list of just these values stands at v -/
def LstV (H0 : Hp) (xs : List V) (v : V) (H : Hp) : Prop := ∃ p, v = .ref p ∧ H0 p = none ∧ H p = some (.lst xs)
theorem LstV.st {H0 : Hp} {xs : List V} : ∀ v H H', Same H H' → LstV H0 xs v H → LstV H0 xs v H' := fun _ _ _ s ⟨p, e, n, h⟩ => ⟨p, e, n, s _ _ h⟩
section
variable {K : PySem.W.Frag} {σ : L2.St} {H0 : Hp}
theorem ev_one (c : V) : EvN (tLst (tCons (tC c) tNil)) σ H0 (LstV H0 [c]) := fun H s Q k => ⟨(by show 1 ≤ sizeLine; rw [sizeLine_eq]; omega), fun p np => k _ _ (Same.new np) ⟨p, rfl, s.free np, upd_same⟩⟩
theorem ev_nest : EvN (tLst (tCons (tLst (tCons (tC (.int 0)) tNil)) tNil)) σ H0 (fun v H => ∃ q, LstV H0 [.ref q] v H ∧ H q = some (.lst [.int 0])) := fun H s Q k =>
  ⟨(by show 1 ≤ sizeLine; rw [sizeLine_eq]; omega), fun q nq => ⟨(by show 1 ≤ sizeLine; rw [sizeLine_eq]; omega), fun p np => k _ _ ((Same.new nq).trans (Same.new np)) ⟨q, ⟨p, rfl, (s.trans (Same.new nq)).free np, upd_same⟩, Same.new np _ _ upd_same⟩⟩⟩
theorem flat_one (c : V) (n : Nat) : (List.replicate n [c]).flatten = List.replicate n c := by
  induction n with
  | zero => rfl
  | succ n ih => rw [List.replicate_succ, List.flatten_cons, ih, List.replicate_succ]; rfl
/-- a list of one, so many times -/
theorem ev_rep {ta tk : TE} {P : V → V → Hp → Prop} {k : Int} (st : ∀ c v H H', Same H H' → P c v H → P c v H') (h : EvN ta σ H0 (fun v H => ∃ c, LstV H0 [c] v H ∧ P c v H)) (hk : ∀ H (Q : VK), Q (.int k) H → tk σ H Q) (h0 : 0 ≤ k) (h1 : k ≤ 1000) :
    EvN (tOp rRep ta tk) σ H0 (fun v H => ∃ c u, LstV H0 (List.replicate k.toNat c) v H ∧ P c u H) := fun H s Q q =>
  h H s _ fun v H1 s1 ⟨c, ⟨p, e, _, hp⟩, hP⟩ => hk H1 _ ⟨p, k, [c], e, rfl, hp, by omega, by omega, by rw [sizeLine_eq]; show 1 * k.toNat ≤ _; omega, fun p2 np => by
    rw [flat_one]
    exact q _ _ (s1.trans (Same.new np)) ⟨c, v, ⟨p2, rfl, (s.trans s1).free np, upd_same⟩, st _ _ _ _ (Same.new np) hP⟩⟩
theorem ev_repC {tk : TE} {k : Int} (c : V) (hk : ∀ H (Q : VK), Q (.int k) H → tk σ H Q) (h0 : 0 ≤ k) (h1 : k ≤ 1000) : EvN (tOp rRep (tLst (tCons (tC c) tNil)) tk) σ H0 (LstV H0 (List.replicate k.toNat c)) :=
  (ev_rep (P := fun d _ _ => d = c) (fun _ _ _ _ _ h => h) ((ev_one c).imp fun v H h => ⟨c, h, rfl⟩) hk h0 h1).imp fun v H ⟨d, u, h, e⟩ => by
    subst e
    exact h
theorem ev_cat {ta tb : TE} {xs ys : List V} (h1 : EvN ta σ H0 (LstV H0 xs)) (h2 : EvN tb σ H0 (LstV H0 ys)) (hl : xs.length + ys.length ≤ 2000) : EvN (tOp rCat ta tb) σ H0 (LstV H0 (xs ++ ys)) := fun H s Q q =>
  h1 H s _ fun v H1 s1 ⟨p, e, _, hp⟩ => h2 H1 (s.trans s1) _ fun u H2 s2 ⟨p2, e2, _, hp2⟩ => ⟨p, p2, xs, ys, e, e2, s2 _ _ hp, hp2, by rw [sizeLine_eq]; omega, fun r nr => q _ _ ((s1.trans s2).trans (Same.new nr)) ⟨r, rfl, ((s.trans s1).trans s2).free nr, upd_same⟩⟩
end
end BF
namespace BF
open PySem PySem.Spec PyProof.Rows L2
theorem ev_oneE {σ : L2.St} {H0 : Hp} {te : TE} (c : V) (hc : ∀ H (Q : VK), Q c H → te σ H Q) : EvN (tLst (tCons te tNil)) σ H0 (LstV H0 [c]) := fun H s Q k => hc H _ ⟨(by show 1 ≤ sizeLine; rw [sizeLine_eq]; omega), fun p np => k _ _ (Same.new np) ⟨p, rfl, s.free np, upd_same⟩⟩
end BF
set_option Elab.async false
set_option linter.all false
set_option maxRecDepth 100000
set_option maxHeartbeats 4000000
namespace BF
open PySem PySem.Spec PyProof.Rows L2
/-! ### a value is put under a key -/
def putR (es : List (Str × RV)) (n : Str) (r : RV) : List (Str × RV) := if (es.any fun e => decide (e.1 = n)) = true then es.map (fun e => if e.1 = n then (e.1, r) else e) else es ++ [(n, r)]
theorem rv_any {K : PySem.W.Frag} {H : Hp} {n : Str} : ∀ {kvs : List (Key × V)} {es : List (Str × RV)}, Paired (RvK K H) kvs es → (kvs.any fun kv => decide (kv.1 = Sum.inr n)) = es.any fun e => decide (e.1 = n)
  | _, _, .nil => rfl
  | (k, v) :: kvs, (m, tv) :: es, .cons p t => by
    have e : k = Sum.inr m := p.1
    subst e
    rw [List.any_cons, List.any_cons, rv_any t]
    congr 1
    exact decide_eq_decide.mpr ⟨fun h => Sum.inr.inj h, fun h => congrArg _ h⟩
theorem rv_map {K : PySem.W.Frag} {H : Hp} {n : Str} {v : V} {r : RV} (h : RVr K H v r) : ∀ {kvs : List (Key × V)} {es : List (Str × RV)}, Paired (RvK K H) kvs es →
    Paired (RvK K H) (kvs.map fun kv => if kv.1 = Sum.inr n then (kv.1, v) else kv) (es.map fun e => if e.1 = n then (e.1, r) else e)
  | _, _, .nil => .nil
  | (k, u) :: kvs, (m, tu) :: es, .cons p t => by
    have e : k = Sum.inr m := p.1
    subst e
    refine .cons ?_ (rv_map h t)
    show RvK K H (if (Sum.inr m : Key) = Sum.inr n then (Sum.inr m, v) else (Sum.inr m, u)) (if m = n then (m, r) else (m, tu))
    by_cases c : m = n
    · subst c
      rw [if_pos rfl, if_pos rfl]
      exact ⟨rfl, h⟩
    · rw [if_neg (fun q => c (Sum.inr.inj q)), if_neg c]
      exact p
theorem rv_put {K : PySem.W.Frag} {H : Hp} {n : Str} {v : V} {r : RV} {kvs : List (Key × V)} {es : List (Str × RV)} (h : RVr K H v r) (p : Paired (RvK K H) kvs es) : Paired (RvK K H) (putK kvs (.inr n) v) (putR es n r) := by
  unfold putK putR
  rw [rv_any p]
  split
  · exact rv_map h p
  · exact Paired.snoc ⟨rfl, h⟩ p
theorem any_mem (es : List (Str × RV)) (n : Str) : (es.any fun e => decide (e.1 = n)) = decide (n ∈ es.map (·.1)) := by
  rw [Bool.eq_iff_iff, List.any_eq_true, decide_eq_true_eq, List.mem_map]
  constructor
  · rintro ⟨x, h, q⟩
    exact ⟨x, h, of_decide_eq_true q⟩
  · rintro ⟨x, h, q⟩
    exact ⟨x, h, decide_eq_true q⟩
theorem putR_keys (es : List (Str × RV)) (n : Str) (r : RV) : (putR es n r).map (·.1) = if n ∈ es.map (·.1) then es.map (·.1) else es.map (·.1) ++ [n] := by
  unfold putR
  rw [any_mem]
  by_cases h : n ∈ es.map (·.1)
  · rw [decide_eq_true h, if_pos rfl, if_pos h, List.map_map]
    refine List.map_congr_left fun x _ => ?_
    show (if x.1 = n then (x.1, r) else x).1 = x.1
    split <;> rfl
  · rw [decide_eq_false h, if_neg (by decide), if_neg h, List.map_append]
    rfl
theorem putR_nodup {es : List (Str × RV)} {n : Str} {r : RV} (h : (es.map (·.1)).Nodup) : ((putR es n r).map (·.1)).Nodup := by
  rw [putR_keys]
  split
  · exact h
  · rename_i q
    rw [List.nodup_append]
    refine ⟨h, by simp, fun a ha b hb e => ?_⟩
    rw [List.mem_singleton.mp hb] at e
    exact q (e ▸ ha)
theorem lkR_map (es : List (Str × RV)) (n m : Str) (r : RV) : lkR (es.map fun e => if e.1 = n then (e.1, r) else e) m = if m = n then (lkR es m).map fun _ => r else lkR es m := by
  induction es with
  | nil =>
    split <;> rfl
  | cons e es ih =>
    unfold lkR at ih ⊢
    rw [List.map_cons, List.find?_cons, List.find?_cons]
    by_cases c : e.1 = n
    · rw [if_pos c]
      by_cases d : e.1 = m
      · rw [decide_eq_true d]
        rw [if_pos (d.symm.trans c)]
        rfl
      · rw [decide_eq_false d]
        exact ih
    · rw [if_neg c]
      by_cases d : e.1 = m
      · rw [decide_eq_true d]
        rw [if_neg (fun q => c (d.trans q))]
      · rw [decide_eq_false d]
        exact ih
theorem lkR_app {es : List (Str × RV)} {n m : Str} {r : RV} (h : n ∉ es.map (·.1)) : lkR (es ++ [(n, r)]) m = if m = n then some r else lkR es m := by
  induction es with
  | nil =>
    unfold lkR
    rw [List.nil_append, List.find?_cons]
    by_cases d : n = m
    · rw [decide_eq_true d, if_pos d.symm]
      rfl
    · rw [decide_eq_false d, if_neg (fun q => d q.symm)]
  | cons e es ih =>
    have h1 : n ≠ e.1 := fun q => h (by rw [q]; exact List.mem_cons_self)
    have h2 : n ∉ es.map (·.1) := fun q => h (List.mem_cons_of_mem _ q)
    have ih := ih h2
    unfold lkR at ih ⊢
    rw [List.cons_append, List.find?_cons, List.find?_cons]
    by_cases d : e.1 = m
    · rw [decide_eq_true d, if_neg (fun q => h1 (q.symm.trans d.symm))]
    · rw [decide_eq_false d]
      exact ih
theorem lkR_some {es : List (Str × RV)} {n : Str} (h : n ∈ es.map (·.1)) : ∃ r, lkR es n = some r := by
  induction es with
  | nil => cases h
  | cons e es ih =>
    unfold lkR at ih ⊢
    rw [List.find?_cons]
    by_cases d : e.1 = n
    · rw [decide_eq_true d]
      exact ⟨_, rfl⟩
    · rw [decide_eq_false d]
      exact ih ((List.mem_cons.mp h).resolve_left fun q => d q.symm)
theorem lkR_put (es : List (Str × RV)) (n m : Str) (r : RV) : lkR (putR es n r) m = if m = n then some r else lkR es m := by
  unfold putR
  rw [any_mem]
  by_cases h : n ∈ es.map (·.1)
  · rw [decide_eq_true h, if_pos rfl, lkR_map]
    by_cases c : m = n
    · rw [if_pos c, if_pos c]
      obtain ⟨u, e⟩ := lkR_some h
      rw [c, e]
      rfl
    · rw [if_neg c, if_neg c]
  · rw [decide_eq_false h, if_neg (by decide), lkR_app h]
/-! ### a dict is changed: what values are stays -/
theorem EV.dk {K : PySem.W.Frag} {H : Hp} {d : Addr} {kvs kvs' : List (Key × V)} {v : V} {o : Option Int} (h : EV K H v o) (h1 : H d = some (.dK kvs)) : EV K (upd H d (.dK kvs')) v o := by
  cases h with
  | int i => exact .int i
  | bl b => exact .bl b
  | no h e => exact .no (h.dk h1) e
theorem RVr.dk {K : PySem.W.Frag} {H : Hp} {d : Addr} {kvs kvs' : List (Key × V)} {v : V} {o : RV} (h : RVr K H v o) (h1 : H d = some (.dK kvs)) : RVr K (upd H d (.dK kvs')) v o := by
  cases h with
  | no h e => exact .no (h.dk h1) e
  | lst h e l n => exact .lst (by rw [upd_ne (fun q => by rw [q, h1] at h; cases h)]; exact h) (Paired.imp (fun _ _ q => q.dk h1) e) l n
/-! ### the least of the bad names is told -/
theorem head_le {ks : List Str} {h n : Str} {t : List Str} (so : sortS ks = h :: t) (hn : n ∈ ks) : leS h n = true := by
  have pw : (sortS ks).Pairwise fun a b => leS a b = true := List.pairwise_mergeSort (le := leS) leS_trans leS_total ks
  rw [so] at pw
  have hm := (mem_sortS ks n).mpr hn
  rw [so] at hm
  rcases List.mem_cons.mp hm with rfl | hm
  · have := leS_total n n
    rw [Bool.or_self] at this
    exact this
  · exact (List.pairwise_cons.mp pw).1 n hm
/-- what is known of a dict with bad names -/
structure Bads (two : Bool) (m : Nat) (es : List (Str × RV)) (bs : List Str) : Prop where
  nd : (es.map (·.1)).Nodup
  sub : ∀ n ∈ bs, n ∈ es.map (·.1)
  good : ∀ n ∈ es.map (·.1), n ∉ bs → isNm n = true ∧ ∃ r, lkR es n = some r ∧ goodR two r = true ∧ rvLen r = m
  bad : ∀ n ∈ bs, (isNm n = false ∧ ∃ r, lkR es n = some r ∧ rvLen r = m) ∨ ((∃ h ∈ es.map (·.1), h ∉ bs ∧ leS h n = true) ∧ ∃ r, lkR es n = some r ∧ (goodR two r && decide (rvLen r = m)) = false)
theorem Bads.w0 {two : Bool} {m : Nat} {es : List (Str × RV)} {bs : List Str} (B : Bads two m es bs) {n : Str} (hn : n ∈ es.map (·.1)) : BF.w0 es = m := by
  unfold BF.w0
  cases e : sortS (es.map (·.1)) with
  | nil =>
    have := (mem_sortS _ _).mpr hn
    rw [e] at this
    cases this
  | cons a t =>
    have ha : a ∈ es.map (·.1) := (mem_sortS _ _).mp (by rw [e]; exact List.mem_cons_self)
    show rvLen ((lkR es a).getD .junk) = m
    by_cases c : a ∈ bs
    · rcases B.bad a c with ⟨_, r, e1, e2⟩ | ⟨⟨h, h1, h2, h3⟩, _⟩
      · rw [e1]
        exact e2
      · have := leS_anti _ _ h3 (head_le e h1)
        rw [this] at h2
        exact absurd c h2
    · obtain ⟨_, r, e1, _, e2⟩ := B.good a ha c
      rw [e1]
      exact e2
theorem Bads.told {two : Bool} {m : Nat} {es : List (Str × RV)} {z : Str} {zs : List Str} (B : Bads two m es (z :: zs)) : badF two es = some (leastS z zs) := by
  have hb := leastS_mem zs z
  have hk := B.sub _ hb
  have hw := B.w0 hk
  obtain ⟨i, hi, e⟩ := List.mem_iff_getElem.mp ((mem_sortS _ _).mpr hk)
  refine badF_some (i := i) (by rw [← e]; exact List.getElem?_eq_getElem hi) ?_ fun j hj x hx => ?_
  · rcases B.bad _ hb with ⟨h, _⟩ | ⟨_, r, e1, e2⟩
    · unfold goodN
      rw [h]
      rfl
    · rw [goodN_of e1, hw, e2, Bool.and_false]
  · obtain ⟨hj2, ex⟩ := List.getElem?_eq_some_iff.mp hx
    have hxk : x ∈ es.map (·.1) := (mem_sortS _ _).mp (List.mem_of_getElem? hx)
    have hnb : x ∉ z :: zs := fun h => by
      have l1 := leastS_le zs z x h
      have pw : (sortS (es.map (·.1))).Pairwise fun a b => leS a b = true := List.pairwise_mergeSort (le := leS) leS_trans leS_total _
      have l2 := List.pairwise_iff_getElem.mp pw j i hj2 hi hj
      rw [ex, e] at l2
      have := leS_anti _ _ l2 l1
      have q := (List.getElem_inj (nodup_sortS B.nd)).mp (ex.trans (this.trans e.symm))
      omega
    obtain ⟨h1, r, e1, e2, e3⟩ := B.good x hxk hnb
    rw [goodN_of e1, h1, e2, e3, hw, decide_eq_true rfl]
    rfl
end BF
namespace BF
open PySem PySem.Spec PyProof.Rows L2
/-- a list at b is changed -/
theorem RVr.chg {K : PySem.W.Frag} {H : Hp} {b : Addr} {xs ys : List V} {v : V} {o : RV} (h : RVr K H v o) (hb : H b = some (.lst xs)) (n : v ≠ .ref b) : RVr K (upd H b (.lst ys)) v o := by
  have f1 : ∀ a u, (∀ zs, u ≠ .lst zs) → H a = some u → upd H b (.lst ys) a = some u := fun a u no e => by rw [upd_ne (fun q => by rw [q, hb] at e; exact no _ (Option.some.inj e).symm)]; exact e
  have f2 : ∀ a zs, H a = some (.lst zs) → ∃ us, upd H b (.lst ys) a = some (.lst us) := fun a zs e => by
    by_cases q : a = b
    · exact ⟨ys, by rw [q, upd_same]⟩
    · exact ⟨zs, by rw [upd_ne q]; exact e⟩
  cases h with
  | no h e => exact .no (h.fw f1 f2) e
  | @lst p us os h e l s => exact .lst (by rw [upd_ne (fun q => n (by rw [q]))]; exact h) (Paired.imp (fun _ _ q => q.fw f1 f2) e) l s
theorem mem_putK {kvs : List (Key × V)} {k : Key} {v : V} {kv : Key × V} (h : kv ∈ putK kvs k v) : kv ∈ kvs ∨ kv.2 = v := by
  unfold putK at h
  split at h
  · obtain ⟨x, hx, e⟩ := List.mem_map.mp h
    split at e
    · exact .inr (by rw [← e])
    · exact .inl (by rw [← e]; exact hx)
  · rcases List.mem_append.mp h with h | h
    · exact .inl h
    · exact .inr (by rw [List.mem_singleton.mp h])
theorem paired_mem {α β : Type} {F G : α → β → Prop} : ∀ {xs : List α} {ys : List β}, Paired F xs ys → (∀ x ∈ xs, ∀ y, F x y → G x y) → Paired G xs ys
  | _, _, .nil, _ => .nil
  | _, _, .cons p t, h => .cons (h _ List.mem_cons_self _ p) (paired_mem t fun x hx => h x (List.mem_cons_of_mem _ hx))
end BF
set_option Elab.async false
set_option linter.all false
set_option maxRecDepth 100000
set_option maxHeartbeats 4000000
namespace BF
open PySem PySem.Spec PyProof.Rows L2
/-! ### rows by names -/
def rowAt (rs : List Row) (n : Str) : List Int := ((rs.find? fun r => decide (r.1 = n)).map (·.2)).getD []
theorem rowAt_mem : ∀ {rs : List Row} {r : Row}, (rs.map (·.1)).Nodup → r ∈ rs → rowAt rs r.1 = r.2
  | u :: us, r, nd, h => by
    have nd : (u.1 :: us.map (·.1)).Nodup := nd
    unfold rowAt
    rw [List.find?_cons]
    rcases List.mem_cons.mp h with q | q
    · rw [← q]
      simp
    · have hne : ¬ u.1 = r.1 := fun z => (List.nodup_cons.mp nd).1 (List.mem_map.mpr ⟨_, q, z.symm⟩)
      rw [decide_eq_false hne]
      exact rowAt_mem (List.nodup_cons.mp nd).2 q
theorem map_rowAt {rs : List Row} (nd : (rs.map (·.1)).Nodup) : (rs.map (·.1)).map (fun n => ((n, rowAt rs n) : Row)) = rs := by
  rw [List.map_map]
  refine (List.map_congr_left fun r hr => ?_).trans (List.map_id rs)
  show (r.1, rowAt rs r.1) = r
  rw [rowAt_mem nd hr]
theorem rowsOf_perm {rs us : List Row} (p : us.Perm rs) (nd : (rs.map (·.1)).Nodup) (so : sortS (rs.map (·.1)) = rs.map (·.1)) : rowsOf (us.map rvOf) = rs := by
  have hk : (us.map (·.1)).Perm (rs.map (·.1)) := p.map _
  have ndu : (us.map (·.1)).Nodup := hk.nodup_iff.mpr nd
  unfold rowsOf
  rw [rvOf_keys, sortS_of_perm hk, so, List.map_map]
  refine (List.map_congr_left fun r hr => ?_).trans (List.map_id rs)
  show (r.1, intsR (lkR (us.map rvOf) r.1)) = r
  rw [lk_rv ndu (p.mem_iff.mpr hr)]
  show (r.1, (r.2.map some).filterMap id) = r
  rw [fm_some]
theorem sorted_pw (xs : List Str) : (sortS xs).Pairwise fun a b => leS a b = true := List.pairwise_mergeSort (le := leS) leS_trans leS_total xs
theorem sortS_of_pw {xs : List Str} (h : xs.Pairwise fun a b => leS a b = true) : sortS xs = xs :=
  List.Perm.eq_of_pairwise (le := fun a b => leS a b = true) (fun a b _ _ x y => leS_anti a b x y) (sorted_pw xs) h (sortS_perm xs)
theorem sortS_drop {xs : List Str} (h : sortS xs = xs) (k : Nat) : sortS (xs.drop k) = xs.drop k := by
  refine sortS_of_pw ?_
  have := sorted_pw xs
  rw [h] at this
  exact this.sublist (List.drop_sublist k xs)
/-! ### a list of pairs of a name and a row -/
abbrev PTR (N : Addr → Prop) (H : Hp) : Addr → Row → Prop := fun q r => ∃ t, H q = some (.tup [.str r.1, .ref t]) ∧ N t ∧ H t = some (.lst (r.2.map V.int))
theorem ptr_kvs {K : PySem.W.Frag} {N : Addr → Prop} {H : Hp} : ∀ {qs : List Addr} {rs : List Row}, Paired (PTR N H) qs rs → ∃ kvs : List (Key × V), Paired (fun p kv => SqT K H p [kV kv.1, kv.2]) qs kvs ∧ Paired (RowK N H) kvs rs
  | _, _, .nil => ⟨[], .nil, .nil⟩
  | q :: qs, r :: rs, .cons p h => by
    obtain ⟨kvs, h1, h2⟩ := ptr_kvs (K := K) h
    obtain ⟨t, a, nt, b⟩ := p
    exact ⟨(.inr r.1, .ref t) :: kvs, .cons (SqT.of a) h1, .cons ⟨rfl, t, rfl, nt, b⟩ h2⟩
theorem mergeR_nd {N : Addr → Prop} {H : Hp} {kvs : List (Key × V)} {rs : List Row} (h : Paired (RowK N H) kvs rs) (nd : (rs.map (·.1)).Nodup) : mergeK [] kvs = kvs := by
  refine mergeK_app kvs [] ?_
  rw [List.nil_append, rowk_keys h]
  exact List.Pairwise.map _ (fun a b hne e => hne (Sum.inr.inj e)) nd
abbrev tListOf (K : PySem.W.Frag) (te : TE) : TE := tCB (fun xs H Q => ∃ p ys, xs = [V.ref p] ∧ (SqL K H p ys ∨ SqT K H p ys) ∧ ∀ (l : Addr), H l = none → Q (V.ref l) (upd H l (HO.lst ys))) (tCons te tNil)
/-- what a comprehension over the list at a asks, the answer at D told by Qd -/
abbrev LcS (K : PySem.W.Frag) (a : Addr) (te : TE) (σ : L2.St) (H : Hp) (Qd : Addr → Hp → Prop) : Prop := ∀ D, H D = none → ∃ W : Nat → Nat → Hp → Prop, (∃ m, W 0 m (upd H D (.lst []))) ∧ ∀ i m H, W i m H →
  ((Itl K a).stop i H ∧ Qd D H) ∨ ((Itl K a).go i H ∧ ∃ Nx : Hp → Prop, (∀ G, Nx G → ∃ l, l < m ∧ W (i + 1) l G) ∧ ∀ x G, (Itl K a).yld i H x G → gName 18 x (wipe σ [18]) G fun σ2 G2 => wipe σ2 [18] = wipe σ [18] ∧ tYes σ2 G2 fun b G3 =>
    if b = true then te σ2 G3 fun y G4 => ∃ acc, G4 D = some (.lst acc) ∧ acc.length < sizeLine ∧ Nx (upd G4 D (.lst (acc ++ [y]))) else Nx G3)
/-- [(n, list(rows[n])) for n in names] -/
theorem copy_lc {K : PySem.W.Frag} {x0 x1 x2 x3 x4 x5 x7 x8 x9 x10 x11 x12 x13 x14 x15 x16 x17 x18 : Option V} {H : Hp} {a rd : Addr} {ns : List Str} {rs : List Row} {N1 : Addr → Prop} (ha : H a = some (.lst (ns.map V.str))) (hr : RowsD N1 H rd rs) (nd : (rs.map (·.1)).Nodup) (hsub : ∀ n ∈ ns, n ∈ rs.map (·.1)) (hl : ns.length ≤ 100) {Qd : Addr → Hp → Prop}
    (k : ∀ D qs H', Same H H' → H' D = some (.lst (qs.map V.ref)) → Paired (PTR (fun a => H a = none) H') qs (ns.map fun n => ((n, rowAt rs n) : Row)) → Qd D H') :
    LcS K a (tTup (tCons (tVar 18) (tCons (tListOf K (tDGet (tVar 6) (tVar 18))) tNil))) [x0, x1, x2, x3, x4, x5, some (.ref rd), x7, x8, x9, x10, x11, x12, x13, x14, x15, x16, x17, x18] H Qd := by
  obtain ⟨_, kvs, hd, hp⟩ := hr
  intro D nD
  have aD : a ≠ D := ne_of_none ha nD
  refine lc_it walk_list (fun i H' => ∃ qs : List Addr, Same H H' ∧ H' D = some (.lst (qs.map V.ref)) ∧ Paired (PTR (fun a => H a = none ∧ a ≠ D) H') qs ((ns.take i).map fun n => ((n, rowAt rs n) : Row)))
    ⟨[], Same.new nD, upd_same, .nil⟩ (fun _ H' _ ⟨_, q, _⟩ => SqL.of (q _ _ ha)) ?_ ?_
  · rintro i v H2 H3 hi ⟨qs, s2, hD, hP⟩ ⟨rfl, hv⟩
    rw [List.length_map] at hi
    have hn : ns[i]? = some ns[i] := List.getElem?_eq_getElem hi
    have ev : v = V.str ns[i] := by
      rw [List.getElem?_map, hn] at hv
      exact (Option.some.inj hv).symm
    subst ev
    obtain ⟨r, hrm, er⟩ := List.mem_map.mp (hsub _ (List.getElem_mem hi))
    obtain ⟨q, hq, _, hq2⟩ := rowk_get hp nd hrm
    rw [er] at hq
    refine ⟨rfl, _, rfl, _, rfl, _, rfl, rd, .ref q, rfl, dget_s (.inl (s2 _ _ hd)) hq, q, _, rfl, .inl (SqL.of (s2 _ _ hq2)), fun l nl => ?_⟩
    have s3 := Same.new (o := .lst (r.2.map V.int)) nl
    refine ⟨(by show 2 ≤ sizeLine; rw [sizeLine_eq]; omega), fun t nt => ?_⟩
    have s4 := s3.trans (Same.new (o := .tup [V.str ns[i], V.ref l]) nt)
    have qlen : qs.length = i := by
      rw [hP.length, List.length_map, List.length_take]
      omega
    have hD4 := s4 _ _ hD
    refine ⟨_, hD4, small1000 (by rw [List.length_map]; omega), qs ++ [t], Same.put (s2.trans s4) nD, by rw [upd_same, List.map_append]; rfl, ?_⟩
    have up : ∀ u o, (∀ xs : List Addr, o ≠ .lst (xs.map V.ref) ∨ u ≠ D) → upd (upd H3 l (.lst (r.2.map V.int))) t (.tup [V.str ns[i], V.ref l]) u = some o → upd (upd (upd H3 l (.lst (r.2.map V.int))) t (.tup [V.str ns[i], V.ref l])) D (.lst (qs.map V.ref ++ [V.ref t])) u = some o := fun u o no h => by
      rw [upd_ne (fun e => by
        rw [e, hD4] at h
        rcases no qs with n | n
        · exact n (Option.some.inj h).symm
        · exact n e)]
      exact h
    rw [take_snoc (fun n => ((n, rowAt rs n) : Row)) hn]
    have lD : l ≠ D := fun e => by rw [e, hD] at nl; cases nl
    refine Paired.snoc ⟨l, up _ _ (fun xs => .inl (by simp)) upd_same, ⟨s2.free nl, lD⟩, up _ _ (fun xs => .inr lD) ?_⟩ (Paired.imp (fun _ _ ⟨t2, h1, n2, h2⟩ => ⟨t2, up _ _ (fun xs => .inl (by simp)) (s4 _ _ h1), n2, up _ _ (fun xs => .inr n2.2) (s4 _ _ h2)⟩) hP)
    rw [upd_ne (fun e => by rw [e, upd_same] at nt; cases nt), upd_same, ← er, rowAt_mem nd hrm]
  · rintro H2 ⟨qs, s2, hD, hP⟩
    rw [List.length_map, List.take_of_length_le (Nat.le_refl _)] at hP
    exact k D qs H2 s2 hD (Paired.imp (fun _ _ ⟨t, h1, n, h2⟩ => ⟨t, h1, n.1, h2⟩) hP)
/-- [(n, rows[n]) for n in names] -/
theorem same_lc {K : PySem.W.Frag} {x0 x1 x2 x3 x4 x5 x7 x8 x9 x10 x11 x12 x13 x14 x15 x16 x17 x18 : Option V} {H : Hp} {a rd : Addr} {ns : List Str} {rs : List Row} {N1 : Addr → Prop} (ha : H a = some (.lst (ns.map V.str))) (hr : RowsD N1 H rd rs) (nd : (rs.map (·.1)).Nodup) (hsub : ∀ n ∈ ns, n ∈ rs.map (·.1)) (hl : ns.length ≤ 100) {Qd : Addr → Hp → Prop}
    (k : ∀ D qs H', Same H H' → H' D = some (.lst (qs.map V.ref)) → Paired (PTR N1 H') qs (ns.map fun n => ((n, rowAt rs n) : Row)) → Qd D H') :
    LcS K a (tTup (tCons (tVar 18) (tCons (tDGet (tVar 6) (tVar 18)) tNil))) [x0, x1, x2, x3, x4, x5, some (.ref rd), x7, x8, x9, x10, x11, x12, x13, x14, x15, x16, x17, x18] H Qd := by
  obtain ⟨_, kvs, hd, hp⟩ := hr
  intro D nD
  refine lc_it walk_list (fun i H' => ∃ qs : List Addr, Same H H' ∧ H' D = some (.lst (qs.map V.ref)) ∧ Paired (PTR (fun a => N1 a ∧ H a ≠ none) H') qs ((ns.take i).map fun n => ((n, rowAt rs n) : Row)))
    ⟨[], Same.new nD, upd_same, .nil⟩ (fun _ H' _ ⟨_, q, _⟩ => SqL.of (q _ _ ha)) ?_ ?_
  · rintro i v H2 H3 hi ⟨qs, s2, hD, hP⟩ ⟨rfl, hv⟩
    rw [List.length_map] at hi
    have hn : ns[i]? = some ns[i] := List.getElem?_eq_getElem hi
    have ev : v = V.str ns[i] := by
      rw [List.getElem?_map, hn] at hv
      exact (Option.some.inj hv).symm
    subst ev
    obtain ⟨r, hrm, er⟩ := List.mem_map.mp (hsub _ (List.getElem_mem hi))
    obtain ⟨q, hq, nq, hq2⟩ := rowk_get hp nd hrm
    rw [er] at hq
    refine ⟨rfl, _, rfl, _, rfl, _, rfl, rd, .ref q, rfl, dget_s (.inl (s2 _ _ hd)) hq, (by show 2 ≤ sizeLine; rw [sizeLine_eq]; omega), fun t nt => ?_⟩
    have s4 := Same.new (o := .tup [V.str ns[i], V.ref q]) nt
    have qlen : qs.length = i := by
      rw [hP.length, List.length_map, List.length_take]
      omega
    have hD4 := s4 _ _ hD
    refine ⟨_, hD4, small1000 (by rw [List.length_map]; omega), qs ++ [t], Same.put (s2.trans s4) nD, by rw [upd_same, List.map_append]; rfl, ?_⟩
    have tD : t ≠ D := fun e => by rw [e, hD] at nt; cases nt
    have live : ∀ {b : Addr}, H b ≠ none → b ≠ D := fun h e => h (by rw [e]; exact nD)
    have qD : q ≠ D := live (by rw [hq2]; simp)
    have tup : ∀ u xs, H3 u = some (.tup xs) → u ≠ D := fun u xs h e => by rw [e, hD] at h; cases h
    rw [take_snoc (fun n => ((n, rowAt rs n) : Row)) hn]
    refine Paired.snoc ⟨q, by rw [upd_ne tD]; exact upd_same, ⟨nq, by rw [hq2]; simp⟩, ?_⟩ (Paired.imp (fun _ _ ⟨t2, h1, n2, h2⟩ => ⟨t2, by rw [upd_ne (tup _ _ h1)]; exact s4 _ _ h1, n2, by rw [upd_ne (live n2.2)]; exact s4 _ _ h2⟩) hP)
    have e4 := s4 _ _ (s2 _ _ hq2)
    have er2 : rowAt rs ns[i] = r.2 := by
      rw [← er]
      exact rowAt_mem nd hrm
    rw [upd_ne qD]
    show _ = some (HO.lst ((rowAt rs ns[i]).map V.int))
    rw [er2]
    exact e4
  · rintro H2 ⟨qs, s2, hD, hP⟩
    rw [List.length_map, List.take_of_length_le (Nat.le_refl _)] at hP
    exact k D qs H2 s2 hD (Paired.imp (fun _ _ ⟨t, h1, n, h2⟩ => ⟨t, h1, n.1, h2⟩) hP)
end BF
namespace BF
open PySem PySem.Spec PyProof.Rows L2
/-! ### lists of rows as data -/
theorem dp_rows {K : PySem.W.Frag} {H : Hp} : ∀ {ps : List Addr} {rs : List Row}, Paired (fun p r => H p = some (.lst (r.2.map V.int))) ps rs → DpAll K H (ps.map V.ref) (rs.map fun r => PyData.list (r.2.map PyData.int))
  | _, _, .nil => .nil
  | _, _, .cons p t => .cons (dp_ints p) (dp_rows t)
theorem lay_rows : ∀ rs : List Row, PyData.canLayAll0 (rs.map fun r => PyData.list (r.2.map PyData.int)) = true ∧ PyData.depthAll (rs.map fun r => PyData.list (r.2.map PyData.int)) ≤ 1
  | [] => by simp [PyData.canLayAll0, PyData.depthAll]
  | r :: rs => by
    obtain ⟨h1, h2⟩ := lay_rows rs
    refine ⟨by simp [PyData.canLayAll0, PyData.canLay0, lay_ints r.2, h1], ?_⟩
    show max (PyData.depth (.list (r.2.map PyData.int))) _ ≤ 1
    have : PyData.depth (.list (r.2.map PyData.int)) ≤ 1 := by simp [PyData.depth, depth_ints r.2]
    omega
theorem shaped_rows (rs : List Row) : SeqAt.shaped (.list (rs.map fun r => PyData.list (r.2.map PyData.int))) = true := by
  obtain ⟨h1, h2⟩ := lay_rows rs
  have h3 : PyData.depth (.list (rs.map fun r => PyData.list (r.2.map PyData.int))) ≤ 2 := by
    simp only [PyData.depth]
    omega
  unfold SeqAt.shaped
  have h4 : PyData.canLay0 (.list (rs.map fun r => PyData.list (r.2.map PyData.int))) = true := by simp only [PyData.canLay0, h1]
  simp only [h4, Bool.true_and, decide_eq_true_eq]
  omega
theorem eqv_rows (rs : List Row) : PyData.eqv (.list (rs.map fun r => PyData.list (r.2.map PyData.int))) (.list (rs.map fun r => PyData.list (r.2.map PyData.int))) = true := by
  show PyData.eqvAll _ _ = true
  induction rs with
  | nil => rfl
  | cons r rs ih =>
    show (PyData.eqv _ _ && PyData.eqvAll _ _) = true
    rw [ih, eqv_ints, decide_eq_true rfl]
    rfl
end BF
set_option Elab.async false
set_option linter.all false
set_option maxRecDepth 100000
set_option maxHeartbeats 4000000
/-! The rows of the law's end: n names, 24 ones in each row. -/
namespace BF
open PySem PySem.Spec PyProof.Rows L2
def wide (n : Nat) : List Row := (List.range n).map fun j => (SX.S [97 + j], List.replicate 24 1)
theorem wide_len (n : Nat) : (wide n).length = n := by
  unfold wide
  rw [List.length_map, List.length_range]
theorem wide_keys (n : Nat) : (wide n).map (·.1) = (List.range n).map fun j => SX.S [97 + j] := by
  unfold wide
  rw [List.map_map]
  rfl
theorem wide_nd : ∀ n, n < 27 → ((List.range n).map fun j => SX.S [97 + j]).Nodup := by decide +kernel
theorem wide_pw : ∀ n, n < 27 → ((List.range n).map fun j => SX.S [97 + j]).Pairwise fun a b => leS a b = true := by decide +kernel
theorem wide_nm : ∀ j, j < 26 → isNm (SX.S [97 + j]) = true := by decide +kernel
theorem wide_names {n : Nat} (h : n < 27) : ∀ r ∈ wide n, isNm r.1 = true := by
  intro r hr
  obtain ⟨j, hj, rfl⟩ := List.mem_map.mp hr
  have := List.mem_range.mp hj
  exact wide_nm j (by omega)
theorem wide_rows {n : Nat} : ∀ r ∈ wide n, r.2 = List.replicate 24 1 := by
  intro r hr
  obtain ⟨j, _, rfl⟩ := List.mem_map.mp hr
  rfl
theorem cut_one {xs : List V} : cutV xs (some 1) none = xs.drop 1 := by
  unfold cutV
  have e : ((1 : Nat) : Int) = 1 := rfl
  rw [← e, HT.sIx_none, HT.sIx_nat]
  by_cases h : 1 ≤ xs.length
  · rw [Nat.min_eq_left h, List.take_of_length_le (by rw [List.length_drop]; omega)]
  · rw [Nat.min_eq_right (by omega), List.drop_eq_nil_of_le (Nat.le_refl _), List.drop_eq_nil_of_le (by omega), List.take_nil]
/-- two ways that meet again -/
theorem fork {PP : Hp → Prop} {goal : Prop} {w c : Addr} {G : Hp} (k : ∀ H', KpS w c G H' → PP H') (h : (∀ H', KpS w c G H' → PP H') → goal) : goal := h k
theorem not_nm {rs : List Row} {x : Str} (h : ∀ r ∈ rs, isNm r.1 = true) (hx : isNm x = false) : x ∉ rs.map (·.1) := fun m => by
  obtain ⟨r, hr, e⟩ := List.mem_map.mp m
  have := h r hr
  rw [e, hx] at this
  cases this
theorem nm_blank (x : Str) : isNm (x ++ (" " : Str)) = false := by
  unfold isNm
  rw [Bool.and_eq_false_iff]
  refine .inr ?_
  rw [← Bool.not_eq_true, List.all_eq_true]
  intro h
  have e : (x ++ (" " : Str)).cps.toList = x.cps.toList ++ [32] := by
    show (x.cps ++ (" " : Str).cps).toList = _
    rw [Array.toList_append]
    congr 1
  have := h 32 (by rw [e]; exact List.mem_append_right _ List.mem_cons_self)
  revert this
  decide +kernel
abbrev LcN (n : Nat) (te : TE) (σ : L2.St) (H : Hp) (Qd : Addr → Hp → Prop) : Prop := ∀ D, H D = none → ∃ W : Nat → Nat → Hp → Prop, (∃ m, W 0 m (upd H D (.lst []))) ∧ ∀ i m H, W i m H →
  ((Itr 0 n).stop i H ∧ Qd D H) ∨ ((Itr 0 n).go i H ∧ ∃ Nx : Hp → Prop, (∀ G, Nx G → ∃ l, l < m ∧ W (i + 1) l G) ∧ ∀ x G, (Itr 0 n).yld i H x G → gName 9 x (wipe σ [9]) G fun σ2 G2 => wipe σ2 [9] = wipe σ [9] ∧ tYes σ2 G2 fun b G3 =>
    if b = true then te σ2 G3 fun y G4 => ∃ acc, G4 D = some (.lst acc) ∧ acc.length < sizeLine ∧ Nx (upd G4 D (.lst (acc ++ [y]))) else Nx G3)
theorem wide_lc {x0 x1 x2 x3 x4 x5 x6 x7 x8 x9 x10 x11 x12 x13 x14 x15 x16 x17 x18 : Option V} {H : Hp} {n : Nat} (hn : n ≤ 26) {Qd : Addr → Hp → Prop}
    (k : ∀ D qs H', Same H H' → H' D = some (.lst (qs.map V.ref)) → Paired (PTR (fun a => H a = none) H') qs (wide n) → Qd D H') :
    LcN n (tTup (tCons (tOp rIxS (tC (V.str (Str.ofString "abcdefghijklmnopqrstuvwxyz"))) (tVar 9)) (tCons (tOp rRep (tLst (tCons (tC (V.int 1)) tNil)) (tC (V.int 24))) tNil))) [x0, x1, x2, x3, x4, x5, x6, x7, x8, x9, x10, x11, x12, x13, x14, x15, x16, x17, x18] H Qd := by
  intro D nD
  refine lc_it walk_range (fun i H' => ∃ qs : List Addr, Same H H' ∧ H' D = some (.lst (qs.map V.ref)) ∧ Paired (PTR (fun a => H a = none ∧ a ≠ D) H') qs (wide i))
    ⟨[], Same.new nD, upd_same, .nil⟩ (fun _ _ _ _ => True.intro) ?_ ?_
  · rintro i v H2 H3 hi ⟨qs, s2, hD, hP⟩ ⟨rfl, rfl⟩
    have at_ : atI letters.cps.toList (0 + (i : Int)) = some (97 + i) := by
      rw [Int.zero_add, letters_list]
      exact atI_nat (by rw [List.getElem?_range' (by omega), Nat.one_mul])
    refine ⟨rfl, ?_⟩
    refine ⟨_, rfl, letters, _, _, rfl, rfl, (by rw [sizeLine_eq]; decide +kernel), at_, (by show 1 ≤ sizeLine; rw [sizeLine_eq]; omega), fun l nl => ?_⟩
    refine ⟨l, 24, _, rfl, rfl, upd_same, by omega, by omega, (by rw [sizeLine_eq]; decide), fun q nq => ?_⟩
    have ef : (List.replicate (Int.toNat 24) [V.int 1]).flatten = (List.replicate 24 (1 : Int)).map V.int := by
      rw [flat_one, List.map_replicate]
      rfl
    rw [ef]
    have s3 := (Same.new (o := .lst [V.int 1]) nl).trans (Same.new (o := .lst ((List.replicate 24 (1 : Int)).map V.int)) nq)
    have eq1 : upd (upd H3 l (.lst [V.int 1])) q (.lst ((List.replicate 24 (1 : Int)).map V.int)) q = some (.lst ((List.replicate 24 (1 : Int)).map V.int)) := upd_same
    have nq3 := (Same.new (o := .lst [V.int 1]) nl).free nq
    generalize upd (upd H3 l (.lst [V.int 1])) q (.lst ((List.replicate 24 (1 : Int)).map V.int)) = H4 at *
    refine ⟨(by show 2 ≤ sizeLine; rw [sizeLine_eq]; omega), fun t nt => ?_⟩
    have s4 := s3.trans (Same.new (o := .tup [V.str (SX.S [97 + i]), V.ref q]) nt)
    have qlen : qs.length = i := by rw [hP.length, wide_len]
    have hD4 := s4 _ _ hD
    have tD : t ≠ D := fun e => by rw [e, s3 _ _ hD] at nt; cases nt
    have qD : q ≠ D := fun e => by rw [e, hD] at nq3; cases nq3
    have tq : q ≠ t := fun e => by rw [← e, eq1] at nt; cases nt
    refine ⟨_, hD4, small1000 (by rw [List.length_map]; omega), qs ++ [t], Same.put (s2.trans s4) nD, by rw [upd_same, List.map_append]; rfl, ?_⟩
    have ew : wide (i + 1) = wide i ++ [(SX.S [97 + i], List.replicate 24 1)] := by
      unfold wide
      rw [List.range_succ, List.map_append]
      rfl
    rw [ew]
    refine Paired.snoc ⟨q, by rw [upd_ne tD]; exact upd_same, ⟨s2.free nq3, qD⟩, by rw [upd_ne qD, upd_ne tq]; exact eq1⟩ (Paired.imp (fun y r ⟨t2, h1, n2, h2⟩ => ⟨t2, ?_, n2, by rw [upd_ne n2.2]; exact s4 _ _ h2⟩) hP)
    rw [upd_ne (fun e => by rw [e, hD] at h1; cases h1)]
    exact s4 _ _ h1
  · rintro H2 ⟨qs, s2, hD, hP⟩
    exact k D qs H2 s2 hD (Paired.imp (fun _ _ ⟨t, h1, n, h2⟩ => ⟨t, h1, n.1, h2⟩) hP)
end BF
set_option Elab.async false
set_option linter.all false
set_option maxRecDepth 100000
set_option maxHeartbeats 4000000
namespace BF43
open BF
open PySem PySem.Spec PyProof.Rows L2
open C8 (Cal CalAt Met Mak cal0 met0 mak0 fn0 pe_c pe_mk pe_mt pe_mt0 pe_gc fnScope fnBody fnArgs fnScope_by)
open SX
def topS (i : Nat) : Stmt := PySem.Challenge.pw_bothfree_k43_rows_made_and_refused.main.body.getD i (.Pass ⟨0, 0, 0, 0⟩)
abbrev s_NoThing__init : Stmt := inClass (topS 2) 0
abbrev N_NoThing__init : List Str := ["self", "thing"]
theorem sc_NoThing__init : FnScope N_NoThing__init ["self", "thing"] (fnScope s_NoThing__init) := fnScope_by (by decide +kernel)
abbrev s_TooMany__init : Stmt := inClass (topS 3) 0
abbrev N_TooMany__init : List Str := ["self", "limit"]
theorem sc_TooMany__init : FnScope N_TooMany__init ["self", "limit"] (fnScope s_TooMany__init) := fnScope_by (by decide +kernel)
abbrev s_BadRows__init : Stmt := inClass (topS 4) 0
abbrev N_BadRows__init : List Str := ["self", "thing"]
theorem sc_BadRows__init : FnScope N_BadRows__init ["self", "thing"] (fnScope s_BadRows__init) := fnScope_by (by decide +kernel)
abbrev s_is_integer : Stmt := topS 8
abbrev N_is_integer : List Str := ["value"]
theorem sc_is_integer : FnScope N_is_integer ["value"] (fnScope s_is_integer) := fnScope_by (by decide +kernel)
abbrev s_is_name : Stmt := topS 9
abbrev N_is_name : List Str := ["value", "letter"]
theorem sc_is_name : FnScope N_is_name ["value"] (fnScope s_is_name) := fnScope_by (by decide +kernel)
abbrev s_Rows__init : Stmt := inClass (topS 12) 0
abbrev N_Rows__init : List Str := ["self", "rows", "over"]
theorem sc_Rows__init : FnScope N_Rows__init ["self", "rows", "over"] (fnScope s_Rows__init) := fnScope_by (by decide +kernel)
abbrev s_Rows_things : Stmt := inClass (topS 12) 1
abbrev N_Rows_things : List Str := ["self"]
theorem sc_Rows_things : FnScope N_Rows_things ["self"] (fnScope s_Rows_things) := fnScope_by (by decide +kernel)
abbrev s_Rows_rows : Stmt := inClass (topS 12) 2
abbrev N_Rows_rows : List Str := ["self", "thing"]
theorem sc_Rows_rows : FnScope N_Rows_rows ["self"] (fnScope s_Rows_rows) := fnScope_by (by decide +kernel)
abbrev s_Rows_row : Stmt := inClass (topS 12) 3
abbrev N_Rows_row : List Str := ["self", "thing"]
theorem sc_Rows_row : FnScope N_Rows_row ["self", "thing"] (fnScope s_Rows_row) := fnScope_by (by decide +kernel)
abbrev s_Rows_width : Stmt := inClass (topS 12) 4
abbrev N_Rows_width : List Str := ["self", "row"]
theorem sc_Rows_width : FnScope N_Rows_width ["self"] (fnScope s_Rows_width) := fnScope_by (by decide +kernel)
abbrev s_Rows_over : Stmt := inClass (topS 12) 5
abbrev N_Rows_over : List Str := ["self"]
theorem sc_Rows_over : FnScope N_Rows_over ["self"] (fnScope s_Rows_over) := fnScope_by (by decide +kernel)
abbrev s_Rows__eq : Stmt := inClass (topS 12) 6
abbrev N_Rows__eq : List Str := ["self", "other"]
theorem sc_Rows__eq : FnScope N_Rows__eq ["self", "other"] (fnScope s_Rows__eq) := fnScope_by (by decide +kernel)
abbrev s_checked_rows : Stmt := topS 13
abbrev N_checked_rows : List Str := ["rows", "over", "checked", "things", "thing"]
theorem sc_checked_rows : FnScope N_checked_rows ["rows", "over"] (fnScope s_checked_rows) := fnScope_by (by decide +kernel)
abbrev s_is_row : Stmt := topS 14
abbrev N_is_row : List Str := ["value", "over", "entry"]
theorem sc_is_row : FnScope N_is_row ["value", "over"] (fnScope s_is_row) := fnScope_by (by decide +kernel)
abbrev s_law_state : Stmt := topS 16
abbrev N_law_state : List Str := ["script"]
theorem sc_law_state : FnScope N_law_state ["script"] (fnScope s_law_state) := fnScope_by (by decide +kernel)
abbrev s_law_draw : Stmt := topS 17
abbrev N_law_draw : List Str := ["state", "many", "digit", "cell", "number"]
theorem sc_law_draw : FnScope N_law_draw ["state", "many"] (fnScope s_law_draw) := fnScope_by (by decide +kernel)
abbrev s_law_names : Stmt := topS 18
abbrev N_law_names : List Str := ["state", "many", "found", "k", "name"]
theorem sc_law_names : FnScope N_law_names ["state", "many"] (fnScope s_law_names) := fnScope_by (by decide +kernel)
abbrev s_law_field : Stmt := topS 23
abbrev N_law_field : List Str := ["state"]
theorem sc_law_field : FnScope N_law_field ["state"] (fnScope s_law_field) := fnScope_by (by decide +kernel)
abbrev s_law_rows : Stmt := topS 24
abbrev N_law_rows : List Str := ["state", "things", "width", "over", "found", "thing", "k"]
theorem sc_law_rows : FnScope N_law_rows ["state", "things", "width", "over"] (fnScope s_law_rows) := fnScope_by (by decide +kernel)
abbrev s_law_told : Stmt := topS 25
abbrev N_law_told : List Str := ["rows", "over", "found", "e"]
theorem sc_law_told : FnScope N_law_told ["rows", "over"] (fnScope s_law_told) := fnScope_by (by decide +kernel)
abbrev s_law_wrong_row : Stmt := topS 26
abbrev N_law_wrong_row : List Str := ["state", "width", "over", "some"]
theorem sc_law_wrong_row : FnScope N_law_wrong_row ["state", "width", "over"] (fnScope s_law_wrong_row) := fnScope_by (by decide +kernel)
abbrev s_law_refused : Stmt := topS 27
abbrev N_law_refused : List Str := ["state", "rows", "width", "over", "things", "found", "bad", "k", "at", "key"]
theorem sc_law_refused : FnScope N_law_refused ["state", "rows", "width", "over"] (fnScope s_law_refused) := fnScope_by (by decide +kernel)
abbrev s_law : Stmt := topS 28
abbrev N_law : List Str := ["script", "state", "turn", "over", "things", "width", "rows", "passed", "made", "k", "told", "again", "less", "odd", "e", "many", "wide", "empty_rows", "thing"]
theorem sc_law : FnScope N_law ["script"] (fnScope s_law) := fnScope_by (by decide +kernel)
structure Ad where
  C_LotError : Addr
  C_NoThing : Addr
  C_TooMany : Addr
  C_BadRows : Addr
  C_Rows : Addr
  f_NoThing__init : Addr
  fd_NoThing__init : FuncData
  f_TooMany__init : Addr
  fd_TooMany__init : FuncData
  f_BadRows__init : Addr
  fd_BadRows__init : FuncData
  f_is_integer : Addr
  fd_is_integer : FuncData
  f_is_name : Addr
  fd_is_name : FuncData
  f_Rows__init : Addr
  fd_Rows__init : FuncData
  f_Rows_things : Addr
  fd_Rows_things : FuncData
  f_Rows_rows : Addr
  fd_Rows_rows : FuncData
  f_Rows_row : Addr
  fd_Rows_row : FuncData
  f_Rows_width : Addr
  fd_Rows_width : FuncData
  f_Rows_over : Addr
  fd_Rows_over : FuncData
  f_Rows__eq : Addr
  fd_Rows__eq : FuncData
  f_checked_rows : Addr
  fd_checked_rows : FuncData
  f_is_row : Addr
  fd_is_row : FuncData
  f_law_state : Addr
  fd_law_state : FuncData
  f_law_draw : Addr
  fd_law_draw : FuncData
  f_law_names : Addr
  fd_law_names : FuncData
  f_law_field : Addr
  fd_law_field : FuncData
  f_law_rows : Addr
  fd_law_rows : FuncData
  f_law_told : Addr
  fd_law_told : FuncData
  f_law_wrong_row : Addr
  fd_law_wrong_row : FuncData
  f_law_refused : Addr
  fd_law_refused : FuncData
  f_law : Addr
  fd_law : FuncData
structure Txt (K : PySem.W.Frag) (mg : Str → Option Value) (A : Ad) : Prop where
  gC_LotError : mg "LotError" = some (.ref A.C_LotError)
  gC_NoThing : mg "NoThing" = some (.ref A.C_NoThing)
  gC_TooMany : mg "TooMany" = some (.ref A.C_TooMany)
  gC_BadRows : mg "BadRows" = some (.ref A.C_BadRows)
  gC_Rows : mg "Rows" = some (.ref A.C_Rows)
  u_NoThing__init : C8.Fun K "__init__" "NoThing.__init__" s_NoThing__init A.f_NoThing__init A.fd_NoThing__init
  fi_NoThing__init : PySem.W.findIn K (.ref A.C_NoThing) "__init__" = some (some (.ref A.f_NoThing__init))
  fn_NoThing__init : PySem.W.isFn K (.ref A.f_NoThing__init) = true
  kp_NoThing__init : PySem.W.keepIn K (.ref A.f_NoThing__init) = true
  b_NoThing__init : Binds K A.fd_NoThing__init ["self", "thing"] []
  u_TooMany__init : C8.Fun K "__init__" "TooMany.__init__" s_TooMany__init A.f_TooMany__init A.fd_TooMany__init
  fi_TooMany__init : PySem.W.findIn K (.ref A.C_TooMany) "__init__" = some (some (.ref A.f_TooMany__init))
  fn_TooMany__init : PySem.W.isFn K (.ref A.f_TooMany__init) = true
  kp_TooMany__init : PySem.W.keepIn K (.ref A.f_TooMany__init) = true
  b_TooMany__init : Binds K A.fd_TooMany__init ["self", "limit"] []
  u_BadRows__init : C8.Fun K "__init__" "BadRows.__init__" s_BadRows__init A.f_BadRows__init A.fd_BadRows__init
  fi_BadRows__init : PySem.W.findIn K (.ref A.C_BadRows) "__init__" = some (some (.ref A.f_BadRows__init))
  fn_BadRows__init : PySem.W.isFn K (.ref A.f_BadRows__init) = true
  kp_BadRows__init : PySem.W.keepIn K (.ref A.f_BadRows__init) = true
  b_BadRows__init : Binds K A.fd_BadRows__init ["self", "thing"] []
  d_is_integer : C8.Def K mg "is_integer" s_is_integer A.f_is_integer A.fd_is_integer
  b_is_integer : Binds K A.fd_is_integer ["value"] []
  d_is_name : C8.Def K mg "is_name" s_is_name A.f_is_name A.fd_is_name
  b_is_name : Binds K A.fd_is_name ["value"] []
  u_Rows__init : C8.Fun K "__init__" "Rows.__init__" s_Rows__init A.f_Rows__init A.fd_Rows__init
  fi_Rows__init : PySem.W.findIn K (.ref A.C_Rows) "__init__" = some (some (.ref A.f_Rows__init))
  fn_Rows__init : PySem.W.isFn K (.ref A.f_Rows__init) = true
  kp_Rows__init : PySem.W.keepIn K (.ref A.f_Rows__init) = true
  kb_Rows__init : KBn K A.fd_Rows__init ["self", "rows", "over"] 2 ["over"] (fun us ws => us ++ ws) (fun vs zs => vs ++ zs)
  u_Rows_things : C8.Fun K "things" "Rows.things" s_Rows_things A.f_Rows_things A.fd_Rows_things
  fi_Rows_things : PySem.W.findIn K (.ref A.C_Rows) "things" = some (some (.ref A.f_Rows_things))
  fn_Rows_things : PySem.W.isFn K (.ref A.f_Rows_things) = true
  kp_Rows_things : PySem.W.keepIn K (.ref A.f_Rows_things) = true
  b_Rows_things : Binds K A.fd_Rows_things ["self"] []
  u_Rows_rows : C8.Fun K "rows" "Rows.rows" s_Rows_rows A.f_Rows_rows A.fd_Rows_rows
  fi_Rows_rows : PySem.W.findIn K (.ref A.C_Rows) "rows" = some (some (.ref A.f_Rows_rows))
  fn_Rows_rows : PySem.W.isFn K (.ref A.f_Rows_rows) = true
  kp_Rows_rows : PySem.W.keepIn K (.ref A.f_Rows_rows) = true
  b_Rows_rows : Binds K A.fd_Rows_rows ["self"] []
  u_Rows_row : C8.Fun K "row" "Rows.row" s_Rows_row A.f_Rows_row A.fd_Rows_row
  fi_Rows_row : PySem.W.findIn K (.ref A.C_Rows) "row" = some (some (.ref A.f_Rows_row))
  fn_Rows_row : PySem.W.isFn K (.ref A.f_Rows_row) = true
  kp_Rows_row : PySem.W.keepIn K (.ref A.f_Rows_row) = true
  b_Rows_row : Binds K A.fd_Rows_row ["self", "thing"] []
  u_Rows_width : C8.Fun K "width" "Rows.width" s_Rows_width A.f_Rows_width A.fd_Rows_width
  fi_Rows_width : PySem.W.findIn K (.ref A.C_Rows) "width" = some (some (.ref A.f_Rows_width))
  fn_Rows_width : PySem.W.isFn K (.ref A.f_Rows_width) = true
  kp_Rows_width : PySem.W.keepIn K (.ref A.f_Rows_width) = true
  b_Rows_width : Binds K A.fd_Rows_width ["self"] []
  u_Rows_over : C8.Fun K "over" "Rows.over" s_Rows_over A.f_Rows_over A.fd_Rows_over
  fi_Rows_over : PySem.W.findIn K (.ref A.C_Rows) "over" = some (some (.ref A.f_Rows_over))
  fn_Rows_over : PySem.W.isFn K (.ref A.f_Rows_over) = true
  kp_Rows_over : PySem.W.keepIn K (.ref A.f_Rows_over) = true
  b_Rows_over : Binds K A.fd_Rows_over ["self"] []
  u_Rows__eq : C8.Fun K "__eq__" "Rows.__eq__" s_Rows__eq A.f_Rows__eq A.fd_Rows__eq
  fi_Rows__eq : PySem.W.findIn K (.ref A.C_Rows) "__eq__" = some (some (.ref A.f_Rows__eq))
  fn_Rows__eq : PySem.W.isFn K (.ref A.f_Rows__eq) = true
  kp_Rows__eq : PySem.W.keepIn K (.ref A.f_Rows__eq) = true
  b_Rows__eq : Binds K A.fd_Rows__eq ["self", "other"] []
  d_checked_rows : C8.Def K mg "_checked_rows" s_checked_rows A.f_checked_rows A.fd_checked_rows
  b_checked_rows : Binds K A.fd_checked_rows ["rows", "over"] []
  d_is_row : C8.Def K mg "is_row" s_is_row A.f_is_row A.fd_is_row
  b_is_row : Binds K A.fd_is_row ["value", "over"] []
  d_law_state : C8.Def K mg "_law_state" s_law_state A.f_law_state A.fd_law_state
  b_law_state : Binds K A.fd_law_state ["script"] []
  d_law_draw : C8.Def K mg "_law_draw" s_law_draw A.f_law_draw A.fd_law_draw
  b_law_draw : Binds K A.fd_law_draw ["state", "many"] []
  d_law_names : C8.Def K mg "_law_names" s_law_names A.f_law_names A.fd_law_names
  b_law_names : Binds K A.fd_law_names ["state", "many"] []
  d_law_field : C8.Def K mg "_law_field" s_law_field A.f_law_field A.fd_law_field
  b_law_field : Binds K A.fd_law_field ["state"] []
  d_law_rows : C8.Def K mg "_law_rows" s_law_rows A.f_law_rows A.fd_law_rows
  b_law_rows : Binds K A.fd_law_rows ["state", "things", "width", "over"] []
  d_law_told : C8.Def K mg "_law_told" s_law_told A.f_law_told A.fd_law_told
  b_law_told : Binds K A.fd_law_told ["rows", "over"] []
  d_law_wrong_row : C8.Def K mg "_law_wrong_row" s_law_wrong_row A.f_law_wrong_row A.fd_law_wrong_row
  b_law_wrong_row : Binds K A.fd_law_wrong_row ["state", "width", "over"] []
  d_law_refused : C8.Def K mg "_law_refused" s_law_refused A.f_law_refused A.fd_law_refused
  b_law_refused : Binds K A.fd_law_refused ["state", "rows", "width", "over"] []
  d_law : C8.Def K mg "law" s_law A.f_law A.fd_law
  b_law : Binds K A.fd_law ["script"] []
  cl_Rows : Cls K A.C_Rows
  mk_Rows : PySem.W.makesIn K A.C_Rows = true
  kc_Rows : PySem.W.keepIn K (.ref A.C_Rows) = true
  na_Rows__rows : NoAttr K A.C_Rows "_rows"
  na_Rows__over : NoAttr K A.C_Rows "_over"
  wc_Rows : PySem.W.findIn K (.ref A.C_Rows) "__class__" = some (some (.builtin "object.__class__"))
  wg_Rows : PySem.W.specialIn K (.builtin "object.__class__") "__get__" = some (some (.builtin "getset_descriptor.__get__"))
  wt_Rows : PySem.W.takesIn K (.builtin "object.__class__") = some true
  wm_Rows : PySem.W.mroIn K A.C_Rows (.type "object") = some true
  wk_Rows : PySem.W.kitOne K (.ref A.C_Rows) (.ref A.C_Rows) = some true
  nc_Rows : NeC K A.C_Rows A.f_Rows__eq
  ox_NoThing : OexC K A.C_NoThing
  xf_NoThing : XfC K A.C_NoThing
  nx_NoThing_thing : PySem.W.findIn K (.ref A.C_NoThing) "thing" = some none
  ox_TooMany : OexC K A.C_TooMany
  xf_TooMany : XfC K A.C_TooMany
  nx_TooMany_limit : PySem.W.findIn K (.ref A.C_TooMany) "limit" = some none
  ox_BadRows : OexC K A.C_BadRows
  xf_BadRows : XfC K A.C_BadRows
  nx_BadRows_thing : PySem.W.findIn K (.ref A.C_BadRows) "thing" = some none
  xm_BadRows_BadRows : PySem.W.exmOne K (.ref A.C_BadRows) (.ref A.C_BadRows) = some true
  xm_TooMany_BadRows : PySem.W.exmOne K (.ref A.C_TooMany) (.ref A.C_BadRows) = some false
  xm_TooMany_TooMany : PySem.W.exmOne K (.ref A.C_TooMany) (.ref A.C_TooMany) = some true
  xm_NoThing_NoThing : PySem.W.exmOne K (.ref A.C_NoThing) (.ref A.C_NoThing) = some true
  is_BadRows : IsC K A.C_BadRows
  ky_BadRows_LotError : PySem.W.kitOne K (.ref A.C_BadRows) (.ref A.C_LotError) = some true
  ky_int_Rows : PySem.W.kitOne K (.type "int") (.ref A.C_Rows) = some false
  ky_dict_Rows : PySem.W.kitOne K (.type "dict") (.ref A.C_Rows) = some false
  nf_int_Rows : PySem.W.notFirst K A.C_Rows (.type "int") = true
  nf_dict_Rows : PySem.W.notFirst K A.C_Rows (.type "dict") = true
  z_all : mg "all" = none
  z_bool : mg "bool" = none
  z_dict : mg "dict" = none
  z_int : mg "int" = none
  z_isinstance : mg "isinstance" = none
  z_len : mg "len" = none
  z_list : mg "list" = none
  z_max : mg "max" = none
  z_min : mg "min" = none
  z_range : mg "range" = none
  z_sorted : mg "sorted" = none
  z_str : mg "str" = none
  g_LONGEST_NAME : ∃ t, mg "LONGEST_NAME" = some (.int 8 t)
  g_MOST_THINGS : ∃ t, mg "MOST_THINGS" = some (.int 24 t)
  g_GREATEST_WIDTH : ∃ t, mg "GREATEST_WIDTH" = some (.int 24 t)
section
variable {P : Program} {w : World} {K : PySem.W.Frag} {mg : Str → Option Value} {base : Heap} {A : Ad}
theorem cal_law_state (T : Txt K mg A) : Cal P w K mg base 1 "_law_state" (spState K) [] := by
  refine cal0 T.d_law_state T.b_law_state .nil sc_law_state (fun vs H Q E h => ?_) (fun cdv B outer s H vs Q E hr h => ?_)
  · obtain ⟨a, ns, rfl, _⟩ := h
    rfl
  · obtain ⟨a, ns, rfl, ha, hn, k⟩ := h
    refine ⟨_, (pss_one (ps_ret (pe_lst (pa_cons (pe_callTy (listK K) (by rfl) T.z_list (by decide +kernel) (pa_cons (pv 0) pa_nil)) (pa_cons pe_int (pa_cons pe_int (pa_cons pe_int (pa_cons pe_int (pa_cons pe_int pa_nil))))))))), ?_⟩
    (repeat (first | refine ⟨_, rfl, ?_⟩ | refine ⟨rfl, ?_⟩ | refine ⟨_, _, rfl, rfl, ?_⟩ | refine iteT ?_ | refine iteF ?_ | refine ⟨(by show (0 : Int) < _; omega), ?_⟩ | refine ⟨(⟨by omega, by omega⟩ : CDiv _ _), ?_⟩ | refine ⟨(⟨by decide, by decide, by decide⟩ : CPow _ _), ?_⟩ | refine ⟨(.inl ⟨by omega, by omega⟩ : CMul _ _), ?_⟩ | refine ⟨(.inr ⟨by omega, by omega⟩ : CMul _ _), ?_⟩ | refine Or.inl ⟨_, rfl, ?_⟩ | refine Or.inr ⟨_, rfl, ?_⟩ | refine ⟨_, _, _, _, true, rfl, .ty _, .base (.str _), kit_ty (by decide +kernel), ?_⟩ | refine ⟨_, _, rfl, ⟨by rw [sizeLine_eq]; omega, rfl⟩, ?_⟩ | refine ⟨_, _, rfl, .inl ⟨_, SqL.of (by assumption), rfl⟩, ?_⟩ | refine ⟨_, _, rfl, .inr ⟨_, SqT.of (by assumption), rfl⟩, ?_⟩))
    refine ⟨a, _, rfl, .inl ha, fun c nc => ?_⟩
    (repeat (first | refine ⟨_, rfl, ?_⟩ | refine ⟨rfl, ?_⟩ | refine ⟨_, _, rfl, rfl, ?_⟩ | refine iteT ?_ | refine iteF ?_ | refine ⟨(by show (0 : Int) < _; omega), ?_⟩ | refine ⟨(⟨by omega, by omega⟩ : CDiv _ _), ?_⟩ | refine ⟨(⟨by decide, by decide, by decide⟩ : CPow _ _), ?_⟩ | refine ⟨(.inl ⟨by omega, by omega⟩ : CMul _ _), ?_⟩ | refine ⟨(.inr ⟨by omega, by omega⟩ : CMul _ _), ?_⟩ | refine Or.inl ⟨_, rfl, ?_⟩ | refine Or.inr ⟨_, rfl, ?_⟩ | refine ⟨_, _, _, _, true, rfl, .ty _, .base (.str _), kit_ty (by decide +kernel), ?_⟩ | refine ⟨_, _, rfl, ⟨by rw [sizeLine_eq]; omega, rfl⟩, ?_⟩ | refine ⟨_, _, rfl, .inl ⟨_, SqL.of (by assumption), rfl⟩, ?_⟩ | refine ⟨_, _, rfl, .inr ⟨_, SqT.of (by assumption), rfl⟩, ?_⟩))
    refine ⟨(by show 6 ≤ sizeLine; rw [sizeLine_eq]; omega), fun w nw => ?_⟩
    have nw0 : H w = none := (Same.new nc).free nw
    have cw : c ≠ w := fun e => by rw [← e, upd_same] at nw; cases nw
    exact k w c _ nw0 nc ((Same.new nc).trans (Same.new nw)) ⟨⟨0, 0, 0, 0, 0, upd_same⟩, ns, by rw [upd_ne cw]; exact upd_same, by omega⟩
theorem cal_law_draw (T : Txt K mg A) : Cal P w K mg base 1 "_law_draw" spDrawS [] := by
  refine cal0 T.d_law_draw T.b_law_draw .nil sc_law_draw (fun vs H Q E h => ?_) (fun cdv B outer s H vs Q E hr h => ?_)
  · obtain ⟨x, c, m, rfl, _⟩ := h
    rfl
  · obtain ⟨wl, c, m, rfl, hS, h1, h2, k⟩ := h
    refine ⟨_, (pss_cons (ps_if (PW.pt (pw_and (pt_cmpR op_gt (pe_ix (ixLK K) (pv 0) pe_int (fun _ _ => rfl)) pe_int (nomark _)) (pw_and1 (pt_cmpR op_lt (pe_ix (ixLK K) (pv 0) pe_int (fun _ _ => rfl)) pe_int (nomark _))))) (pss_cons (ps_set (i := 2) sc_law_draw.nd rfl (by first | exact Or.inl rfl | exact Or.inr rfl) (pe_op op_mod (pe_callTy call_int1 (by rfl) T.z_int (by decide +kernel) (pa_cons (pe_ix (ixLK K) (pv 0) pe_int (fun _ _ => rfl)) pa_nil)) (pv 1)))
 (pss_cons (ps_asg (pe_op op_fdiv (pe_ix (ixLK K) (pv 0) pe_int (fun _ _ => rfl)) (pv 1)) (pg_sub (pv 0) pe_int set_list))
 (pss_cons (ps_asg (pe_op op_add (pe_ix (ixLK K) (pv 0) pe_int (fun _ _ => rfl)) pe_int) (pg_sub (pv 0) pe_int set_list))
 (pss_one (ps_ret (pv 2)))))) pss_nil)
 (pss_cons (ps_asg (pe_op op_add (pe_ix (ixLK K) (pv 0) pe_int (fun _ _ => rfl)) pe_int) (pg_sub (pv 0) pe_int set_list))
 (pss_cons (ps_if (pt_cmpR op_lt (pe_ix (ixLK K) (pv 0) pe_int (fun _ _ => rfl)) (pe_callB (lenK K) (by rfl) T.z_len (by decide +kernel) (pa_cons (pe_ix (ixLK K) (pv 0) pe_int (fun _ _ => rfl)) pa_nil)) (nomark _)) (pss_cons (ps_set (i := 3) sc_law_draw.nd rfl (by first | exact Or.inl rfl | exact Or.inr rfl) (pe_ix (ixLK K) (pe_ix (ixLK K) (pv 0) pe_int (fun _ _ => rfl)) (pe_ix (ixLK K) (pv 0) pe_int (fun _ _ => rfl)) (fun _ _ => rfl)))
 (pss_cons (ps_asg (pe_op op_add (pe_ix (ixLK K) (pv 0) pe_int (fun _ _ => rfl)) pe_int) (pg_sub (pv 0) pe_int set_list))
 (pss_cons (ps_asg (pe_op op_mod (pe_op op_add (pe_op op_mul (pe_ix (ixLK K) (pv 0) pe_int (fun _ _ => rfl)) pe_int) (pe_callTy call_int1 (by rfl) T.z_int (by decide +kernel) (pa_cons (pv 3) pa_nil))) (pe_op op_pow pe_int pe_int)) (pg_sub (pv 0) pe_int set_list))
 (pss_one (ps_if (pt_cmpR op_ge (pv 3) (pe_op op_pow pe_int pe_int) (nomark _)) (pss_cons (ps_asg (pe_op op_fdiv (pv 3) (pv 1)) (pg_sub (pv 0) pe_int set_list))
 (pss_cons (ps_asg pe_int (pg_sub (pv 0) pe_int set_list))
 (pss_one (ps_ret (pe_op op_mod (pe_callTy call_int1 (by rfl) T.z_int (by decide +kernel) (pa_cons (pv 3) pa_nil)) (pv 1)))))) pss_nil))))) pss_nil)
 (pss_cons (ps_set (i := 4) sc_law_draw.nd rfl (by first | exact Or.inl rfl | exact Or.inr rfl) (pe_op op_mod (pe_op op_mul (pe_op op_add (pe_op op_add (pe_op op_mul (pe_callTy call_int1 (by rfl) T.z_int (by decide +kernel) (pa_cons (pe_ix (ixLK K) (pv 0) pe_int (fun _ _ => rfl)) pa_nil)) pe_int) (pe_op op_mul pe_int (pe_ix (ixLK K) (pv 0) pe_int (fun _ _ => rfl)))) pe_int) pe_int) pe_int))
 (pss_cons (ps_set (i := 4) sc_law_draw.nd rfl (by first | exact Or.inl rfl | exact Or.inr rfl) (pe_op op_mod (pe_op op_mul (pv 4) (pe_op op_add (pe_op op_fdiv (pv 4) pe_int) pe_int)) pe_int))
 (pss_cons (ps_set (i := 4) sc_law_draw.nd rfl (by first | exact Or.inl rfl | exact Or.inr rfl) (pe_op op_mod (pe_op op_mul (pv 4) (pe_op op_add (pe_op op_fdiv (pv 4) pe_int) pe_int)) pe_int))
 (pss_one (ps_ret (pe_op op_mod (pe_callTy call_int1 (by rfl) T.z_int (by decide +kernel) (pa_cons (pv 4) pa_nil)) (pv 1)))))))))), ?_⟩
    obtain ⟨⟨i, x, y, z, u, hw⟩, ns, hc, hl⟩ := id hS
    have hi : ∀ {j : Nat}, j < ns.length → atI (ns.map V.int) ((j : Nat) : Int) = some (V.int (ns.getD j 0)) := fun {j} h => atI_nat (by rw [List.getElem?_map, List.getElem?_eq_getElem h, List.getD_eq_getElem?_getD, List.getElem?_eq_getElem h]; rfl)
    have cw := hS.cw
    have fin : ∀ {G : Hp} {j : Nat} {x' y' z' u' : Int} {n : Int}, (∀ b o, b ≠ wl → H b = some o → G b = some o) → G wl = some (.lst [.ref c, .int (j : Nat), .int x', .int y', .int z', .int u']) → 0 ≤ n → n < m → Q (.int n) G :=
      fun {G j x' y' z' u' n} fr e a b => k n G a b ⟨fr, fun _ => ⟨⟨j, x', y', z', u', e⟩, ns, fr _ _ cw hc, hl⟩⟩
    (repeat (first | refine ⟨_, rfl, ?_⟩ | refine ⟨rfl, ?_⟩ | refine ⟨_, _, rfl, rfl, ?_⟩ | refine iteT ?_ | refine iteF ?_ | refine ⟨(by show (0 : Int) < _; omega), ?_⟩ | refine ⟨(⟨by omega, by omega⟩ : CDiv _ _), ?_⟩ | refine ⟨(⟨by decide, by decide, by decide⟩ : CPow _ _), ?_⟩ | refine ⟨(.inl ⟨by omega, by omega⟩ : CMul _ _), ?_⟩ | refine ⟨(.inr ⟨by omega, by omega⟩ : CMul _ _), ?_⟩ | refine Or.inl ⟨_, rfl, ?_⟩ | refine Or.inr ⟨_, rfl, ?_⟩ | refine ⟨_, _, _, _, true, rfl, .ty _, .base (.str _), kit_ty (by decide +kernel), ?_⟩ | refine ⟨_, _, rfl, ⟨by rw [sizeLine_eq]; omega, rfl⟩, ?_⟩ | refine ⟨_, _, rfl, .inl ⟨_, SqL.of (by assumption), rfl⟩, ?_⟩ | refine ⟨_, _, rfl, .inr ⟨_, SqT.of (by assumption), rfl⟩, ?_⟩ | refine ⟨_, _, _, _, rfl, rfl, SqL.of hw, rfl, ?_⟩))
    refine ite2 (fun c1 => ?_) (fun c1 => ?_)
    · (repeat (first | refine ⟨_, rfl, ?_⟩ | refine ⟨rfl, ?_⟩ | refine ⟨_, _, rfl, rfl, ?_⟩ | refine iteT ?_ | refine iteF ?_ | refine ⟨(by show (0 : Int) < _; omega), ?_⟩ | refine ⟨(⟨by omega, by omega⟩ : CDiv _ _), ?_⟩ | refine ⟨(⟨by decide, by decide, by decide⟩ : CPow _ _), ?_⟩ | refine ⟨(.inl ⟨by omega, by omega⟩ : CMul _ _), ?_⟩ | refine ⟨(.inr ⟨by omega, by omega⟩ : CMul _ _), ?_⟩ | refine Or.inl ⟨_, rfl, ?_⟩ | refine Or.inr ⟨_, rfl, ?_⟩ | refine ⟨_, _, _, _, true, rfl, .ty _, .base (.str _), kit_ty (by decide +kernel), ?_⟩ | refine ⟨_, _, rfl, ⟨by rw [sizeLine_eq]; omega, rfl⟩, ?_⟩ | refine ⟨_, _, rfl, .inl ⟨_, SqL.of (by assumption), rfl⟩, ?_⟩ | refine ⟨_, _, rfl, .inr ⟨_, SqT.of (by assumption), rfl⟩, ?_⟩ | refine ⟨_, _, _, _, rfl, rfl, SqL.of hw, rfl, ?_⟩))
      refine ite2 (fun c2 => ?_) (fun c2 => ?_)
      · (repeat (first | refine ⟨_, rfl, ?_⟩ | refine ⟨rfl, ?_⟩ | refine ⟨_, _, rfl, rfl, ?_⟩ | refine iteT ?_ | refine iteF ?_ | refine ⟨(by show (0 : Int) < _; omega), ?_⟩ | refine ⟨(⟨by omega, by omega⟩ : CDiv _ _), ?_⟩ | refine ⟨(⟨by decide, by decide, by decide⟩ : CPow _ _), ?_⟩ | refine ⟨(.inl ⟨by omega, by omega⟩ : CMul _ _), ?_⟩ | refine ⟨(.inr ⟨by omega, by omega⟩ : CMul _ _), ?_⟩ | refine Or.inl ⟨_, rfl, ?_⟩ | refine Or.inr ⟨_, rfl, ?_⟩ | refine ⟨_, _, _, _, true, rfl, .ty _, .base (.str _), kit_ty (by decide +kernel), ?_⟩ | refine ⟨_, _, rfl, ⟨by rw [sizeLine_eq]; omega, rfl⟩, ?_⟩ | refine ⟨_, _, rfl, .inl ⟨_, SqL.of (by assumption), rfl⟩, ?_⟩ | refine ⟨_, _, rfl, .inr ⟨_, SqT.of (by assumption), rfl⟩, ?_⟩ | refine ⟨_, _, _, _, rfl, rfl, SqL.of hw, rfl, ?_⟩))
        refine ⟨wl, _, _, 2, rfl, rfl, hw, rfl, ?_⟩
        generalize hG : upd _ wl (.lst _) = G1
        have G1f : ∀ b o, b ≠ wl → H b = some o → G1 b = some o := fun b o n e => by rw [← hG, upd_ne n]; exact e
        replace hw : G1 wl = some (.lst [.ref c, .int (i : Nat), .int (x / m), .int y, .int z, .int u]) := by rw [← hG]; exact upd_same
        clear hG
        (repeat (first | refine ⟨_, rfl, ?_⟩ | refine ⟨rfl, ?_⟩ | refine ⟨_, _, rfl, rfl, ?_⟩ | refine iteT ?_ | refine iteF ?_ | refine ⟨(by show (0 : Int) < _; omega), ?_⟩ | refine ⟨(⟨by omega, by omega⟩ : CDiv _ _), ?_⟩ | refine ⟨(⟨by decide, by decide, by decide⟩ : CPow _ _), ?_⟩ | refine ⟨(.inl ⟨by omega, by omega⟩ : CMul _ _), ?_⟩ | refine ⟨(.inr ⟨by omega, by omega⟩ : CMul _ _), ?_⟩ | refine Or.inl ⟨_, rfl, ?_⟩ | refine Or.inr ⟨_, rfl, ?_⟩ | refine ⟨_, _, _, _, true, rfl, .ty _, .base (.str _), kit_ty (by decide +kernel), ?_⟩ | refine ⟨_, _, rfl, ⟨by rw [sizeLine_eq]; omega, rfl⟩, ?_⟩ | refine ⟨_, _, rfl, .inl ⟨_, SqL.of (by assumption), rfl⟩, ?_⟩ | refine ⟨_, _, rfl, .inr ⟨_, SqT.of (by assumption), rfl⟩, ?_⟩ | refine ⟨_, _, _, _, rfl, rfl, SqL.of hw, rfl, ?_⟩))
        refine ⟨wl, _, _, 3, rfl, rfl, hw, rfl, ?_⟩
        generalize hG : upd _ wl (.lst _) = G2
        have G2f : ∀ b o, b ≠ wl → H b = some o → G2 b = some o := fun b o n e => by rw [← hG, upd_ne n]; exact G1f b o n e
        replace hw : G2 wl = some (.lst [.ref c, .int (i : Nat), .int (x / m), .int (y + 1), .int z, .int u]) := by rw [← hG]; exact upd_same
        clear hG
        (repeat (first | refine ⟨_, rfl, ?_⟩ | refine ⟨rfl, ?_⟩ | refine ⟨_, _, rfl, rfl, ?_⟩ | refine iteT ?_ | refine iteF ?_ | refine ⟨(by show (0 : Int) < _; omega), ?_⟩ | refine ⟨(⟨by omega, by omega⟩ : CDiv _ _), ?_⟩ | refine ⟨(⟨by decide, by decide, by decide⟩ : CPow _ _), ?_⟩ | refine ⟨(.inl ⟨by omega, by omega⟩ : CMul _ _), ?_⟩ | refine ⟨(.inr ⟨by omega, by omega⟩ : CMul _ _), ?_⟩ | refine Or.inl ⟨_, rfl, ?_⟩ | refine Or.inr ⟨_, rfl, ?_⟩ | refine ⟨_, _, _, _, true, rfl, .ty _, .base (.str _), kit_ty (by decide +kernel), ?_⟩ | refine ⟨_, _, rfl, ⟨by rw [sizeLine_eq]; omega, rfl⟩, ?_⟩ | refine ⟨_, _, rfl, .inl ⟨_, SqL.of (by assumption), rfl⟩, ?_⟩ | refine ⟨_, _, rfl, .inr ⟨_, SqT.of (by assumption), rfl⟩, ?_⟩ | refine ⟨_, _, _, _, rfl, rfl, SqL.of hw, rfl, ?_⟩))
        exact fin G2f hw (Int.emod_nonneg _ (by omega)) (Int.emod_lt_of_pos _ (by omega))
      ·
        (repeat (first | refine ⟨_, rfl, ?_⟩ | refine ⟨rfl, ?_⟩ | refine ⟨_, _, rfl, rfl, ?_⟩ | refine iteT ?_ | refine iteF ?_ | refine ⟨(by show (0 : Int) < _; omega), ?_⟩ | refine ⟨(⟨by omega, by omega⟩ : CDiv _ _), ?_⟩ | refine ⟨(⟨by decide, by decide, by decide⟩ : CPow _ _), ?_⟩ | refine ⟨(.inl ⟨by omega, by omega⟩ : CMul _ _), ?_⟩ | refine ⟨(.inr ⟨by omega, by omega⟩ : CMul _ _), ?_⟩ | refine Or.inl ⟨_, rfl, ?_⟩ | refine Or.inr ⟨_, rfl, ?_⟩ | refine ⟨_, _, _, _, true, rfl, .ty _, .base (.str _), kit_ty (by decide +kernel), ?_⟩ | refine ⟨_, _, rfl, ⟨by rw [sizeLine_eq]; omega, rfl⟩, ?_⟩ | refine ⟨_, _, rfl, .inl ⟨_, SqL.of (by assumption), rfl⟩, ?_⟩ | refine ⟨_, _, rfl, .inr ⟨_, SqT.of (by assumption), rfl⟩, ?_⟩ | refine ⟨_, _, _, _, rfl, rfl, SqL.of hw, rfl, ?_⟩))
        refine ⟨wl, _, _, 4, rfl, rfl, hw, rfl, ?_⟩
        generalize hG : upd _ wl (.lst _) = G1
        have G1f : ∀ b o, b ≠ wl → H b = some o → G1 b = some o := fun b o n e => by rw [← hG, upd_ne n]; exact e
        replace hw : G1 wl = some (.lst [.ref c, .int (i : Nat), .int x, .int y, .int (z + 1), .int u]) := by rw [← hG]; exact upd_same
        clear hG
        have hc1 := G1f _ _ cw hc
        (repeat (first | refine ⟨_, rfl, ?_⟩ | refine ⟨rfl, ?_⟩ | refine ⟨_, _, rfl, rfl, ?_⟩ | refine iteT ?_ | refine iteF ?_ | refine ⟨(by show (0 : Int) < _; omega), ?_⟩ | refine ⟨(⟨by omega, by omega⟩ : CDiv _ _), ?_⟩ | refine ⟨(⟨by decide, by decide, by decide⟩ : CPow _ _), ?_⟩ | refine ⟨(.inl ⟨by omega, by omega⟩ : CMul _ _), ?_⟩ | refine ⟨(.inr ⟨by omega, by omega⟩ : CMul _ _), ?_⟩ | refine Or.inl ⟨_, rfl, ?_⟩ | refine Or.inr ⟨_, rfl, ?_⟩ | refine ⟨_, _, _, _, true, rfl, .ty _, .base (.str _), kit_ty (by decide +kernel), ?_⟩ | refine ⟨_, _, rfl, ⟨by rw [sizeLine_eq]; omega, rfl⟩, ?_⟩ | refine ⟨_, _, rfl, .inl ⟨_, SqL.of (by assumption), rfl⟩, ?_⟩ | refine ⟨_, _, rfl, .inr ⟨_, SqT.of (by assumption), rfl⟩, ?_⟩ | refine ⟨_, _, _, _, rfl, rfl, SqL.of hw, rfl, ?_⟩))
        by_cases hlen : (i : Int) < ((ns.map V.int).length : Int)
        · rw [decide_eq_true hlen]
          rw [List.length_map] at hlen
          have hin : i < ns.length := by omega
          (repeat (first | refine ⟨_, rfl, ?_⟩ | refine ⟨rfl, ?_⟩ | refine ⟨_, _, rfl, rfl, ?_⟩ | refine iteT ?_ | refine iteF ?_ | refine ⟨(by show (0 : Int) < _; omega), ?_⟩ | refine ⟨(⟨by omega, by omega⟩ : CDiv _ _), ?_⟩ | refine ⟨(⟨by decide, by decide, by decide⟩ : CPow _ _), ?_⟩ | refine ⟨(.inl ⟨by omega, by omega⟩ : CMul _ _), ?_⟩ | refine ⟨(.inr ⟨by omega, by omega⟩ : CMul _ _), ?_⟩ | refine Or.inl ⟨_, rfl, ?_⟩ | refine Or.inr ⟨_, rfl, ?_⟩ | refine ⟨_, _, _, _, true, rfl, .ty _, .base (.str _), kit_ty (by decide +kernel), ?_⟩ | refine ⟨_, _, rfl, ⟨by rw [sizeLine_eq]; omega, rfl⟩, ?_⟩ | refine ⟨_, _, rfl, .inl ⟨_, SqL.of (by assumption), rfl⟩, ?_⟩ | refine ⟨_, _, rfl, .inr ⟨_, SqT.of (by assumption), rfl⟩, ?_⟩ | refine ⟨_, _, _, _, rfl, rfl, SqL.of hw, rfl, ?_⟩))
          refine ⟨c, _, _, _, rfl, rfl, SqL.of hc1, hi hin, ?_⟩
          (repeat (first | refine ⟨_, rfl, ?_⟩ | refine ⟨rfl, ?_⟩ | refine ⟨_, _, rfl, rfl, ?_⟩ | refine iteT ?_ | refine iteF ?_ | refine ⟨(by show (0 : Int) < _; omega), ?_⟩ | refine ⟨(⟨by omega, by omega⟩ : CDiv _ _), ?_⟩ | refine ⟨(⟨by decide, by decide, by decide⟩ : CPow _ _), ?_⟩ | refine ⟨(.inl ⟨by omega, by omega⟩ : CMul _ _), ?_⟩ | refine ⟨(.inr ⟨by omega, by omega⟩ : CMul _ _), ?_⟩ | refine Or.inl ⟨_, rfl, ?_⟩ | refine Or.inr ⟨_, rfl, ?_⟩ | refine ⟨_, _, _, _, true, rfl, .ty _, .base (.str _), kit_ty (by decide +kernel), ?_⟩ | refine ⟨_, _, rfl, ⟨by rw [sizeLine_eq]; omega, rfl⟩, ?_⟩ | refine ⟨_, _, rfl, .inl ⟨_, SqL.of (by assumption), rfl⟩, ?_⟩ | refine ⟨_, _, rfl, .inr ⟨_, SqT.of (by assumption), rfl⟩, ?_⟩ | refine ⟨_, _, _, _, rfl, rfl, SqL.of hw, rfl, ?_⟩))
          refine ⟨wl, _, _, 1, rfl, rfl, hw, rfl, ?_⟩
          generalize hG : upd _ wl (.lst _) = G2
          have G2f : ∀ b o, b ≠ wl → H b = some o → G2 b = some o := fun b o n e => by rw [← hG, upd_ne n]; exact G1f b o n e
          replace hw : G2 wl = some (.lst [.ref c, .int ((i + 1 : Nat) : Int), .int x, .int y, .int (z + 1), .int u]) := by rw [← hG]; exact upd_same
          clear hG
          (repeat (first | refine ⟨_, rfl, ?_⟩ | refine ⟨rfl, ?_⟩ | refine ⟨_, _, rfl, rfl, ?_⟩ | refine iteT ?_ | refine iteF ?_ | refine ⟨(by show (0 : Int) < _; omega), ?_⟩ | refine ⟨(⟨by omega, by omega⟩ : CDiv _ _), ?_⟩ | refine ⟨(⟨by decide, by decide, by decide⟩ : CPow _ _), ?_⟩ | refine ⟨(.inl ⟨by omega, by omega⟩ : CMul _ _), ?_⟩ | refine ⟨(.inr ⟨by omega, by omega⟩ : CMul _ _), ?_⟩ | refine Or.inl ⟨_, rfl, ?_⟩ | refine Or.inr ⟨_, rfl, ?_⟩ | refine ⟨_, _, _, _, true, rfl, .ty _, .base (.str _), kit_ty (by decide +kernel), ?_⟩ | refine ⟨_, _, rfl, ⟨by rw [sizeLine_eq]; omega, rfl⟩, ?_⟩ | refine ⟨_, _, rfl, .inl ⟨_, SqL.of (by assumption), rfl⟩, ?_⟩ | refine ⟨_, _, rfl, .inr ⟨_, SqT.of (by assumption), rfl⟩, ?_⟩ | refine ⟨_, _, _, _, rfl, rfl, SqL.of hw, rfl, ?_⟩))
          refine ⟨(by show (0 : Int) < 10 ^ Int.toNat 18; decide), ?_⟩
          (repeat (first | refine ⟨_, rfl, ?_⟩ | refine ⟨rfl, ?_⟩ | refine ⟨_, _, rfl, rfl, ?_⟩ | refine iteT ?_ | refine iteF ?_ | refine ⟨(by show (0 : Int) < _; omega), ?_⟩ | refine ⟨(⟨by omega, by omega⟩ : CDiv _ _), ?_⟩ | refine ⟨(⟨by decide, by decide, by decide⟩ : CPow _ _), ?_⟩ | refine ⟨(.inl ⟨by omega, by omega⟩ : CMul _ _), ?_⟩ | refine ⟨(.inr ⟨by omega, by omega⟩ : CMul _ _), ?_⟩ | refine Or.inl ⟨_, rfl, ?_⟩ | refine Or.inr ⟨_, rfl, ?_⟩ | refine ⟨_, _, _, _, true, rfl, .ty _, .base (.str _), kit_ty (by decide +kernel), ?_⟩ | refine ⟨_, _, rfl, ⟨by rw [sizeLine_eq]; omega, rfl⟩, ?_⟩ | refine ⟨_, _, rfl, .inl ⟨_, SqL.of (by assumption), rfl⟩, ?_⟩ | refine ⟨_, _, rfl, .inr ⟨_, SqT.of (by assumption), rfl⟩, ?_⟩ | refine ⟨_, _, _, _, rfl, rfl, SqL.of hw, rfl, ?_⟩))
          refine ⟨wl, _, _, 5, rfl, rfl, hw, rfl, ?_⟩
          generalize hG : upd _ wl (.lst _) = G3
          have G3f : ∀ b o, b ≠ wl → H b = some o → G3 b = some o := fun b o n e => by rw [← hG, upd_ne n]; exact G2f b o n e
          replace hw : G3 wl = some (.lst [.ref c, .int ((i + 1 : Nat) : Int), .int x, .int y, .int (z + 1), .int ((u * 31 + ns.getD i 0) % 10 ^ 18)]) := by rw [← hG]; exact upd_same
          clear hG
          (repeat (first | refine ⟨_, rfl, ?_⟩ | refine ⟨rfl, ?_⟩ | refine ⟨_, _, rfl, rfl, ?_⟩ | refine iteT ?_ | refine iteF ?_ | refine ⟨(by show (0 : Int) < _; omega), ?_⟩ | refine ⟨(⟨by omega, by omega⟩ : CDiv _ _), ?_⟩ | refine ⟨(⟨by decide, by decide, by decide⟩ : CPow _ _), ?_⟩ | refine ⟨(.inl ⟨by omega, by omega⟩ : CMul _ _), ?_⟩ | refine ⟨(.inr ⟨by omega, by omega⟩ : CMul _ _), ?_⟩ | refine Or.inl ⟨_, rfl, ?_⟩ | refine Or.inr ⟨_, rfl, ?_⟩ | refine ⟨_, _, _, _, true, rfl, .ty _, .base (.str _), kit_ty (by decide +kernel), ?_⟩ | refine ⟨_, _, rfl, ⟨by rw [sizeLine_eq]; omega, rfl⟩, ?_⟩ | refine ⟨_, _, rfl, .inl ⟨_, SqL.of (by assumption), rfl⟩, ?_⟩ | refine ⟨_, _, rfl, .inr ⟨_, SqT.of (by assumption), rfl⟩, ?_⟩ | refine ⟨_, _, _, _, rfl, rfl, SqL.of hw, rfl, ?_⟩))
          refine ite2 (fun c3 => ?_) (fun c3 => ?_)
          · (repeat (first | refine ⟨_, rfl, ?_⟩ | refine ⟨rfl, ?_⟩ | refine ⟨_, _, rfl, rfl, ?_⟩ | refine iteT ?_ | refine iteF ?_ | refine ⟨(by show (0 : Int) < _; omega), ?_⟩ | refine ⟨(⟨by omega, by omega⟩ : CDiv _ _), ?_⟩ | refine ⟨(⟨by decide, by decide, by decide⟩ : CPow _ _), ?_⟩ | refine ⟨(.inl ⟨by omega, by omega⟩ : CMul _ _), ?_⟩ | refine ⟨(.inr ⟨by omega, by omega⟩ : CMul _ _), ?_⟩ | refine Or.inl ⟨_, rfl, ?_⟩ | refine Or.inr ⟨_, rfl, ?_⟩ | refine ⟨_, _, _, _, true, rfl, .ty _, .base (.str _), kit_ty (by decide +kernel), ?_⟩ | refine ⟨_, _, rfl, ⟨by rw [sizeLine_eq]; omega, rfl⟩, ?_⟩ | refine ⟨_, _, rfl, .inl ⟨_, SqL.of (by assumption), rfl⟩, ?_⟩ | refine ⟨_, _, rfl, .inr ⟨_, SqT.of (by assumption), rfl⟩, ?_⟩ | refine ⟨_, _, _, _, rfl, rfl, SqL.of hw, rfl, ?_⟩))
            refine ⟨wl, _, _, 2, rfl, rfl, hw, rfl, ?_⟩
            generalize hG : upd _ wl (.lst _) = G4
            have G4f : ∀ b o, b ≠ wl → H b = some o → G4 b = some o := fun b o n e => by rw [← hG, upd_ne n]; exact G3f b o n e
            replace hw : G4 wl = some (.lst [.ref c, .int ((i + 1 : Nat) : Int), .int (ns.getD i 0 / m), .int y, .int (z + 1), .int ((u * 31 + ns.getD i 0) % 10 ^ 18)]) := by rw [← hG]; exact upd_same
            clear hG
            (repeat (first | refine ⟨_, rfl, ?_⟩ | refine ⟨rfl, ?_⟩ | refine ⟨_, _, rfl, rfl, ?_⟩ | refine iteT ?_ | refine iteF ?_ | refine ⟨(by show (0 : Int) < _; omega), ?_⟩ | refine ⟨(⟨by omega, by omega⟩ : CDiv _ _), ?_⟩ | refine ⟨(⟨by decide, by decide, by decide⟩ : CPow _ _), ?_⟩ | refine ⟨(.inl ⟨by omega, by omega⟩ : CMul _ _), ?_⟩ | refine ⟨(.inr ⟨by omega, by omega⟩ : CMul _ _), ?_⟩ | refine Or.inl ⟨_, rfl, ?_⟩ | refine Or.inr ⟨_, rfl, ?_⟩ | refine ⟨_, _, _, _, true, rfl, .ty _, .base (.str _), kit_ty (by decide +kernel), ?_⟩ | refine ⟨_, _, rfl, ⟨by rw [sizeLine_eq]; omega, rfl⟩, ?_⟩ | refine ⟨_, _, rfl, .inl ⟨_, SqL.of (by assumption), rfl⟩, ?_⟩ | refine ⟨_, _, rfl, .inr ⟨_, SqT.of (by assumption), rfl⟩, ?_⟩ | refine ⟨_, _, _, _, rfl, rfl, SqL.of hw, rfl, ?_⟩))
            refine ⟨wl, _, _, 3, rfl, rfl, hw, rfl, ?_⟩
            generalize hG : upd _ wl (.lst _) = G5
            have G5f : ∀ b o, b ≠ wl → H b = some o → G5 b = some o := fun b o n e => by rw [← hG, upd_ne n]; exact G4f b o n e
            replace hw : G5 wl = some (.lst [.ref c, .int ((i + 1 : Nat) : Int), .int (ns.getD i 0 / m), .int 1, .int (z + 1), .int ((u * 31 + ns.getD i 0) % 10 ^ 18)]) := by rw [← hG]; exact upd_same
            clear hG
            (repeat (first | refine ⟨_, rfl, ?_⟩ | refine ⟨rfl, ?_⟩ | refine ⟨_, _, rfl, rfl, ?_⟩ | refine iteT ?_ | refine iteF ?_ | refine ⟨(by show (0 : Int) < _; omega), ?_⟩ | refine ⟨(⟨by omega, by omega⟩ : CDiv _ _), ?_⟩ | refine ⟨(⟨by decide, by decide, by decide⟩ : CPow _ _), ?_⟩ | refine ⟨(.inl ⟨by omega, by omega⟩ : CMul _ _), ?_⟩ | refine ⟨(.inr ⟨by omega, by omega⟩ : CMul _ _), ?_⟩ | refine Or.inl ⟨_, rfl, ?_⟩ | refine Or.inr ⟨_, rfl, ?_⟩ | refine ⟨_, _, _, _, true, rfl, .ty _, .base (.str _), kit_ty (by decide +kernel), ?_⟩ | refine ⟨_, _, rfl, ⟨by rw [sizeLine_eq]; omega, rfl⟩, ?_⟩ | refine ⟨_, _, rfl, .inl ⟨_, SqL.of (by assumption), rfl⟩, ?_⟩ | refine ⟨_, _, rfl, .inr ⟨_, SqT.of (by assumption), rfl⟩, ?_⟩ | refine ⟨_, _, _, _, rfl, rfl, SqL.of hw, rfl, ?_⟩))
            exact fin G5f hw (Int.emod_nonneg _ (by omega)) (Int.emod_lt_of_pos _ (by omega))
          · (repeat (first | refine ⟨_, rfl, ?_⟩ | refine ⟨rfl, ?_⟩ | refine ⟨_, _, rfl, rfl, ?_⟩ | refine iteT ?_ | refine iteF ?_ | refine ⟨(by show (0 : Int) < _; omega), ?_⟩ | refine ⟨(⟨by omega, by omega⟩ : CDiv _ _), ?_⟩ | refine ⟨(⟨by decide, by decide, by decide⟩ : CPow _ _), ?_⟩ | refine ⟨(.inl ⟨by omega, by omega⟩ : CMul _ _), ?_⟩ | refine ⟨(.inr ⟨by omega, by omega⟩ : CMul _ _), ?_⟩ | refine Or.inl ⟨_, rfl, ?_⟩ | refine Or.inr ⟨_, rfl, ?_⟩ | refine ⟨_, _, _, _, true, rfl, .ty _, .base (.str _), kit_ty (by decide +kernel), ?_⟩ | refine ⟨_, _, rfl, ⟨by rw [sizeLine_eq]; omega, rfl⟩, ?_⟩ | refine ⟨_, _, rfl, .inl ⟨_, SqL.of (by assumption), rfl⟩, ?_⟩ | refine ⟨_, _, rfl, .inr ⟨_, SqT.of (by assumption), rfl⟩, ?_⟩ | refine ⟨_, _, _, _, rfl, rfl, SqL.of hw, rfl, ?_⟩))
            exact fin G3f hw (Int.emod_nonneg _ (by omega)) (Int.emod_lt_of_pos _ (by omega))
        · rw [decide_eq_false hlen]
          (repeat (first | refine ⟨_, rfl, ?_⟩ | refine ⟨rfl, ?_⟩ | refine ⟨_, _, rfl, rfl, ?_⟩ | refine iteT ?_ | refine iteF ?_ | refine ⟨(by show (0 : Int) < _; omega), ?_⟩ | refine ⟨(⟨by omega, by omega⟩ : CDiv _ _), ?_⟩ | refine ⟨(⟨by decide, by decide, by decide⟩ : CPow _ _), ?_⟩ | refine ⟨(.inl ⟨by omega, by omega⟩ : CMul _ _), ?_⟩ | refine ⟨(.inr ⟨by omega, by omega⟩ : CMul _ _), ?_⟩ | refine Or.inl ⟨_, rfl, ?_⟩ | refine Or.inr ⟨_, rfl, ?_⟩ | refine ⟨_, _, _, _, true, rfl, .ty _, .base (.str _), kit_ty (by decide +kernel), ?_⟩ | refine ⟨_, _, rfl, ⟨by rw [sizeLine_eq]; omega, rfl⟩, ?_⟩ | refine ⟨_, _, rfl, .inl ⟨_, SqL.of (by assumption), rfl⟩, ?_⟩ | refine ⟨_, _, rfl, .inr ⟨_, SqT.of (by assumption), rfl⟩, ?_⟩ | refine ⟨_, _, _, _, rfl, rfl, SqL.of hw, rfl, ?_⟩))
          exact fin G1f hw (Int.emod_nonneg _ (by omega)) (Int.emod_lt_of_pos _ (by omega))
    ·
      (repeat (first | refine ⟨_, rfl, ?_⟩ | refine ⟨rfl, ?_⟩ | refine ⟨_, _, rfl, rfl, ?_⟩ | refine iteT ?_ | refine iteF ?_ | refine ⟨(by show (0 : Int) < _; omega), ?_⟩ | refine ⟨(⟨by omega, by omega⟩ : CDiv _ _), ?_⟩ | refine ⟨(⟨by decide, by decide, by decide⟩ : CPow _ _), ?_⟩ | refine ⟨(.inl ⟨by omega, by omega⟩ : CMul _ _), ?_⟩ | refine ⟨(.inr ⟨by omega, by omega⟩ : CMul _ _), ?_⟩ | refine Or.inl ⟨_, rfl, ?_⟩ | refine Or.inr ⟨_, rfl, ?_⟩ | refine ⟨_, _, _, _, true, rfl, .ty _, .base (.str _), kit_ty (by decide +kernel), ?_⟩ | refine ⟨_, _, rfl, ⟨by rw [sizeLine_eq]; omega, rfl⟩, ?_⟩ | refine ⟨_, _, rfl, .inl ⟨_, SqL.of (by assumption), rfl⟩, ?_⟩ | refine ⟨_, _, rfl, .inr ⟨_, SqT.of (by assumption), rfl⟩, ?_⟩ | refine ⟨_, _, _, _, rfl, rfl, SqL.of hw, rfl, ?_⟩))
      refine ⟨wl, _, _, 4, rfl, rfl, hw, rfl, ?_⟩
      generalize hG : upd _ wl (.lst _) = G1
      have G1f : ∀ b o, b ≠ wl → H b = some o → G1 b = some o := fun b o n e => by rw [← hG, upd_ne n]; exact e
      replace hw : G1 wl = some (.lst [.ref c, .int (i : Nat), .int x, .int y, .int (z + 1), .int u]) := by rw [← hG]; exact upd_same
      clear hG
      have hc1 := G1f _ _ cw hc
      (repeat (first | refine ⟨_, rfl, ?_⟩ | refine ⟨rfl, ?_⟩ | refine ⟨_, _, rfl, rfl, ?_⟩ | refine iteT ?_ | refine iteF ?_ | refine ⟨(by show (0 : Int) < _; omega), ?_⟩ | refine ⟨(⟨by omega, by omega⟩ : CDiv _ _), ?_⟩ | refine ⟨(⟨by decide, by decide, by decide⟩ : CPow _ _), ?_⟩ | refine ⟨(.inl ⟨by omega, by omega⟩ : CMul _ _), ?_⟩ | refine ⟨(.inr ⟨by omega, by omega⟩ : CMul _ _), ?_⟩ | refine Or.inl ⟨_, rfl, ?_⟩ | refine Or.inr ⟨_, rfl, ?_⟩ | refine ⟨_, _, _, _, true, rfl, .ty _, .base (.str _), kit_ty (by decide +kernel), ?_⟩ | refine ⟨_, _, rfl, ⟨by rw [sizeLine_eq]; omega, rfl⟩, ?_⟩ | refine ⟨_, _, rfl, .inl ⟨_, SqL.of (by assumption), rfl⟩, ?_⟩ | refine ⟨_, _, rfl, .inr ⟨_, SqT.of (by assumption), rfl⟩, ?_⟩ | refine ⟨_, _, _, _, rfl, rfl, SqL.of hw, rfl, ?_⟩))
      by_cases hlen : (i : Int) < ((ns.map V.int).length : Int)
      · rw [decide_eq_true hlen]
        rw [List.length_map] at hlen
        have hin : i < ns.length := by omega
        (repeat (first | refine ⟨_, rfl, ?_⟩ | refine ⟨rfl, ?_⟩ | refine ⟨_, _, rfl, rfl, ?_⟩ | refine iteT ?_ | refine iteF ?_ | refine ⟨(by show (0 : Int) < _; omega), ?_⟩ | refine ⟨(⟨by omega, by omega⟩ : CDiv _ _), ?_⟩ | refine ⟨(⟨by decide, by decide, by decide⟩ : CPow _ _), ?_⟩ | refine ⟨(.inl ⟨by omega, by omega⟩ : CMul _ _), ?_⟩ | refine ⟨(.inr ⟨by omega, by omega⟩ : CMul _ _), ?_⟩ | refine Or.inl ⟨_, rfl, ?_⟩ | refine Or.inr ⟨_, rfl, ?_⟩ | refine ⟨_, _, _, _, true, rfl, .ty _, .base (.str _), kit_ty (by decide +kernel), ?_⟩ | refine ⟨_, _, rfl, ⟨by rw [sizeLine_eq]; omega, rfl⟩, ?_⟩ | refine ⟨_, _, rfl, .inl ⟨_, SqL.of (by assumption), rfl⟩, ?_⟩ | refine ⟨_, _, rfl, .inr ⟨_, SqT.of (by assumption), rfl⟩, ?_⟩ | refine ⟨_, _, _, _, rfl, rfl, SqL.of hw, rfl, ?_⟩))
        refine ⟨c, _, _, _, rfl, rfl, SqL.of hc1, hi hin, ?_⟩
        (repeat (first | refine ⟨_, rfl, ?_⟩ | refine ⟨rfl, ?_⟩ | refine ⟨_, _, rfl, rfl, ?_⟩ | refine iteT ?_ | refine iteF ?_ | refine ⟨(by show (0 : Int) < _; omega), ?_⟩ | refine ⟨(⟨by omega, by omega⟩ : CDiv _ _), ?_⟩ | refine ⟨(⟨by decide, by decide, by decide⟩ : CPow _ _), ?_⟩ | refine ⟨(.inl ⟨by omega, by omega⟩ : CMul _ _), ?_⟩ | refine ⟨(.inr ⟨by omega, by omega⟩ : CMul _ _), ?_⟩ | refine Or.inl ⟨_, rfl, ?_⟩ | refine Or.inr ⟨_, rfl, ?_⟩ | refine ⟨_, _, _, _, true, rfl, .ty _, .base (.str _), kit_ty (by decide +kernel), ?_⟩ | refine ⟨_, _, rfl, ⟨by rw [sizeLine_eq]; omega, rfl⟩, ?_⟩ | refine ⟨_, _, rfl, .inl ⟨_, SqL.of (by assumption), rfl⟩, ?_⟩ | refine ⟨_, _, rfl, .inr ⟨_, SqT.of (by assumption), rfl⟩, ?_⟩ | refine ⟨_, _, _, _, rfl, rfl, SqL.of hw, rfl, ?_⟩))
        refine ⟨wl, _, _, 1, rfl, rfl, hw, rfl, ?_⟩
        generalize hG : upd _ wl (.lst _) = G2
        have G2f : ∀ b o, b ≠ wl → H b = some o → G2 b = some o := fun b o n e => by rw [← hG, upd_ne n]; exact G1f b o n e
        replace hw : G2 wl = some (.lst [.ref c, .int ((i + 1 : Nat) : Int), .int x, .int y, .int (z + 1), .int u]) := by rw [← hG]; exact upd_same
        clear hG
        (repeat (first | refine ⟨_, rfl, ?_⟩ | refine ⟨rfl, ?_⟩ | refine ⟨_, _, rfl, rfl, ?_⟩ | refine iteT ?_ | refine iteF ?_ | refine ⟨(by show (0 : Int) < _; omega), ?_⟩ | refine ⟨(⟨by omega, by omega⟩ : CDiv _ _), ?_⟩ | refine ⟨(⟨by decide, by decide, by decide⟩ : CPow _ _), ?_⟩ | refine ⟨(.inl ⟨by omega, by omega⟩ : CMul _ _), ?_⟩ | refine ⟨(.inr ⟨by omega, by omega⟩ : CMul _ _), ?_⟩ | refine Or.inl ⟨_, rfl, ?_⟩ | refine Or.inr ⟨_, rfl, ?_⟩ | refine ⟨_, _, _, _, true, rfl, .ty _, .base (.str _), kit_ty (by decide +kernel), ?_⟩ | refine ⟨_, _, rfl, ⟨by rw [sizeLine_eq]; omega, rfl⟩, ?_⟩ | refine ⟨_, _, rfl, .inl ⟨_, SqL.of (by assumption), rfl⟩, ?_⟩ | refine ⟨_, _, rfl, .inr ⟨_, SqT.of (by assumption), rfl⟩, ?_⟩ | refine ⟨_, _, _, _, rfl, rfl, SqL.of hw, rfl, ?_⟩))
        refine ⟨(by show (0 : Int) < 10 ^ Int.toNat 18; decide), ?_⟩
        (repeat (first | refine ⟨_, rfl, ?_⟩ | refine ⟨rfl, ?_⟩ | refine ⟨_, _, rfl, rfl, ?_⟩ | refine iteT ?_ | refine iteF ?_ | refine ⟨(by show (0 : Int) < _; omega), ?_⟩ | refine ⟨(⟨by omega, by omega⟩ : CDiv _ _), ?_⟩ | refine ⟨(⟨by decide, by decide, by decide⟩ : CPow _ _), ?_⟩ | refine ⟨(.inl ⟨by omega, by omega⟩ : CMul _ _), ?_⟩ | refine ⟨(.inr ⟨by omega, by omega⟩ : CMul _ _), ?_⟩ | refine Or.inl ⟨_, rfl, ?_⟩ | refine Or.inr ⟨_, rfl, ?_⟩ | refine ⟨_, _, _, _, true, rfl, .ty _, .base (.str _), kit_ty (by decide +kernel), ?_⟩ | refine ⟨_, _, rfl, ⟨by rw [sizeLine_eq]; omega, rfl⟩, ?_⟩ | refine ⟨_, _, rfl, .inl ⟨_, SqL.of (by assumption), rfl⟩, ?_⟩ | refine ⟨_, _, rfl, .inr ⟨_, SqT.of (by assumption), rfl⟩, ?_⟩ | refine ⟨_, _, _, _, rfl, rfl, SqL.of hw, rfl, ?_⟩))
        refine ⟨wl, _, _, 5, rfl, rfl, hw, rfl, ?_⟩
        generalize hG : upd _ wl (.lst _) = G3
        have G3f : ∀ b o, b ≠ wl → H b = some o → G3 b = some o := fun b o n e => by rw [← hG, upd_ne n]; exact G2f b o n e
        replace hw : G3 wl = some (.lst [.ref c, .int ((i + 1 : Nat) : Int), .int x, .int y, .int (z + 1), .int ((u * 31 + ns.getD i 0) % 10 ^ 18)]) := by rw [← hG]; exact upd_same
        clear hG
        (repeat (first | refine ⟨_, rfl, ?_⟩ | refine ⟨rfl, ?_⟩ | refine ⟨_, _, rfl, rfl, ?_⟩ | refine iteT ?_ | refine iteF ?_ | refine ⟨(by show (0 : Int) < _; omega), ?_⟩ | refine ⟨(⟨by omega, by omega⟩ : CDiv _ _), ?_⟩ | refine ⟨(⟨by decide, by decide, by decide⟩ : CPow _ _), ?_⟩ | refine ⟨(.inl ⟨by omega, by omega⟩ : CMul _ _), ?_⟩ | refine ⟨(.inr ⟨by omega, by omega⟩ : CMul _ _), ?_⟩ | refine Or.inl ⟨_, rfl, ?_⟩ | refine Or.inr ⟨_, rfl, ?_⟩ | refine ⟨_, _, _, _, true, rfl, .ty _, .base (.str _), kit_ty (by decide +kernel), ?_⟩ | refine ⟨_, _, rfl, ⟨by rw [sizeLine_eq]; omega, rfl⟩, ?_⟩ | refine ⟨_, _, rfl, .inl ⟨_, SqL.of (by assumption), rfl⟩, ?_⟩ | refine ⟨_, _, rfl, .inr ⟨_, SqT.of (by assumption), rfl⟩, ?_⟩ | refine ⟨_, _, _, _, rfl, rfl, SqL.of hw, rfl, ?_⟩))
        refine ite2 (fun c3 => ?_) (fun c3 => ?_)
        · (repeat (first | refine ⟨_, rfl, ?_⟩ | refine ⟨rfl, ?_⟩ | refine ⟨_, _, rfl, rfl, ?_⟩ | refine iteT ?_ | refine iteF ?_ | refine ⟨(by show (0 : Int) < _; omega), ?_⟩ | refine ⟨(⟨by omega, by omega⟩ : CDiv _ _), ?_⟩ | refine ⟨(⟨by decide, by decide, by decide⟩ : CPow _ _), ?_⟩ | refine ⟨(.inl ⟨by omega, by omega⟩ : CMul _ _), ?_⟩ | refine ⟨(.inr ⟨by omega, by omega⟩ : CMul _ _), ?_⟩ | refine Or.inl ⟨_, rfl, ?_⟩ | refine Or.inr ⟨_, rfl, ?_⟩ | refine ⟨_, _, _, _, true, rfl, .ty _, .base (.str _), kit_ty (by decide +kernel), ?_⟩ | refine ⟨_, _, rfl, ⟨by rw [sizeLine_eq]; omega, rfl⟩, ?_⟩ | refine ⟨_, _, rfl, .inl ⟨_, SqL.of (by assumption), rfl⟩, ?_⟩ | refine ⟨_, _, rfl, .inr ⟨_, SqT.of (by assumption), rfl⟩, ?_⟩ | refine ⟨_, _, _, _, rfl, rfl, SqL.of hw, rfl, ?_⟩))
          refine ⟨wl, _, _, 2, rfl, rfl, hw, rfl, ?_⟩
          generalize hG : upd _ wl (.lst _) = G4
          have G4f : ∀ b o, b ≠ wl → H b = some o → G4 b = some o := fun b o n e => by rw [← hG, upd_ne n]; exact G3f b o n e
          replace hw : G4 wl = some (.lst [.ref c, .int ((i + 1 : Nat) : Int), .int (ns.getD i 0 / m), .int y, .int (z + 1), .int ((u * 31 + ns.getD i 0) % 10 ^ 18)]) := by rw [← hG]; exact upd_same
          clear hG
          (repeat (first | refine ⟨_, rfl, ?_⟩ | refine ⟨rfl, ?_⟩ | refine ⟨_, _, rfl, rfl, ?_⟩ | refine iteT ?_ | refine iteF ?_ | refine ⟨(by show (0 : Int) < _; omega), ?_⟩ | refine ⟨(⟨by omega, by omega⟩ : CDiv _ _), ?_⟩ | refine ⟨(⟨by decide, by decide, by decide⟩ : CPow _ _), ?_⟩ | refine ⟨(.inl ⟨by omega, by omega⟩ : CMul _ _), ?_⟩ | refine ⟨(.inr ⟨by omega, by omega⟩ : CMul _ _), ?_⟩ | refine Or.inl ⟨_, rfl, ?_⟩ | refine Or.inr ⟨_, rfl, ?_⟩ | refine ⟨_, _, _, _, true, rfl, .ty _, .base (.str _), kit_ty (by decide +kernel), ?_⟩ | refine ⟨_, _, rfl, ⟨by rw [sizeLine_eq]; omega, rfl⟩, ?_⟩ | refine ⟨_, _, rfl, .inl ⟨_, SqL.of (by assumption), rfl⟩, ?_⟩ | refine ⟨_, _, rfl, .inr ⟨_, SqT.of (by assumption), rfl⟩, ?_⟩ | refine ⟨_, _, _, _, rfl, rfl, SqL.of hw, rfl, ?_⟩))
          refine ⟨wl, _, _, 3, rfl, rfl, hw, rfl, ?_⟩
          generalize hG : upd _ wl (.lst _) = G5
          have G5f : ∀ b o, b ≠ wl → H b = some o → G5 b = some o := fun b o n e => by rw [← hG, upd_ne n]; exact G4f b o n e
          replace hw : G5 wl = some (.lst [.ref c, .int ((i + 1 : Nat) : Int), .int (ns.getD i 0 / m), .int 1, .int (z + 1), .int ((u * 31 + ns.getD i 0) % 10 ^ 18)]) := by rw [← hG]; exact upd_same
          clear hG
          (repeat (first | refine ⟨_, rfl, ?_⟩ | refine ⟨rfl, ?_⟩ | refine ⟨_, _, rfl, rfl, ?_⟩ | refine iteT ?_ | refine iteF ?_ | refine ⟨(by show (0 : Int) < _; omega), ?_⟩ | refine ⟨(⟨by omega, by omega⟩ : CDiv _ _), ?_⟩ | refine ⟨(⟨by decide, by decide, by decide⟩ : CPow _ _), ?_⟩ | refine ⟨(.inl ⟨by omega, by omega⟩ : CMul _ _), ?_⟩ | refine ⟨(.inr ⟨by omega, by omega⟩ : CMul _ _), ?_⟩ | refine Or.inl ⟨_, rfl, ?_⟩ | refine Or.inr ⟨_, rfl, ?_⟩ | refine ⟨_, _, _, _, true, rfl, .ty _, .base (.str _), kit_ty (by decide +kernel), ?_⟩ | refine ⟨_, _, rfl, ⟨by rw [sizeLine_eq]; omega, rfl⟩, ?_⟩ | refine ⟨_, _, rfl, .inl ⟨_, SqL.of (by assumption), rfl⟩, ?_⟩ | refine ⟨_, _, rfl, .inr ⟨_, SqT.of (by assumption), rfl⟩, ?_⟩ | refine ⟨_, _, _, _, rfl, rfl, SqL.of hw, rfl, ?_⟩))
          exact fin G5f hw (Int.emod_nonneg _ (by omega)) (Int.emod_lt_of_pos _ (by omega))
        · (repeat (first | refine ⟨_, rfl, ?_⟩ | refine ⟨rfl, ?_⟩ | refine ⟨_, _, rfl, rfl, ?_⟩ | refine iteT ?_ | refine iteF ?_ | refine ⟨(by show (0 : Int) < _; omega), ?_⟩ | refine ⟨(⟨by omega, by omega⟩ : CDiv _ _), ?_⟩ | refine ⟨(⟨by decide, by decide, by decide⟩ : CPow _ _), ?_⟩ | refine ⟨(.inl ⟨by omega, by omega⟩ : CMul _ _), ?_⟩ | refine ⟨(.inr ⟨by omega, by omega⟩ : CMul _ _), ?_⟩ | refine Or.inl ⟨_, rfl, ?_⟩ | refine Or.inr ⟨_, rfl, ?_⟩ | refine ⟨_, _, _, _, true, rfl, .ty _, .base (.str _), kit_ty (by decide +kernel), ?_⟩ | refine ⟨_, _, rfl, ⟨by rw [sizeLine_eq]; omega, rfl⟩, ?_⟩ | refine ⟨_, _, rfl, .inl ⟨_, SqL.of (by assumption), rfl⟩, ?_⟩ | refine ⟨_, _, rfl, .inr ⟨_, SqT.of (by assumption), rfl⟩, ?_⟩ | refine ⟨_, _, _, _, rfl, rfl, SqL.of hw, rfl, ?_⟩))
          exact fin G3f hw (Int.emod_nonneg _ (by omega)) (Int.emod_lt_of_pos _ (by omega))
      · rw [decide_eq_false hlen]
        (repeat (first | refine ⟨_, rfl, ?_⟩ | refine ⟨rfl, ?_⟩ | refine ⟨_, _, rfl, rfl, ?_⟩ | refine iteT ?_ | refine iteF ?_ | refine ⟨(by show (0 : Int) < _; omega), ?_⟩ | refine ⟨(⟨by omega, by omega⟩ : CDiv _ _), ?_⟩ | refine ⟨(⟨by decide, by decide, by decide⟩ : CPow _ _), ?_⟩ | refine ⟨(.inl ⟨by omega, by omega⟩ : CMul _ _), ?_⟩ | refine ⟨(.inr ⟨by omega, by omega⟩ : CMul _ _), ?_⟩ | refine Or.inl ⟨_, rfl, ?_⟩ | refine Or.inr ⟨_, rfl, ?_⟩ | refine ⟨_, _, _, _, true, rfl, .ty _, .base (.str _), kit_ty (by decide +kernel), ?_⟩ | refine ⟨_, _, rfl, ⟨by rw [sizeLine_eq]; omega, rfl⟩, ?_⟩ | refine ⟨_, _, rfl, .inl ⟨_, SqL.of (by assumption), rfl⟩, ?_⟩ | refine ⟨_, _, rfl, .inr ⟨_, SqT.of (by assumption), rfl⟩, ?_⟩ | refine ⟨_, _, _, _, rfl, rfl, SqL.of hw, rfl, ?_⟩))
        exact fin G1f hw (Int.emod_nonneg _ (by omega)) (Int.emod_lt_of_pos _ (by omega))
end
end BF43
set_option Elab.async false
set_option linter.all false
set_option maxRecDepth 100000
set_option maxHeartbeats 4000000
namespace BF43
open BF
open PySem PySem.Spec PyProof.Rows L2
open C8 (Cal CalAt Met Mak cal0 met0 mak0 fn0 pe_c pe_mk pe_mt pe_mt0 pe_gc fnScope fnBody fnArgs fnScope_by)
open SX
section
variable {P : Program} {w : World} {K : PySem.W.Frag} {mg : Str → Option Value} {base : Heap} {A : Ad}
theorem cal_is_name (T : Txt K mg A) : Cal P w K mg base 1 "is_name" spIsName [] := by
  refine cal0 T.d_is_name T.b_is_name .nil sc_is_name (fun vs H Q E h => ?_) (fun cdv B outer s H vs Q E hr h => ?_)
  · obtain ⟨c, rfl, _⟩ := h
    rfl
  · obtain ⟨x, rfl, hx, k⟩ := h
    refine ⟨_, (pss_cons (ps_if (PW.pt (pw_or (pt_not (pt_val (pe_callB (isiK K) (by rfl) T.z_isinstance (by decide +kernel) (pa_cons (pv 0) (pa_cons (pe_bltn (v := .ty "str") (by rfl) T.z_str (by decide +kernel) rfl) pa_nil))))) (pw_or1 (pt_not (pt_chain op_le op_le pe_int (pe_callB (lenK K) (by rfl) T.z_len (by decide +kernel) (pa_cons (pv 0) pa_nil)) (pe_gint rfl T.g_LONGEST_NAME)))))) (pss_one (ps_ret pe_bl)) pss_nil)
 (pss_one (ps_ret (pe_callB (allK K rfl) (by rfl) T.z_all (by decide +kernel) (pa_cons (pe_lc (own := [("letter", 1)]) (g := gName 1) rfl sc_is_name.nd (pi_str (pv 0)) (blkOk_by (own := [("letter", 1)]) (N := N_is_name) (sc := fnScope s_is_name) (by decide +kernel)) (fun _ _ _ _ _ => (pg_name (i := 1) sc_is_name.nd rfl (by first | exact Or.inl rfl | exact Or.inr rfl))) (fun _ _ _ _ _ => pts_nil) (fun _ _ _ _ _ => (pe_chain op_le_str op_le_str pe_str (pv 1) pe_str))) pa_nil))))), ?_⟩
    have hz : x.cps.size ≤ 1000 := hx
    (repeat (first | refine ⟨_, rfl, ?_⟩ | refine ⟨rfl, ?_⟩ | refine ⟨_, _, rfl, rfl, ?_⟩ | refine iteT ?_ | refine iteF ?_ | refine ⟨(by show (0 : Int) < _; omega), ?_⟩ | refine ⟨(⟨by omega, by omega⟩ : CDiv _ _), ?_⟩ | refine ⟨(⟨by decide, by decide, by decide⟩ : CPow _ _), ?_⟩ | refine ⟨(.inl ⟨by omega, by omega⟩ : CMul _ _), ?_⟩ | refine ⟨(.inr ⟨by omega, by omega⟩ : CMul _ _), ?_⟩ | refine Or.inl ⟨_, rfl, ?_⟩ | refine Or.inr ⟨_, rfl, ?_⟩ | refine ⟨_, _, _, _, true, rfl, .ty _, .base (.str _), kit_ty (by decide +kernel), ?_⟩ | refine ⟨_, _, rfl, ⟨by rw [sizeLine_eq]; omega, rfl⟩, ?_⟩ | refine ⟨_, _, rfl, .inl ⟨_, SqL.of (by assumption), rfl⟩, ?_⟩ | refine ⟨_, _, rfl, .inr ⟨_, SqT.of (by assumption), rfl⟩, ?_⟩))
    refine ite2 (fun h1 => ?_) (fun h1 => ?_)
    · (repeat (first | refine ⟨_, rfl, ?_⟩ | refine ⟨rfl, ?_⟩ | refine ⟨_, _, rfl, rfl, ?_⟩ | refine iteT ?_ | refine iteF ?_ | refine ⟨(by show (0 : Int) < _; omega), ?_⟩ | refine ⟨(⟨by omega, by omega⟩ : CDiv _ _), ?_⟩ | refine ⟨(⟨by decide, by decide, by decide⟩ : CPow _ _), ?_⟩ | refine ⟨(.inl ⟨by omega, by omega⟩ : CMul _ _), ?_⟩ | refine ⟨(.inr ⟨by omega, by omega⟩ : CMul _ _), ?_⟩ | refine Or.inl ⟨_, rfl, ?_⟩ | refine Or.inr ⟨_, rfl, ?_⟩ | refine ⟨_, _, _, _, true, rfl, .ty _, .base (.str _), kit_ty (by decide +kernel), ?_⟩ | refine ⟨_, _, rfl, ⟨by rw [sizeLine_eq]; omega, rfl⟩, ?_⟩ | refine ⟨_, _, rfl, .inl ⟨_, SqL.of (by assumption), rfl⟩, ?_⟩ | refine ⟨_, _, rfl, .inr ⟨_, SqT.of (by assumption), rfl⟩, ?_⟩))
      by_cases h2 : (x.length : Int) ≤ 8
      · rw [decide_eq_true h2]
        (repeat (first | refine ⟨_, rfl, ?_⟩ | refine ⟨rfl, ?_⟩ | refine ⟨_, _, rfl, rfl, ?_⟩ | refine iteT ?_ | refine iteF ?_ | refine ⟨(by show (0 : Int) < _; omega), ?_⟩ | refine ⟨(⟨by omega, by omega⟩ : CDiv _ _), ?_⟩ | refine ⟨(⟨by decide, by decide, by decide⟩ : CPow _ _), ?_⟩ | refine ⟨(.inl ⟨by omega, by omega⟩ : CMul _ _), ?_⟩ | refine ⟨(.inr ⟨by omega, by omega⟩ : CMul _ _), ?_⟩ | refine Or.inl ⟨_, rfl, ?_⟩ | refine Or.inr ⟨_, rfl, ?_⟩ | refine ⟨_, _, _, _, true, rfl, .ty _, .base (.str _), kit_ty (by decide +kernel), ?_⟩ | refine ⟨_, _, rfl, ⟨by rw [sizeLine_eq]; omega, rfl⟩, ?_⟩ | refine ⟨_, _, rfl, .inl ⟨_, SqL.of (by assumption), rfl⟩, ?_⟩ | refine ⟨_, _, rfl, .inr ⟨_, SqT.of (by assumption), rfl⟩, ?_⟩))
        intro D nD
        refine lc_it walk_str (fun i H' => Same H H' ∧ H' D = some (.lst (((x.cps.toList.take i).map isLow).map V.bl))) ⟨Same.new nD, upd_same⟩ (fun _ _ _ _ => True.intro) ?_ ?_
        · rintro i v H1 H' hi ⟨s1, hD⟩ ⟨rfl, c, hc, rfl⟩
          have e : x.cps.toList[i]? = some c := by simpa using hc
          have fin : ∀ b, b = isLow c → ∃ acc, H' D = some (.lst acc) ∧ acc.length < sizeLine ∧ Same H (upd H' D (.lst (acc ++ [V.bl b]))) ∧ upd H' D (.lst (acc ++ [V.bl b])) D = some (.lst (((x.cps.toList.take (i + 1)).map isLow).map V.bl)) := by
            rintro b rfl
            refine ⟨_, hD, small1000 (by simp only [List.length_map, List.length_take, Array.length_toList]; omega), Same.put s1 nD, ?_⟩
            rw [upd_same, take_snoc isLow e, List.map_append]
            rfl
          refine ⟨rfl, ?_⟩
          (repeat (first | refine ⟨_, rfl, ?_⟩ | refine ⟨rfl, ?_⟩ | refine ⟨_, _, rfl, rfl, ?_⟩ | refine iteT ?_ | refine iteF ?_ | refine ⟨(by show (0 : Int) < _; omega), ?_⟩ | refine ⟨(⟨by omega, by omega⟩ : CDiv _ _), ?_⟩ | refine ⟨(⟨by decide, by decide, by decide⟩ : CPow _ _), ?_⟩ | refine ⟨(.inl ⟨by omega, by omega⟩ : CMul _ _), ?_⟩ | refine ⟨(.inr ⟨by omega, by omega⟩ : CMul _ _), ?_⟩ | refine Or.inl ⟨_, rfl, ?_⟩ | refine Or.inr ⟨_, rfl, ?_⟩ | refine ⟨_, _, _, _, true, rfl, .ty _, .base (.str _), kit_ty (by decide +kernel), ?_⟩ | refine ⟨_, _, rfl, ⟨by rw [sizeLine_eq]; omega, rfl⟩, ?_⟩ | refine ⟨_, _, rfl, .inl ⟨_, SqL.of (by assumption), rfl⟩, ?_⟩ | refine ⟨_, _, rfl, .inr ⟨_, SqT.of (by assumption), rfl⟩, ?_⟩))
          refine ite2 (fun h3 => ?_) (fun h3 => ?_)
          · (repeat (first | refine ⟨_, rfl, ?_⟩ | refine ⟨rfl, ?_⟩ | refine ⟨_, _, rfl, rfl, ?_⟩ | refine iteT ?_ | refine iteF ?_ | refine ⟨(by show (0 : Int) < _; omega), ?_⟩ | refine ⟨(⟨by omega, by omega⟩ : CDiv _ _), ?_⟩ | refine ⟨(⟨by decide, by decide, by decide⟩ : CPow _ _), ?_⟩ | refine ⟨(.inl ⟨by omega, by omega⟩ : CMul _ _), ?_⟩ | refine ⟨(.inr ⟨by omega, by omega⟩ : CMul _ _), ?_⟩ | refine Or.inl ⟨_, rfl, ?_⟩ | refine Or.inr ⟨_, rfl, ?_⟩ | refine ⟨_, _, _, _, true, rfl, .ty _, .base (.str _), kit_ty (by decide +kernel), ?_⟩ | refine ⟨_, _, rfl, ⟨by rw [sizeLine_eq]; omega, rfl⟩, ?_⟩ | refine ⟨_, _, rfl, .inl ⟨_, SqL.of (by assumption), rfl⟩, ?_⟩ | refine ⟨_, _, rfl, .inr ⟨_, SqT.of (by assumption), rfl⟩, ?_⟩))
            rw [from_a] at h3
            exact fin _ (by rw [to_z]; unfold isLow; rw [h3]; rfl)
          · (repeat (first | refine ⟨_, rfl, ?_⟩ | refine ⟨rfl, ?_⟩ | refine ⟨_, _, rfl, rfl, ?_⟩ | refine iteT ?_ | refine iteF ?_ | refine ⟨(by show (0 : Int) < _; omega), ?_⟩ | refine ⟨(⟨by omega, by omega⟩ : CDiv _ _), ?_⟩ | refine ⟨(⟨by decide, by decide, by decide⟩ : CPow _ _), ?_⟩ | refine ⟨(.inl ⟨by omega, by omega⟩ : CMul _ _), ?_⟩ | refine ⟨(.inr ⟨by omega, by omega⟩ : CMul _ _), ?_⟩ | refine Or.inl ⟨_, rfl, ?_⟩ | refine Or.inr ⟨_, rfl, ?_⟩ | refine ⟨_, _, _, _, true, rfl, .ty _, .base (.str _), kit_ty (by decide +kernel), ?_⟩ | refine ⟨_, _, rfl, ⟨by rw [sizeLine_eq]; omega, rfl⟩, ?_⟩ | refine ⟨_, _, rfl, .inl ⟨_, SqL.of (by assumption), rfl⟩, ?_⟩ | refine ⟨_, _, rfl, .inr ⟨_, SqT.of (by assumption), rfl⟩, ?_⟩))
            rw [from_a] at h3
            have h4 : decide (97 ≤ c) = false := by simpa using h3
            exact fin _ (by unfold isLow; rw [h4]; rfl)
        · rintro H1 ⟨s1, hD⟩
          refine ⟨D, _, rfl, SqL.of hD, ?_⟩
          have e := k H1 s1
          rw [isNm_true (by have := of_decide_eq_true h1; omega) (by omega)] at e
          rw [List.take_of_length_le (by simp)]
          exact e
      · rw [decide_eq_false h2]
        (repeat (first | refine ⟨_, rfl, ?_⟩ | refine ⟨rfl, ?_⟩ | refine ⟨_, _, rfl, rfl, ?_⟩ | refine iteT ?_ | refine iteF ?_ | refine ⟨(by show (0 : Int) < _; omega), ?_⟩ | refine ⟨(⟨by omega, by omega⟩ : CDiv _ _), ?_⟩ | refine ⟨(⟨by decide, by decide, by decide⟩ : CPow _ _), ?_⟩ | refine ⟨(.inl ⟨by omega, by omega⟩ : CMul _ _), ?_⟩ | refine ⟨(.inr ⟨by omega, by omega⟩ : CMul _ _), ?_⟩ | refine Or.inl ⟨_, rfl, ?_⟩ | refine Or.inr ⟨_, rfl, ?_⟩ | refine ⟨_, _, _, _, true, rfl, .ty _, .base (.str _), kit_ty (by decide +kernel), ?_⟩ | refine ⟨_, _, rfl, ⟨by rw [sizeLine_eq]; omega, rfl⟩, ?_⟩ | refine ⟨_, _, rfl, .inl ⟨_, SqL.of (by assumption), rfl⟩, ?_⟩ | refine ⟨_, _, rfl, .inr ⟨_, SqT.of (by assumption), rfl⟩, ?_⟩))
        have e := k H (Same.refl H)
        rw [isNm_no (by simp at h1; omega)] at e
        exact e
    · (repeat (first | refine ⟨_, rfl, ?_⟩ | refine ⟨rfl, ?_⟩ | refine ⟨_, _, rfl, rfl, ?_⟩ | refine iteT ?_ | refine iteF ?_ | refine ⟨(by show (0 : Int) < _; omega), ?_⟩ | refine ⟨(⟨by omega, by omega⟩ : CDiv _ _), ?_⟩ | refine ⟨(⟨by decide, by decide, by decide⟩ : CPow _ _), ?_⟩ | refine ⟨(.inl ⟨by omega, by omega⟩ : CMul _ _), ?_⟩ | refine ⟨(.inr ⟨by omega, by omega⟩ : CMul _ _), ?_⟩ | refine Or.inl ⟨_, rfl, ?_⟩ | refine Or.inr ⟨_, rfl, ?_⟩ | refine ⟨_, _, _, _, true, rfl, .ty _, .base (.str _), kit_ty (by decide +kernel), ?_⟩ | refine ⟨_, _, rfl, ⟨by rw [sizeLine_eq]; omega, rfl⟩, ?_⟩ | refine ⟨_, _, rfl, .inl ⟨_, SqL.of (by assumption), rfl⟩, ?_⟩ | refine ⟨_, _, rfl, .inr ⟨_, SqT.of (by assumption), rfl⟩, ?_⟩))
      have e := k H (Same.refl H)
      rw [isNm_no (by simp at h1; omega)] at e
      exact e
theorem goodR_row (two : Bool) (os : List (Option Int)) : goodR two (.row os) = (decide (os.length ≤ 24) && os.all (okEnt two)) := rfl
theorem in_01 (i : Int) : (if false = true then !inV (V.int i) [V.int 0, V.int 1] else inV (V.int i) [V.int 0, V.int 1]) = okEnt true (some i) := by
  rw [if_neg (by decide)]
  show (decide (0 = i) || (decide (1 = i) || false)) = (!true || (decide (i = 0) || decide (i = 1)))
  rw [Bool.or_false, Bool.not_true, Bool.false_or]
  congr 1
  · exact decide_eq_decide.mpr eq_comm
  · exact decide_eq_decide.mpr eq_comm
theorem cal_is_integer (T : Txt K mg A) : Cal P w K mg base 1 "is_integer" (spInt K) [] := by
  refine cal0 T.d_is_integer T.b_is_integer .nil sc_is_integer (fun vs H Q E h => ?_) (fun cdv B outer s H vs Q E hr h => ?_)
  · obtain ⟨v, o, rfl, _⟩ := h
    rfl
  · obtain ⟨v, o, rfl, hv, k⟩ := h
    refine ⟨_, (pss_one (ps_ret (pe_and (pe_callB (isiK K) (by rfl) T.z_isinstance (by decide +kernel) (pa_cons (pv 0) (pa_cons (pe_bltn (v := .ty "int") (by rfl) T.z_int (by decide +kernel) rfl) pa_nil))) (pe_one (pe_not (pe_callB (isiK K) (by rfl) T.z_isinstance (by decide +kernel) (pa_cons (pv 0) (pa_cons (pe_bltn (v := .ty "bool") (by rfl) T.z_bool (by decide +kernel) rfl) pa_nil)))))))), ?_⟩
    (repeat (first | refine ⟨_, rfl, ?_⟩ | refine ⟨rfl, ?_⟩ | refine ⟨_, _, rfl, rfl, ?_⟩ | refine iteT ?_ | refine iteF ?_ | refine ⟨(by show (0 : Int) < _; omega), ?_⟩ | refine ⟨(⟨by omega, by omega⟩ : CDiv _ _), ?_⟩ | refine ⟨(⟨by decide, by decide, by decide⟩ : CPow _ _), ?_⟩ | refine ⟨(.inl ⟨by omega, by omega⟩ : CMul _ _), ?_⟩ | refine ⟨(.inr ⟨by omega, by omega⟩ : CMul _ _), ?_⟩ | refine Or.inl ⟨_, rfl, ?_⟩ | refine Or.inr ⟨_, rfl, ?_⟩ | refine ⟨_, _, _, _, true, rfl, .ty _, .base (.str _), kit_ty (by decide +kernel), ?_⟩ | refine ⟨_, _, rfl, ⟨by rw [sizeLine_eq]; omega, rfl⟩, ?_⟩ | refine ⟨_, _, rfl, .inl ⟨_, SqL.of (by assumption), rfl⟩, ?_⟩ | refine ⟨_, _, rfl, .inr ⟨_, SqT.of (by assumption), rfl⟩, ?_⟩))
    cases hv with
    | int i =>
      refine ⟨_, _, _, _, true, rfl, .ty _, .base (.int i), kit_ty (by decide +kernel), ?_⟩
      (repeat (first | refine ⟨_, rfl, ?_⟩ | refine ⟨rfl, ?_⟩ | refine ⟨_, _, rfl, rfl, ?_⟩ | refine iteT ?_ | refine iteF ?_ | refine ⟨(by show (0 : Int) < _; omega), ?_⟩ | refine ⟨(⟨by omega, by omega⟩ : CDiv _ _), ?_⟩ | refine ⟨(⟨by decide, by decide, by decide⟩ : CPow _ _), ?_⟩ | refine ⟨(.inl ⟨by omega, by omega⟩ : CMul _ _), ?_⟩ | refine ⟨(.inr ⟨by omega, by omega⟩ : CMul _ _), ?_⟩ | refine Or.inl ⟨_, rfl, ?_⟩ | refine Or.inr ⟨_, rfl, ?_⟩ | refine ⟨_, _, _, _, true, rfl, .ty _, .base (.str _), kit_ty (by decide +kernel), ?_⟩ | refine ⟨_, _, rfl, ⟨by rw [sizeLine_eq]; omega, rfl⟩, ?_⟩ | refine ⟨_, _, rfl, .inl ⟨_, SqL.of (by assumption), rfl⟩, ?_⟩ | refine ⟨_, _, rfl, .inr ⟨_, SqT.of (by assumption), rfl⟩, ?_⟩))
      refine ⟨_, _, _, _, false, rfl, .ty _, .base (.int i), kit_ty (by decide +kernel), ?_⟩
      (repeat (first | refine ⟨_, rfl, ?_⟩ | refine ⟨rfl, ?_⟩ | refine ⟨_, _, rfl, rfl, ?_⟩ | refine iteT ?_ | refine iteF ?_ | refine ⟨(by show (0 : Int) < _; omega), ?_⟩ | refine ⟨(⟨by omega, by omega⟩ : CDiv _ _), ?_⟩ | refine ⟨(⟨by decide, by decide, by decide⟩ : CPow _ _), ?_⟩ | refine ⟨(.inl ⟨by omega, by omega⟩ : CMul _ _), ?_⟩ | refine ⟨(.inr ⟨by omega, by omega⟩ : CMul _ _), ?_⟩ | refine Or.inl ⟨_, rfl, ?_⟩ | refine Or.inr ⟨_, rfl, ?_⟩ | refine ⟨_, _, _, _, true, rfl, .ty _, .base (.str _), kit_ty (by decide +kernel), ?_⟩ | refine ⟨_, _, rfl, ⟨by rw [sizeLine_eq]; omega, rfl⟩, ?_⟩ | refine ⟨_, _, rfl, .inl ⟨_, SqL.of (by assumption), rfl⟩, ?_⟩ | refine ⟨_, _, rfl, .inr ⟨_, SqT.of (by assumption), rfl⟩, ?_⟩))
      exact k H (Same.refl H)
    | bl b =>
      refine ⟨_, _, _, _, true, rfl, .ty _, .base (.bl b), kit_ty (by decide +kernel), ?_⟩
      (repeat (first | refine ⟨_, rfl, ?_⟩ | refine ⟨rfl, ?_⟩ | refine ⟨_, _, rfl, rfl, ?_⟩ | refine iteT ?_ | refine iteF ?_ | refine ⟨(by show (0 : Int) < _; omega), ?_⟩ | refine ⟨(⟨by omega, by omega⟩ : CDiv _ _), ?_⟩ | refine ⟨(⟨by decide, by decide, by decide⟩ : CPow _ _), ?_⟩ | refine ⟨(.inl ⟨by omega, by omega⟩ : CMul _ _), ?_⟩ | refine ⟨(.inr ⟨by omega, by omega⟩ : CMul _ _), ?_⟩ | refine Or.inl ⟨_, rfl, ?_⟩ | refine Or.inr ⟨_, rfl, ?_⟩ | refine ⟨_, _, _, _, true, rfl, .ty _, .base (.str _), kit_ty (by decide +kernel), ?_⟩ | refine ⟨_, _, rfl, ⟨by rw [sizeLine_eq]; omega, rfl⟩, ?_⟩ | refine ⟨_, _, rfl, .inl ⟨_, SqL.of (by assumption), rfl⟩, ?_⟩ | refine ⟨_, _, rfl, .inr ⟨_, SqT.of (by assumption), rfl⟩, ?_⟩))
      refine ⟨_, _, _, _, true, rfl, .ty _, .base (.bl b), kit_ty (by decide +kernel), ?_⟩
      (repeat (first | refine ⟨_, rfl, ?_⟩ | refine ⟨rfl, ?_⟩ | refine ⟨_, _, rfl, rfl, ?_⟩ | refine iteT ?_ | refine iteF ?_ | refine ⟨(by show (0 : Int) < _; omega), ?_⟩ | refine ⟨(⟨by omega, by omega⟩ : CDiv _ _), ?_⟩ | refine ⟨(⟨by decide, by decide, by decide⟩ : CPow _ _), ?_⟩ | refine ⟨(.inl ⟨by omega, by omega⟩ : CMul _ _), ?_⟩ | refine ⟨(.inr ⟨by omega, by omega⟩ : CMul _ _), ?_⟩ | refine Or.inl ⟨_, rfl, ?_⟩ | refine Or.inr ⟨_, rfl, ?_⟩ | refine ⟨_, _, _, _, true, rfl, .ty _, .base (.str _), kit_ty (by decide +kernel), ?_⟩ | refine ⟨_, _, rfl, ⟨by rw [sizeLine_eq]; omega, rfl⟩, ?_⟩ | refine ⟨_, _, rfl, .inl ⟨_, SqL.of (by assumption), rfl⟩, ?_⟩ | refine ⟨_, _, rfl, .inr ⟨_, SqT.of (by assumption), rfl⟩, ?_⟩))
      exact k H (Same.refl H)
    | no ty kt =>
      refine ⟨_, _, _, _, false, rfl, .ty _, ty, kt, ?_⟩
      (repeat (first | refine ⟨_, rfl, ?_⟩ | refine ⟨rfl, ?_⟩ | refine ⟨_, _, rfl, rfl, ?_⟩ | refine iteT ?_ | refine iteF ?_ | refine ⟨(by show (0 : Int) < _; omega), ?_⟩ | refine ⟨(⟨by omega, by omega⟩ : CDiv _ _), ?_⟩ | refine ⟨(⟨by decide, by decide, by decide⟩ : CPow _ _), ?_⟩ | refine ⟨(.inl ⟨by omega, by omega⟩ : CMul _ _), ?_⟩ | refine ⟨(.inr ⟨by omega, by omega⟩ : CMul _ _), ?_⟩ | refine Or.inl ⟨_, rfl, ?_⟩ | refine Or.inr ⟨_, rfl, ?_⟩ | refine ⟨_, _, _, _, true, rfl, .ty _, .base (.str _), kit_ty (by decide +kernel), ?_⟩ | refine ⟨_, _, rfl, ⟨by rw [sizeLine_eq]; omega, rfl⟩, ?_⟩ | refine ⟨_, _, rfl, .inl ⟨_, SqL.of (by assumption), rfl⟩, ?_⟩ | refine ⟨_, _, rfl, .inr ⟨_, SqT.of (by assumption), rfl⟩, ?_⟩))
      exact k H (Same.refl H)
theorem cal_is_row (T : Txt K mg A) : Cal P w K mg base 2 "is_row" (spRow K) [] := by
  refine cal0 T.d_is_row T.b_is_row .nil sc_is_row (fun vs H Q E h => ?_) (fun cdv B outer s H vs Q E hr h => ?_)
  · obtain ⟨v, two, r, rfl, _⟩ := h
    rfl
  · obtain ⟨v, two, r, rfl, hv, k⟩ := h
    refine ⟨_, (pss_cons (ps_if (PW.pt (pw_or (pt_not (pt_val (pe_callB (isiK K) (by rfl) T.z_isinstance (by decide +kernel) (pa_cons (pv 0) (pa_cons (pe_bltn (v := .ty "list") (by rfl) T.z_list (by decide +kernel) rfl) pa_nil))))) (pw_or1 (pt_cmpR op_gt (pe_callB (lenK K) (by rfl) T.z_len (by decide +kernel) (pa_cons (pv 0) pa_nil)) (pe_gint rfl T.g_GREATEST_WIDTH) (nomark _))))) (pss_one (ps_ret pe_bl)) pss_nil)
 (pss_one (ps_ret (pe_callB (allK K rfl) (by rfl) T.z_all (by decide +kernel) (pa_cons (pe_lc (own := [("entry", 2)]) (g := gName 2) rfl sc_is_row.nd (pi_list (pv 0)) (blkOk_by (own := [("entry", 2)]) (N := N_is_row) (sc := fnScope s_is_row) (by decide +kernel)) (fun _ _ _ _ _ => (pg_name (i := 2) sc_is_row.nd rfl (by first | exact Or.inl rfl | exact Or.inr rfl))) (fun _ _ _ _ _ => pts_nil) (fun _ _ _ _ _ => (pe_and (pe_c (cal_is_integer T) hr (by decide) rfl (pa_cons (pv 2) pa_nil)) (pe_one (pe_or (pe_cmpR op_eq (pv 1) pe_str (nomark _)) (pe_one (pe_cmpR (in_seqK K) (pv 2) (pe_tup (pa_cons pe_int (pa_cons pe_int pa_nil))) rfl))))))) pa_nil))))), ?_⟩
    (repeat (first | refine ⟨_, rfl, ?_⟩ | refine ⟨rfl, ?_⟩ | refine ⟨_, _, rfl, rfl, ?_⟩ | refine iteT ?_ | refine iteF ?_ | refine ⟨(by show (0 : Int) < _; omega), ?_⟩ | refine ⟨(⟨by omega, by omega⟩ : CDiv _ _), ?_⟩ | refine ⟨(⟨by decide, by decide, by decide⟩ : CPow _ _), ?_⟩ | refine ⟨(.inl ⟨by omega, by omega⟩ : CMul _ _), ?_⟩ | refine ⟨(.inr ⟨by omega, by omega⟩ : CMul _ _), ?_⟩ | refine Or.inl ⟨_, rfl, ?_⟩ | refine Or.inr ⟨_, rfl, ?_⟩ | refine ⟨_, _, _, _, true, rfl, .ty _, .base (.str _), kit_ty (by decide +kernel), ?_⟩ | refine ⟨_, _, rfl, ⟨by rw [sizeLine_eq]; omega, rfl⟩, ?_⟩ | refine ⟨_, _, rfl, .inl ⟨_, SqL.of (by assumption), rfl⟩, ?_⟩ | refine ⟨_, _, rfl, .inr ⟨_, SqT.of (by assumption), rfl⟩, ?_⟩))
    cases hv with
    | no ty kt =>
      refine ⟨_, _, _, _, false, rfl, .ty _, ty, kt, ?_⟩
      (repeat (first | refine ⟨_, rfl, ?_⟩ | refine ⟨rfl, ?_⟩ | refine ⟨_, _, rfl, rfl, ?_⟩ | refine iteT ?_ | refine iteF ?_ | refine ⟨(by show (0 : Int) < _; omega), ?_⟩ | refine ⟨(⟨by omega, by omega⟩ : CDiv _ _), ?_⟩ | refine ⟨(⟨by decide, by decide, by decide⟩ : CPow _ _), ?_⟩ | refine ⟨(.inl ⟨by omega, by omega⟩ : CMul _ _), ?_⟩ | refine ⟨(.inr ⟨by omega, by omega⟩ : CMul _ _), ?_⟩ | refine Or.inl ⟨_, rfl, ?_⟩ | refine Or.inr ⟨_, rfl, ?_⟩ | refine ⟨_, _, _, _, true, rfl, .ty _, .base (.str _), kit_ty (by decide +kernel), ?_⟩ | refine ⟨_, _, rfl, ⟨by rw [sizeLine_eq]; omega, rfl⟩, ?_⟩ | refine ⟨_, _, rfl, .inl ⟨_, SqL.of (by assumption), rfl⟩, ?_⟩ | refine ⟨_, _, rfl, .inr ⟨_, SqT.of (by assumption), rfl⟩, ?_⟩))
      exact k H (Same.refl H)
    | @lst p xs os hp he hl _ =>
      have hlen : xs.length = os.length := he.length
      refine ⟨_, _, _, _, true, rfl, .ty _, .base (.lst hp), kit_ty (by decide +kernel), ?_⟩
      (repeat (first | refine ⟨_, rfl, ?_⟩ | refine ⟨rfl, ?_⟩ | refine ⟨_, _, rfl, rfl, ?_⟩ | refine iteT ?_ | refine iteF ?_ | refine ⟨(by show (0 : Int) < _; omega), ?_⟩ | refine ⟨(⟨by omega, by omega⟩ : CDiv _ _), ?_⟩ | refine ⟨(⟨by decide, by decide, by decide⟩ : CPow _ _), ?_⟩ | refine ⟨(.inl ⟨by omega, by omega⟩ : CMul _ _), ?_⟩ | refine ⟨(.inr ⟨by omega, by omega⟩ : CMul _ _), ?_⟩ | refine Or.inl ⟨_, rfl, ?_⟩ | refine Or.inr ⟨_, rfl, ?_⟩ | refine ⟨_, _, _, _, true, rfl, .ty _, .base (.str _), kit_ty (by decide +kernel), ?_⟩ | refine ⟨_, _, rfl, ⟨by rw [sizeLine_eq]; omega, rfl⟩, ?_⟩ | refine ⟨_, _, rfl, .inl ⟨_, SqL.of (by assumption), rfl⟩, ?_⟩ | refine ⟨_, _, rfl, .inr ⟨_, SqT.of (by assumption), rfl⟩, ?_⟩))
      by_cases h24 : (24 : Int) < (xs.length : Int)
      · rw [decide_eq_true h24]
        (repeat (first | refine ⟨_, rfl, ?_⟩ | refine ⟨rfl, ?_⟩ | refine ⟨_, _, rfl, rfl, ?_⟩ | refine iteT ?_ | refine iteF ?_ | refine ⟨(by show (0 : Int) < _; omega), ?_⟩ | refine ⟨(⟨by omega, by omega⟩ : CDiv _ _), ?_⟩ | refine ⟨(⟨by decide, by decide, by decide⟩ : CPow _ _), ?_⟩ | refine ⟨(.inl ⟨by omega, by omega⟩ : CMul _ _), ?_⟩ | refine ⟨(.inr ⟨by omega, by omega⟩ : CMul _ _), ?_⟩ | refine Or.inl ⟨_, rfl, ?_⟩ | refine Or.inr ⟨_, rfl, ?_⟩ | refine ⟨_, _, _, _, true, rfl, .ty _, .base (.str _), kit_ty (by decide +kernel), ?_⟩ | refine ⟨_, _, rfl, ⟨by rw [sizeLine_eq]; omega, rfl⟩, ?_⟩ | refine ⟨_, _, rfl, .inl ⟨_, SqL.of (by assumption), rfl⟩, ?_⟩ | refine ⟨_, _, rfl, .inr ⟨_, SqT.of (by assumption), rfl⟩, ?_⟩))
        have q := k H (Same.refl H)
        rw [goodR_row, decide_eq_false (by omega)] at q
        exact q
      · rw [decide_eq_false h24]
        (repeat (first | refine ⟨_, rfl, ?_⟩ | refine ⟨rfl, ?_⟩ | refine ⟨_, _, rfl, rfl, ?_⟩ | refine iteT ?_ | refine iteF ?_ | refine ⟨(by show (0 : Int) < _; omega), ?_⟩ | refine ⟨(⟨by omega, by omega⟩ : CDiv _ _), ?_⟩ | refine ⟨(⟨by decide, by decide, by decide⟩ : CPow _ _), ?_⟩ | refine ⟨(.inl ⟨by omega, by omega⟩ : CMul _ _), ?_⟩ | refine ⟨(.inr ⟨by omega, by omega⟩ : CMul _ _), ?_⟩ | refine Or.inl ⟨_, rfl, ?_⟩ | refine Or.inr ⟨_, rfl, ?_⟩ | refine ⟨_, _, _, _, true, rfl, .ty _, .base (.str _), kit_ty (by decide +kernel), ?_⟩ | refine ⟨_, _, rfl, ⟨by rw [sizeLine_eq]; omega, rfl⟩, ?_⟩ | refine ⟨_, _, rfl, .inl ⟨_, SqL.of (by assumption), rfl⟩, ?_⟩ | refine ⟨_, _, rfl, .inr ⟨_, SqT.of (by assumption), rfl⟩, ?_⟩))
        refine ⟨⟨_, SqL.of hp⟩, fun D nD => ?_⟩
        refine lc_it walk_list (fun i H' => Same H H' ∧ H' D = some (.lst (((os.take i).map (okEnt two)).map V.bl))) ⟨Same.new nD, upd_same⟩ (fun _ H' _ q => SqL.of (q.1 _ _ hp)) ?_ ?_
        · rintro i v H1 H2 hi ⟨s1, hD⟩ ⟨rfl, hv⟩
          obtain ⟨o, ho, hev⟩ : ∃ o, os[i]? = some o ∧ EV K H v o := paired_at he hv
          refine ⟨rfl, ?_⟩
          refine ⟨_, rfl, _, _, rfl, hev.same s1, fun H3 s3 => ?_⟩
          have s13 := s1.trans s3
          have hD3 := s3 _ _ hD
          have put : ∀ (H4 : Hp) (b : Bool), Same H3 H4 → b = okEnt two o → ∃ acc, H4 D = some (.lst acc) ∧ acc.length < sizeLine ∧ Same H (upd H4 D (.lst (acc ++ [V.bl b]))) ∧ upd H4 D (.lst (acc ++ [V.bl b])) D = some (.lst (((os.take (i + 1)).map (okEnt two)).map V.bl)) := by
            intro H4 b s4 e
            refine ⟨_, s4 _ _ hD3, small1000 (by simp only [List.length_map, List.length_take]; omega), Same.put (s13.trans s4) nD, ?_⟩
            rw [upd_same, take_snoc (okEnt two) ho, e, List.map_append]
            rfl
          cases hev with
          | bl b =>
            (repeat (first | refine ⟨_, rfl, ?_⟩ | refine ⟨rfl, ?_⟩ | refine ⟨_, _, rfl, rfl, ?_⟩ | refine iteT ?_ | refine iteF ?_ | refine ⟨(by show (0 : Int) < _; omega), ?_⟩ | refine ⟨(⟨by omega, by omega⟩ : CDiv _ _), ?_⟩ | refine ⟨(⟨by decide, by decide, by decide⟩ : CPow _ _), ?_⟩ | refine ⟨(.inl ⟨by omega, by omega⟩ : CMul _ _), ?_⟩ | refine ⟨(.inr ⟨by omega, by omega⟩ : CMul _ _), ?_⟩ | refine Or.inl ⟨_, rfl, ?_⟩ | refine Or.inr ⟨_, rfl, ?_⟩ | refine ⟨_, _, _, _, true, rfl, .ty _, .base (.str _), kit_ty (by decide +kernel), ?_⟩ | refine ⟨_, _, rfl, ⟨by rw [sizeLine_eq]; omega, rfl⟩, ?_⟩ | refine ⟨_, _, rfl, .inl ⟨_, SqL.of (by assumption), rfl⟩, ?_⟩ | refine ⟨_, _, rfl, .inr ⟨_, SqT.of (by assumption), rfl⟩, ?_⟩))
            exact put H3 false (Same.refl H3) rfl
          | no ty kt =>
            (repeat (first | refine ⟨_, rfl, ?_⟩ | refine ⟨rfl, ?_⟩ | refine ⟨_, _, rfl, rfl, ?_⟩ | refine iteT ?_ | refine iteF ?_ | refine ⟨(by show (0 : Int) < _; omega), ?_⟩ | refine ⟨(⟨by omega, by omega⟩ : CDiv _ _), ?_⟩ | refine ⟨(⟨by decide, by decide, by decide⟩ : CPow _ _), ?_⟩ | refine ⟨(.inl ⟨by omega, by omega⟩ : CMul _ _), ?_⟩ | refine ⟨(.inr ⟨by omega, by omega⟩ : CMul _ _), ?_⟩ | refine Or.inl ⟨_, rfl, ?_⟩ | refine Or.inr ⟨_, rfl, ?_⟩ | refine ⟨_, _, _, _, true, rfl, .ty _, .base (.str _), kit_ty (by decide +kernel), ?_⟩ | refine ⟨_, _, rfl, ⟨by rw [sizeLine_eq]; omega, rfl⟩, ?_⟩ | refine ⟨_, _, rfl, .inl ⟨_, SqL.of (by assumption), rfl⟩, ?_⟩ | refine ⟨_, _, rfl, .inr ⟨_, SqT.of (by assumption), rfl⟩, ?_⟩))
            exact put H3 false (Same.refl H3) rfl
          | int i =>
            (repeat (first | refine ⟨_, rfl, ?_⟩ | refine ⟨rfl, ?_⟩ | refine ⟨_, _, rfl, rfl, ?_⟩ | refine iteT ?_ | refine iteF ?_ | refine ⟨(by show (0 : Int) < _; omega), ?_⟩ | refine ⟨(⟨by omega, by omega⟩ : CDiv _ _), ?_⟩ | refine ⟨(⟨by decide, by decide, by decide⟩ : CPow _ _), ?_⟩ | refine ⟨(.inl ⟨by omega, by omega⟩ : CMul _ _), ?_⟩ | refine ⟨(.inr ⟨by omega, by omega⟩ : CMul _ _), ?_⟩ | refine Or.inl ⟨_, rfl, ?_⟩ | refine Or.inr ⟨_, rfl, ?_⟩ | refine ⟨_, _, _, _, true, rfl, .ty _, .base (.str _), kit_ty (by decide +kernel), ?_⟩ | refine ⟨_, _, rfl, ⟨by rw [sizeLine_eq]; omega, rfl⟩, ?_⟩ | refine ⟨_, _, rfl, .inl ⟨_, SqL.of (by assumption), rfl⟩, ?_⟩ | refine ⟨_, _, rfl, .inr ⟨_, SqT.of (by assumption), rfl⟩, ?_⟩))
            cases two with
            | false =>
              (repeat (first | refine ⟨_, rfl, ?_⟩ | refine ⟨rfl, ?_⟩ | refine ⟨_, _, rfl, rfl, ?_⟩ | refine iteT ?_ | refine iteF ?_ | refine ⟨(by show (0 : Int) < _; omega), ?_⟩ | refine ⟨(⟨by omega, by omega⟩ : CDiv _ _), ?_⟩ | refine ⟨(⟨by decide, by decide, by decide⟩ : CPow _ _), ?_⟩ | refine ⟨(.inl ⟨by omega, by omega⟩ : CMul _ _), ?_⟩ | refine ⟨(.inr ⟨by omega, by omega⟩ : CMul _ _), ?_⟩ | refine Or.inl ⟨_, rfl, ?_⟩ | refine Or.inr ⟨_, rfl, ?_⟩ | refine ⟨_, _, _, _, true, rfl, .ty _, .base (.str _), kit_ty (by decide +kernel), ?_⟩ | refine ⟨_, _, rfl, ⟨by rw [sizeLine_eq]; omega, rfl⟩, ?_⟩ | refine ⟨_, _, rfl, .inl ⟨_, SqL.of (by assumption), rfl⟩, ?_⟩ | refine ⟨_, _, rfl, .inr ⟨_, SqT.of (by assumption), rfl⟩, ?_⟩))
              exact put H3 true (Same.refl H3) rfl
            | true =>
              (repeat (first | refine ⟨_, rfl, ?_⟩ | refine ⟨rfl, ?_⟩ | refine ⟨_, _, rfl, rfl, ?_⟩ | refine iteT ?_ | refine iteF ?_ | refine ⟨(by show (0 : Int) < _; omega), ?_⟩ | refine ⟨(⟨by omega, by omega⟩ : CDiv _ _), ?_⟩ | refine ⟨(⟨by decide, by decide, by decide⟩ : CPow _ _), ?_⟩ | refine ⟨(.inl ⟨by omega, by omega⟩ : CMul _ _), ?_⟩ | refine ⟨(.inr ⟨by omega, by omega⟩ : CMul _ _), ?_⟩ | refine Or.inl ⟨_, rfl, ?_⟩ | refine Or.inr ⟨_, rfl, ?_⟩ | refine ⟨_, _, _, _, true, rfl, .ty _, .base (.str _), kit_ty (by decide +kernel), ?_⟩ | refine ⟨_, _, rfl, ⟨by rw [sizeLine_eq]; omega, rfl⟩, ?_⟩ | refine ⟨_, _, rfl, .inl ⟨_, SqL.of (by assumption), rfl⟩, ?_⟩ | refine ⟨_, _, rfl, .inr ⟨_, SqT.of (by assumption), rfl⟩, ?_⟩))
              refine ⟨(by show 2 ≤ sizeLine; rw [sizeLine_eq]; omega), fun t nt => ?_⟩
              refine ⟨t, _, rfl, .inr (SqT.of upd_same), rfl, rfl, ?_⟩
              refine put _ _ (Same.new nt) ?_
              exact in_01 i
        · rintro H1 ⟨s1, hD⟩
          refine ⟨D, _, rfl, SqL.of hD, ?_⟩
          have e := k H1 s1
          rw [goodR_row, decide_eq_true (by omega), Bool.true_and] at e
          rw [hlen, List.take_of_length_le (Nat.le_refl _), List.all_map]
          exact e
end
end BF43
set_option Elab.async false
set_option linter.all false
set_option maxRecDepth 100000
set_option maxHeartbeats 4000000
namespace BF43
open BF
open PySem PySem.Spec PyProof.Rows L2
open C8 (Cal CalAt Met Mak cal0 met0 mak0 fn0 pe_c pe_mk pe_mt pe_mt0 pe_gc fnScope fnBody fnArgs fnScope_by)
open SX
theorem from_13 (n : Nat) (h : n < (Str.ofString "abcdefghijklm").cps.toList.length) : ∃ c, (Str.ofString "abcdefghijklm").cps.toList[n] = c ∧ 97 ≤ c ∧ c ≤ 109 := by
  have e : (Str.ofString "abcdefghijklm").cps.toList = List.range' 97 13 := by decide +kernel
  refine ⟨_, rfl, ?_⟩
  have m : (Str.ofString "abcdefghijklm").cps.toList[n] ∈ List.range' 97 13 := by rw [← e]; exact List.getElem_mem h
  rw [List.mem_range'_1] at m
  omega
theorem from_4 (n : Nat) (h : n < (Str.ofString "nopz").cps.toList.length) : isLow (Str.ofString "nopz").cps.toList[n] = true := by
  have e : ∀ c ∈ (Str.ofString "nopz").cps.toList, isLow c = true := by decide +kernel
  exact e _ (List.getElem_mem h)
theorem from_9 (n : Nat) (h : n < (Str.ofString "qrstuvwxy").cps.toList.length) : (Str.ofString "qrstuvwxy").cps.toList[n] = 113 + n := by
  have e : (Str.ofString "qrstuvwxy").cps.toList = List.range' 113 9 := by decide +kernel
  have m : (Str.ofString "qrstuvwxy").cps.toList[n]? = (List.range' 113 9)[n]? := by rw [e]
  rw [List.getElem?_eq_getElem h] at m
  have h9 : n < 9 := by rw [e, List.length_range'] at h; exact h
  rw [List.getElem?_eq_getElem (by rw [List.length_range']; exact h9)] at m
  have m := Option.some.inj m
  rw [List.getElem_range'] at m
  omega
/-- a name of the turns ahead of i -/
def NmAt (i : Nat) (x : Str) : Prop := ∃ (c : Nat) (r : List Nat), x = S (c :: r) ∧ r.length ≤ 7 ∧ (∀ d ∈ r, isLow d = true) ∧ ((97 ≤ c ∧ c ≤ 109) ∨ (113 ≤ c ∧ c < 113 + i))
theorem NmAt.mono {i j : Nat} {x : Str} (h : NmAt i x) (hij : i ≤ j) : NmAt j x := by
  obtain ⟨c, r, e, h1, h2, h3⟩ := h
  exact ⟨c, r, e, h1, h2, by omega⟩
theorem NmAt.nm {i : Nat} {x : Str} (h : NmAt i x) (h9 : i ≤ 9) : NmK x := by
  obtain ⟨c, r, rfl, h1, h2, h3⟩ := h
  refine ⟨?_, ?_⟩
  · have e : (S (c :: r)).cps.toList = c :: r := rfl
    unfold isNm
    rw [S_len, e]
    simp only [Bool.and_eq_true, decide_eq_true_eq, List.all_eq_true, List.length_cons]
    refine ⟨⟨by omega, by omega⟩, fun d hd => ?_⟩
    rcases List.mem_cons.mp hd with rfl | hd
    · unfold isLow
      simp only [Bool.and_eq_true, decide_eq_true_eq]
      omega
    · exact h2 d hd
  · show c ≠ 122
    omega
theorem slice_6 (l : List Nat) : Txt.slice (S l) none (some 6) = S (l.take 6) := SX.slice_to (by omega)
theorem sign_S (c : Nat) : (⟨#[c]⟩ : Str) = S [c] := rfl
section
variable {P : Program} {w : World} {K : PySem.W.Frag} {mg : Str → Option Value} {base : Heap} {A : Ad}
theorem cal_law_field (T : Txt K mg A) : Cal P w K mg base 2 "_law_field" spField [] := by
  refine cal0 T.d_law_field T.b_law_field .nil sc_law_field (fun vs H Q E h => ?_) (fun cdv B outer s H vs Q E hr h => ?_)
  · obtain ⟨wl, c, rfl, _⟩ := h
    rfl
  · obtain ⟨wl, c, rfl, hS, k⟩ := h
    refine ⟨_, (pss_one (ps_ret (pe_ix (ixLK K) (pe_lst (pa_cons pe_str (pa_cons pe_str pa_nil))) (pe_c (cal_law_draw T) hr (by decide) rfl (pa_cons (pv 0) (pa_cons pe_int pa_nil))) (fun _ _ => rfl)))), ?_⟩
    (repeat (first | refine ⟨_, rfl, ?_⟩ | refine ⟨rfl, ?_⟩ | refine ⟨_, _, rfl, rfl, ?_⟩ | refine iteT ?_ | refine iteF ?_ | refine ⟨(by show (0 : Int) < _; omega), ?_⟩ | refine ⟨(⟨by omega, by omega⟩ : CDiv _ _), ?_⟩ | refine ⟨(⟨by decide, by decide, by decide⟩ : CPow _ _), ?_⟩ | refine ⟨(.inl ⟨by omega, by omega⟩ : CMul _ _), ?_⟩ | refine ⟨(.inr ⟨by omega, by omega⟩ : CMul _ _), ?_⟩ | refine Or.inl ⟨_, rfl, ?_⟩ | refine Or.inr ⟨_, rfl, ?_⟩ | refine ⟨_, _, _, _, true, rfl, .ty _, .base (.str _), kit_ty (by decide +kernel), ?_⟩ | refine ⟨_, _, rfl, ⟨by rw [sizeLine_eq]; omega, rfl⟩, ?_⟩ | refine ⟨_, _, rfl, .inl ⟨_, SqL.of (by assumption), rfl⟩, ?_⟩ | refine ⟨_, _, rfl, .inr ⟨_, SqT.of (by assumption), rfl⟩, ?_⟩))
    refine ⟨(by show 2 ≤ sizeLine; rw [sizeLine_eq]; omega), fun l nl => ?_⟩
    have k1 : KpS wl c H (upd H l (.lst [V.str "two", V.str "whole"])) := (KpS.refl wl c H).put hS nl
    (repeat (first | refine ⟨_, rfl, ?_⟩ | refine ⟨rfl, ?_⟩ | refine ⟨_, _, rfl, rfl, ?_⟩ | refine iteT ?_ | refine iteF ?_ | refine ⟨(by show (0 : Int) < _; omega), ?_⟩ | refine ⟨(⟨by omega, by omega⟩ : CDiv _ _), ?_⟩ | refine ⟨(⟨by decide, by decide, by decide⟩ : CPow _ _), ?_⟩ | refine ⟨(.inl ⟨by omega, by omega⟩ : CMul _ _), ?_⟩ | refine ⟨(.inr ⟨by omega, by omega⟩ : CMul _ _), ?_⟩ | refine Or.inl ⟨_, rfl, ?_⟩ | refine Or.inr ⟨_, rfl, ?_⟩ | refine ⟨_, _, _, _, true, rfl, .ty _, .base (.str _), kit_ty (by decide +kernel), ?_⟩ | refine ⟨_, _, rfl, ⟨by rw [sizeLine_eq]; omega, rfl⟩, ?_⟩ | refine ⟨_, _, rfl, .inl ⟨_, SqL.of (by assumption), rfl⟩, ?_⟩ | refine ⟨_, _, rfl, .inr ⟨_, SqT.of (by assumption), rfl⟩, ?_⟩))
    refine ⟨wl, c, 2, rfl, k1.st hS, by omega, by omega, fun n H1 h0 h1 k2 => ?_⟩
    have hl := k2.keep _ _ (hS.ne nl) upd_same
    have : n = 0 ∨ n = 1 := by omega
    rcases this with rfl | rfl
    · exact ⟨l, _, 0, _, rfl, rfl, SqL.of hl, rfl, k true H1 (k1.trans k2)⟩
    · exact ⟨l, _, 1, _, rfl, rfl, SqL.of hl, rfl, k false H1 (k1.trans k2)⟩
theorem cal_law_names (T : Txt K mg A) : Cal P w K mg base 2 "_law_names" spNamesS [] := by
  refine cal0 T.d_law_names T.b_law_names .nil sc_law_names (fun vs H Q E h => ?_) (fun cdv B outer s H vs Q E hr h => ?_)
  · obtain ⟨wl, c, m, rfl, _⟩ := h
    rfl
  · obtain ⟨wl, c, m, rfl, hS, h0, hm, k⟩ := h
    refine ⟨_, (pss_cons (ps_set (i := 2) sc_law_names.nd rfl (by first | exact Or.inl rfl | exact Or.inr rfl) (pe_lst pa_nil))
 (pss_cons (ps_for PassesOwn.never rfl (pi_range1 (by rfl) T.z_range (pa_cons (pv 1) pa_nil)) (pg_name (i := 3) sc_law_names.nd rfl (by first | exact Or.inl rfl | exact Or.inr rfl)) (pss_cons (ps_set (i := 4) sc_law_names.nd rfl (by first | exact Or.inl rfl | exact Or.inr rfl) (pe_ix ix_str pe_str (pe_c (cal_law_draw T) hr (by decide) rfl (pa_cons (pv 0) (pa_cons pe_int pa_nil))) (fun _ _ => rfl)))
 (pss_cons (ps_if (pt_cmpR op_eq (pe_c (cal_law_draw T) hr (by decide) rfl (pa_cons (pv 0) (pa_cons pe_int pa_nil))) pe_int (nomark _)) (pss_one (ps_set (i := 4) sc_law_names.nd rfl (by first | exact Or.inl rfl | exact Or.inr rfl) (pe_op op_add_str (pv 4) (pe_op op_repS (pe_ix ix_str pe_str (pe_c (cal_law_draw T) hr (by decide) rfl (pa_cons (pv 0) (pa_cons pe_int pa_nil))) (fun _ _ => rfl)) (pe_op op_add pe_int (pe_c (cal_law_draw T) hr (by decide) rfl (pa_cons (pv 0) (pa_cons pe_int pa_nil)))))))) pss_nil)
 (pss_cons (ps_if (pt_cmpR (in_seqK K) (pv 4) (pv 2) rfl) (pss_one (ps_set (i := 4) sc_law_names.nd rfl (by first | exact Or.inl rfl | exact Or.inr rfl) (pe_op op_add_str (pe_ix ix_str pe_str (pv 3) (fun _ _ => rfl)) (pe_slice C8.sl_txt (pv 4) po_none (po_some pe_int))))) pss_nil)
 (pss_one (ps_expr (pe_bm PySem.F.plainAttrs_list PySem.F.slot_list_append PySem.F.type_list_append mt_append (pv 2) (pa_cons (pv 4) pa_nil))))))))
 (pss_one (ps_ret (pe_callB (sortedSK K) (by rfl) T.z_sorted (by decide +kernel) (pa_cons (pv 2) pa_nil)))))), ?_⟩
    (repeat (first | refine ⟨_, rfl, ?_⟩ | refine ⟨rfl, ?_⟩ | refine ⟨_, _, rfl, rfl, ?_⟩ | refine iteT ?_ | refine iteF ?_ | refine ⟨(by show (0 : Int) < _; omega), ?_⟩ | refine ⟨(⟨by omega, by omega⟩ : CDiv _ _), ?_⟩ | refine ⟨(⟨by decide, by decide, by decide⟩ : CPow _ _), ?_⟩ | refine ⟨(.inl ⟨by omega, by omega⟩ : CMul _ _), ?_⟩ | refine ⟨(.inr ⟨by omega, by omega⟩ : CMul _ _), ?_⟩ | refine Or.inl ⟨_, rfl, ?_⟩ | refine Or.inr ⟨_, rfl, ?_⟩ | refine ⟨_, _, _, _, true, rfl, .ty _, .base (.str _), kit_ty (by decide +kernel), ?_⟩ | refine ⟨_, _, rfl, ⟨by rw [sizeLine_eq]; omega, rfl⟩, ?_⟩ | refine ⟨_, _, rfl, .inl ⟨_, SqL.of (by assumption), rfl⟩, ?_⟩ | refine ⟨_, _, rfl, .inr ⟨_, SqT.of (by assumption), rfl⟩, ?_⟩))
    refine ⟨Nat.zero_le _, fun f nf => ?_⟩
    have kp0 : KpS wl c H (upd H f (.lst [])) := (KpS.refl wl c H).put hS nf
    have fw := hS.ne nf
    (repeat (first | refine ⟨_, rfl, ?_⟩ | refine ⟨rfl, ?_⟩ | refine ⟨_, _, rfl, rfl, ?_⟩ | refine iteT ?_ | refine iteF ?_ | refine ⟨(by show (0 : Int) < _; omega), ?_⟩ | refine ⟨(⟨by omega, by omega⟩ : CDiv _ _), ?_⟩ | refine ⟨(⟨by decide, by decide, by decide⟩ : CPow _ _), ?_⟩ | refine ⟨(.inl ⟨by omega, by omega⟩ : CMul _ _), ?_⟩ | refine ⟨(.inr ⟨by omega, by omega⟩ : CMul _ _), ?_⟩ | refine Or.inl ⟨_, rfl, ?_⟩ | refine Or.inr ⟨_, rfl, ?_⟩ | refine ⟨_, _, _, _, true, rfl, .ty _, .base (.str _), kit_ty (by decide +kernel), ?_⟩ | refine ⟨_, _, rfl, ⟨by rw [sizeLine_eq]; omega, rfl⟩, ?_⟩ | refine ⟨_, _, rfl, .inl ⟨_, SqL.of (by assumption), rfl⟩, ?_⟩ | refine ⟨_, _, rfl, .inr ⟨_, SqT.of (by assumption), rfl⟩, ?_⟩))
    refine ⟨by omega, by omega, for_it walk_range (fun i σ H' => ∃ (xs : List Str) (v3 v4 : Option V), σ = [some (.ref wl), some (.int m), some (.ref f), v3, v4] ∧ KpS wl c H H' ∧ H' f = some (.lst (xs.map V.str)) ∧ xs.length = i ∧ xs.Nodup ∧ ∀ x ∈ xs, NmAt i x)
      ⟨[], _, _, rfl, kp0, upd_same, rfl, List.nodup_nil, fun x hx => by cases hx⟩ (fun _ _ _ _ _ => True.intro) ?_ ?_⟩
    · rintro i v σ H1 H2 hi ⟨xs, v3, v4, rfl, kp, hF, hlen, hnd, hsh⟩ ⟨rfl, rfl⟩
      have hi9 : i < 9 := by omega
      (repeat (first | refine ⟨_, rfl, ?_⟩ | refine ⟨rfl, ?_⟩ | refine ⟨_, _, rfl, rfl, ?_⟩ | refine iteT ?_ | refine iteF ?_ | refine ⟨(by show (0 : Int) < _; omega), ?_⟩ | refine ⟨(⟨by omega, by omega⟩ : CDiv _ _), ?_⟩ | refine ⟨(⟨by decide, by decide, by decide⟩ : CPow _ _), ?_⟩ | refine ⟨(.inl ⟨by omega, by omega⟩ : CMul _ _), ?_⟩ | refine ⟨(.inr ⟨by omega, by omega⟩ : CMul _ _), ?_⟩ | refine Or.inl ⟨_, rfl, ?_⟩ | refine Or.inr ⟨_, rfl, ?_⟩ | refine ⟨_, _, _, _, true, rfl, .ty _, .base (.str _), kit_ty (by decide +kernel), ?_⟩ | refine ⟨_, _, rfl, ⟨by rw [sizeLine_eq]; omega, rfl⟩, ?_⟩ | refine ⟨_, _, rfl, .inl ⟨_, SqL.of (by assumption), rfl⟩, ?_⟩ | refine ⟨_, _, rfl, .inr ⟨_, SqT.of (by assumption), rfl⟩, ?_⟩))
      refine ⟨wl, c, 13, rfl, kp.st hS, by omega, by omega, fun n1 H3 a1 b1 k1 => ?_⟩
      have hn1 : n1.toNat < (Str.ofString "abcdefghijklm").cps.toList.length := by
        have : (Str.ofString "abcdefghijklm").cps.toList.length = 13 := by decide +kernel
        omega
      refine ⟨_, n1, _, rfl, rfl, (by show 13 ≤ sizeLine; rw [sizeLine_eq]; omega), atN_of a1 hn1, ?_⟩
      obtain ⟨c0, ec, g1, g2⟩ := from_13 _ hn1
      rw [ec, sign_S]
      have kp3 := kp.trans k1
      have hF3 := k1.keep _ _ fw hF
      (repeat (first | refine ⟨_, rfl, ?_⟩ | refine ⟨rfl, ?_⟩ | refine ⟨_, _, rfl, rfl, ?_⟩ | refine iteT ?_ | refine iteF ?_ | refine ⟨(by show (0 : Int) < _; omega), ?_⟩ | refine ⟨(⟨by omega, by omega⟩ : CDiv _ _), ?_⟩ | refine ⟨(⟨by decide, by decide, by decide⟩ : CPow _ _), ?_⟩ | refine ⟨(.inl ⟨by omega, by omega⟩ : CMul _ _), ?_⟩ | refine ⟨(.inr ⟨by omega, by omega⟩ : CMul _ _), ?_⟩ | refine Or.inl ⟨_, rfl, ?_⟩ | refine Or.inr ⟨_, rfl, ?_⟩ | refine ⟨_, _, _, _, true, rfl, .ty _, .base (.str _), kit_ty (by decide +kernel), ?_⟩ | refine ⟨_, _, rfl, ⟨by rw [sizeLine_eq]; omega, rfl⟩, ?_⟩ | refine ⟨_, _, rfl, .inl ⟨_, SqL.of (by assumption), rfl⟩, ?_⟩ | refine ⟨_, _, rfl, .inr ⟨_, SqT.of (by assumption), rfl⟩, ?_⟩))
      refine ⟨wl, c, 3, rfl, kp3.st hS, by omega, by omega, fun n2 H4 a2 b2 k2 => ?_⟩
      have kp4 := kp3.trans k2
      have hF4 := k2.keep _ _ fw hF3
      (repeat (first | refine ⟨_, rfl, ?_⟩ | refine ⟨rfl, ?_⟩ | refine ⟨_, _, rfl, rfl, ?_⟩ | refine iteT ?_ | refine iteF ?_ | refine ⟨(by show (0 : Int) < _; omega), ?_⟩ | refine ⟨(⟨by omega, by omega⟩ : CDiv _ _), ?_⟩ | refine ⟨(⟨by decide, by decide, by decide⟩ : CPow _ _), ?_⟩ | refine ⟨(.inl ⟨by omega, by omega⟩ : CMul _ _), ?_⟩ | refine ⟨(.inr ⟨by omega, by omega⟩ : CMul _ _), ?_⟩ | refine Or.inl ⟨_, rfl, ?_⟩ | refine Or.inr ⟨_, rfl, ?_⟩ | refine ⟨_, _, _, _, true, rfl, .ty _, .base (.str _), kit_ty (by decide +kernel), ?_⟩ | refine ⟨_, _, rfl, ⟨by rw [sizeLine_eq]; omega, rfl⟩, ?_⟩ | refine ⟨_, _, rfl, .inl ⟨_, SqL.of (by assumption), rfl⟩, ?_⟩ | refine ⟨_, _, rfl, .inr ⟨_, SqT.of (by assumption), rfl⟩, ?_⟩))
      refine ite2 (fun c2 => ?_) (fun c2 => ?_)
      · (repeat (first | refine ⟨_, rfl, ?_⟩ | refine ⟨rfl, ?_⟩ | refine ⟨_, _, rfl, rfl, ?_⟩ | refine iteT ?_ | refine iteF ?_ | refine ⟨(by show (0 : Int) < _; omega), ?_⟩ | refine ⟨(⟨by omega, by omega⟩ : CDiv _ _), ?_⟩ | refine ⟨(⟨by decide, by decide, by decide⟩ : CPow _ _), ?_⟩ | refine ⟨(.inl ⟨by omega, by omega⟩ : CMul _ _), ?_⟩ | refine ⟨(.inr ⟨by omega, by omega⟩ : CMul _ _), ?_⟩ | refine Or.inl ⟨_, rfl, ?_⟩ | refine Or.inr ⟨_, rfl, ?_⟩ | refine ⟨_, _, _, _, true, rfl, .ty _, .base (.str _), kit_ty (by decide +kernel), ?_⟩ | refine ⟨_, _, rfl, ⟨by rw [sizeLine_eq]; omega, rfl⟩, ?_⟩ | refine ⟨_, _, rfl, .inl ⟨_, SqL.of (by assumption), rfl⟩, ?_⟩ | refine ⟨_, _, rfl, .inr ⟨_, SqT.of (by assumption), rfl⟩, ?_⟩))
        refine ⟨wl, c, 4, rfl, kp4.st hS, by omega, by omega, fun n3 H5 a3 b3 k3 => ?_⟩
        have hn3 : n3.toNat < (Str.ofString "nopz").cps.toList.length := by
          have : (Str.ofString "nopz").cps.toList.length = 4 := by decide +kernel
          omega
        refine ⟨_, n3, _, rfl, rfl, (by show 4 ≤ sizeLine; rw [sizeLine_eq]; omega), atN_of a3 hn3, ?_⟩
        have low := from_4 _ hn3
        generalize (Str.ofString "nopz").cps.toList[n3.toNat] = c3 at *
        rw [sign_S]
        have kp5 := kp4.trans k3
        (repeat (first | refine ⟨_, rfl, ?_⟩ | refine ⟨rfl, ?_⟩ | refine ⟨_, _, rfl, rfl, ?_⟩ | refine iteT ?_ | refine iteF ?_ | refine ⟨(by show (0 : Int) < _; omega), ?_⟩ | refine ⟨(⟨by omega, by omega⟩ : CDiv _ _), ?_⟩ | refine ⟨(⟨by decide, by decide, by decide⟩ : CPow _ _), ?_⟩ | refine ⟨(.inl ⟨by omega, by omega⟩ : CMul _ _), ?_⟩ | refine ⟨(.inr ⟨by omega, by omega⟩ : CMul _ _), ?_⟩ | refine Or.inl ⟨_, rfl, ?_⟩ | refine Or.inr ⟨_, rfl, ?_⟩ | refine ⟨_, _, _, _, true, rfl, .ty _, .base (.str _), kit_ty (by decide +kernel), ?_⟩ | refine ⟨_, _, rfl, ⟨by rw [sizeLine_eq]; omega, rfl⟩, ?_⟩ | refine ⟨_, _, rfl, .inl ⟨_, SqL.of (by assumption), rfl⟩, ?_⟩ | refine ⟨_, _, rfl, .inr ⟨_, SqT.of (by assumption), rfl⟩, ?_⟩))
        refine ⟨wl, c, 7, rfl, kp5.st hS, by omega, by omega, fun n4 H6 a4 b4 k4 => ?_⟩
        (repeat (first | refine ⟨_, rfl, ?_⟩ | refine ⟨rfl, ?_⟩ | refine ⟨_, _, rfl, rfl, ?_⟩ | refine iteT ?_ | refine iteF ?_ | refine ⟨(by show (0 : Int) < _; omega), ?_⟩ | refine ⟨(⟨by omega, by omega⟩ : CDiv _ _), ?_⟩ | refine ⟨(⟨by decide, by decide, by decide⟩ : CPow _ _), ?_⟩ | refine ⟨(.inl ⟨by omega, by omega⟩ : CMul _ _), ?_⟩ | refine ⟨(.inr ⟨by omega, by omega⟩ : CMul _ _), ?_⟩ | refine Or.inl ⟨_, rfl, ?_⟩ | refine Or.inr ⟨_, rfl, ?_⟩ | refine ⟨_, _, _, _, true, rfl, .ty _, .base (.str _), kit_ty (by decide +kernel), ?_⟩ | refine ⟨_, _, rfl, ⟨by rw [sizeLine_eq]; omega, rfl⟩, ?_⟩ | refine ⟨_, _, rfl, .inl ⟨_, SqL.of (by assumption), rfl⟩, ?_⟩ | refine ⟨_, _, rfl, .inr ⟨_, SqT.of (by assumption), rfl⟩, ?_⟩))
        refine ⟨by omega, by omega, (by rw [S_len]; show 1 ≤ 1000; omega), ?_⟩
        rw [mul_sign c3 (by omega)]
        refine ⟨_, _, rfl, rfl, ?_, ?_⟩
        · rw [S_len, S_len, List.length_replicate, sizeLine_eq]
          show 1 + _ ≤ _
          omega
        rw [S_cat]
        obtain ⟨r, er, hr7, hlow⟩ : ∃ r : List Nat, [c0] ++ List.replicate (1 + n4).toNat c3 = c0 :: r ∧ r.length ≤ 7 ∧ ∀ d ∈ r, isLow d = true := ⟨List.replicate (1 + n4).toNat c3, rfl, by rw [List.length_replicate]; omega, fun d hd => by rw [(List.mem_replicate.mp hd).2]; exact low⟩
        rw [er]
        have kG := kp5.trans k4
        have hFG := k4.keep _ _ fw (k3.keep _ _ fw hF4)
        generalize H6 = G at *
        (repeat (first | refine ⟨_, rfl, ?_⟩ | refine ⟨rfl, ?_⟩ | refine ⟨_, _, rfl, rfl, ?_⟩ | refine iteT ?_ | refine iteF ?_ | refine ⟨(by show (0 : Int) < _; omega), ?_⟩ | refine ⟨(⟨by omega, by omega⟩ : CDiv _ _), ?_⟩ | refine ⟨(⟨by decide, by decide, by decide⟩ : CPow _ _), ?_⟩ | refine ⟨(.inl ⟨by omega, by omega⟩ : CMul _ _), ?_⟩ | refine ⟨(.inr ⟨by omega, by omega⟩ : CMul _ _), ?_⟩ | refine Or.inl ⟨_, rfl, ?_⟩ | refine Or.inr ⟨_, rfl, ?_⟩ | refine ⟨_, _, _, _, true, rfl, .ty _, .base (.str _), kit_ty (by decide +kernel), ?_⟩ | refine ⟨_, _, rfl, ⟨by rw [sizeLine_eq]; omega, rfl⟩, ?_⟩ | refine ⟨_, _, rfl, .inl ⟨_, SqL.of (by assumption), rfl⟩, ?_⟩ | refine ⟨_, _, rfl, .inr ⟨_, SqT.of (by assumption), rfl⟩, ?_⟩))
        refine ⟨f, _, rfl, .inl (SqL.of hFG), rfl, flat_strs xs, ?_⟩
        rw [if_neg (by decide), inV_strs]
        by_cases hin : S (c0 :: r) ∈ xs
        · rw [decide_eq_true hin]
          (repeat (first | refine ⟨_, rfl, ?_⟩ | refine ⟨rfl, ?_⟩ | refine ⟨_, _, rfl, rfl, ?_⟩ | refine iteT ?_ | refine iteF ?_ | refine ⟨(by show (0 : Int) < _; omega), ?_⟩ | refine ⟨(⟨by omega, by omega⟩ : CDiv _ _), ?_⟩ | refine ⟨(⟨by decide, by decide, by decide⟩ : CPow _ _), ?_⟩ | refine ⟨(.inl ⟨by omega, by omega⟩ : CMul _ _), ?_⟩ | refine ⟨(.inr ⟨by omega, by omega⟩ : CMul _ _), ?_⟩ | refine Or.inl ⟨_, rfl, ?_⟩ | refine Or.inr ⟨_, rfl, ?_⟩ | refine ⟨_, _, _, _, true, rfl, .ty _, .base (.str _), kit_ty (by decide +kernel), ?_⟩ | refine ⟨_, _, rfl, ⟨by rw [sizeLine_eq]; omega, rfl⟩, ?_⟩ | refine ⟨_, _, rfl, .inl ⟨_, SqL.of (by assumption), rfl⟩, ?_⟩ | refine ⟨_, _, rfl, .inr ⟨_, SqT.of (by assumption), rfl⟩, ?_⟩))
          have hq : (Str.ofString "qrstuvwxy").cps.toList.length = 9 := by decide +kernel
          have hiq : i < (Str.ofString "qrstuvwxy").cps.toList.length := by omega
          refine ⟨_, _, _, rfl, rfl, (by show 9 ≤ sizeLine; rw [sizeLine_eq]; omega), atN_of (n := 0 + (i : Int)) (by omega) (by omega), ?_⟩
          rw [show (Str.ofString "qrstuvwxy").cps.toList[(0 + (i : Int)).toNat]'(by omega) = 113 + i from (from_9 _ (by omega)).trans (by omega), sign_S]
          (repeat (first | refine ⟨_, rfl, ?_⟩ | refine ⟨rfl, ?_⟩ | refine ⟨_, _, rfl, rfl, ?_⟩ | refine iteT ?_ | refine iteF ?_ | refine ⟨(by show (0 : Int) < _; omega), ?_⟩ | refine ⟨(⟨by omega, by omega⟩ : CDiv _ _), ?_⟩ | refine ⟨(⟨by decide, by decide, by decide⟩ : CPow _ _), ?_⟩ | refine ⟨(.inl ⟨by omega, by omega⟩ : CMul _ _), ?_⟩ | refine ⟨(.inr ⟨by omega, by omega⟩ : CMul _ _), ?_⟩ | refine Or.inl ⟨_, rfl, ?_⟩ | refine Or.inr ⟨_, rfl, ?_⟩ | refine ⟨_, _, _, _, true, rfl, .ty _, .base (.str _), kit_ty (by decide +kernel), ?_⟩ | refine ⟨_, _, rfl, ⟨by rw [sizeLine_eq]; omega, rfl⟩, ?_⟩ | refine ⟨_, _, rfl, .inl ⟨_, SqL.of (by assumption), rfl⟩, ?_⟩ | refine ⟨_, _, rfl, .inr ⟨_, SqT.of (by assumption), rfl⟩, ?_⟩))
          refine ⟨(by rw [S_len, sizeLine_eq]; show r.length + 1 ≤ _; omega), ?_⟩
          rw [slice_6]
          refine ⟨_, _, rfl, rfl, (by rw [S_len, S_len, List.length_take, sizeLine_eq]; show 1 + _ ≤ _; omega), ?_⟩
          rw [S_cat]
          have nm : NmAt (i + 1) (S ([113 + i] ++ (c0 :: r).take 6)) := by
            refine ⟨113 + i, (c0 :: r).take 6, rfl, by rw [List.length_take]; omega, fun d hd => ?_, .inr ⟨by omega, by omega⟩⟩
            rcases List.mem_cons.mp (List.mem_of_mem_take hd) with rfl | hd
            · unfold isLow
              simp only [Bool.and_eq_true, decide_eq_true_eq]
              omega
            · exact hlow d hd
          have hno : S ([113 + i] ++ (c0 :: r).take 6) ∉ xs := fun hm => by
            obtain ⟨c1, r1, e1, _, _, g3⟩ := hsh _ hm
            have e1 := List.cons.inj (S_inj e1)
            have := e1.1
            omega
          generalize S ([113 + i] ++ (c0 :: r).take 6) = nx at *
          (repeat (first | refine ⟨_, rfl, ?_⟩ | refine ⟨rfl, ?_⟩ | refine ⟨_, _, rfl, rfl, ?_⟩ | refine iteT ?_ | refine iteF ?_ | refine ⟨(by show (0 : Int) < _; omega), ?_⟩ | refine ⟨(⟨by omega, by omega⟩ : CDiv _ _), ?_⟩ | refine ⟨(⟨by decide, by decide, by decide⟩ : CPow _ _), ?_⟩ | refine ⟨(.inl ⟨by omega, by omega⟩ : CMul _ _), ?_⟩ | refine ⟨(.inr ⟨by omega, by omega⟩ : CMul _ _), ?_⟩ | refine Or.inl ⟨_, rfl, ?_⟩ | refine Or.inr ⟨_, rfl, ?_⟩ | refine ⟨_, _, _, _, true, rfl, .ty _, .base (.str _), kit_ty (by decide +kernel), ?_⟩ | refine ⟨_, _, rfl, ⟨by rw [sizeLine_eq]; omega, rfl⟩, ?_⟩ | refine ⟨_, _, rfl, .inl ⟨_, SqL.of (by assumption), rfl⟩, ?_⟩ | refine ⟨_, _, rfl, .inr ⟨_, SqT.of (by assumption), rfl⟩, ?_⟩))
          refine ⟨.inl ⟨rfl, _, SqL.of hFG⟩, _, rfl, f, _, _, rfl, rfl, hFG, small1000 (by simp; omega), ?_⟩
          refine ⟨xs ++ [nx], _, _, rfl, kG.put hS nf, by rw [upd_same]; simp, by simp [hlen], ?_, fun x hx => ?_⟩
          · rw [List.nodup_append]
            refine ⟨hnd, by simp, fun a ha b hb e => ?_⟩
            rw [List.mem_singleton.mp hb] at e
            exact hno (e ▸ ha)
          · rcases List.mem_append.mp hx with hx | hx
            · exact (hsh x hx).mono (by omega)
            · rw [List.mem_singleton.mp hx]
              exact nm
        · rw [decide_eq_false hin]
          (repeat (first | refine ⟨_, rfl, ?_⟩ | refine ⟨rfl, ?_⟩ | refine ⟨_, _, rfl, rfl, ?_⟩ | refine iteT ?_ | refine iteF ?_ | refine ⟨(by show (0 : Int) < _; omega), ?_⟩ | refine ⟨(⟨by omega, by omega⟩ : CDiv _ _), ?_⟩ | refine ⟨(⟨by decide, by decide, by decide⟩ : CPow _ _), ?_⟩ | refine ⟨(.inl ⟨by omega, by omega⟩ : CMul _ _), ?_⟩ | refine ⟨(.inr ⟨by omega, by omega⟩ : CMul _ _), ?_⟩ | refine Or.inl ⟨_, rfl, ?_⟩ | refine Or.inr ⟨_, rfl, ?_⟩ | refine ⟨_, _, _, _, true, rfl, .ty _, .base (.str _), kit_ty (by decide +kernel), ?_⟩ | refine ⟨_, _, rfl, ⟨by rw [sizeLine_eq]; omega, rfl⟩, ?_⟩ | refine ⟨_, _, rfl, .inl ⟨_, SqL.of (by assumption), rfl⟩, ?_⟩ | refine ⟨_, _, rfl, .inr ⟨_, SqT.of (by assumption), rfl⟩, ?_⟩))
          have nm : NmAt (i + 1) (S (c0 :: r)) := ⟨c0, r, rfl, hr7, hlow, .inl ⟨g1, g2⟩⟩
          have hno := hin
          generalize S (c0 :: r) = nx at *
          refine ⟨.inl ⟨rfl, _, SqL.of hFG⟩, _, rfl, f, _, _, rfl, rfl, hFG, small1000 (by simp; omega), ?_⟩
          refine ⟨xs ++ [nx], _, _, rfl, kG.put hS nf, by rw [upd_same]; simp, by simp [hlen], ?_, fun x hx => ?_⟩
          · rw [List.nodup_append]
            refine ⟨hnd, by simp, fun a ha b hb e => ?_⟩
            rw [List.mem_singleton.mp hb] at e
            exact hno (e ▸ ha)
          · rcases List.mem_append.mp hx with hx | hx
            · exact (hsh x hx).mono (by omega)
            · rw [List.mem_singleton.mp hx]
              exact nm
      · (repeat (first | refine ⟨_, rfl, ?_⟩ | refine ⟨rfl, ?_⟩ | refine ⟨_, _, rfl, rfl, ?_⟩ | refine iteT ?_ | refine iteF ?_ | refine ⟨(by show (0 : Int) < _; omega), ?_⟩ | refine ⟨(⟨by omega, by omega⟩ : CDiv _ _), ?_⟩ | refine ⟨(⟨by decide, by decide, by decide⟩ : CPow _ _), ?_⟩ | refine ⟨(.inl ⟨by omega, by omega⟩ : CMul _ _), ?_⟩ | refine ⟨(.inr ⟨by omega, by omega⟩ : CMul _ _), ?_⟩ | refine Or.inl ⟨_, rfl, ?_⟩ | refine Or.inr ⟨_, rfl, ?_⟩ | refine ⟨_, _, _, _, true, rfl, .ty _, .base (.str _), kit_ty (by decide +kernel), ?_⟩ | refine ⟨_, _, rfl, ⟨by rw [sizeLine_eq]; omega, rfl⟩, ?_⟩ | refine ⟨_, _, rfl, .inl ⟨_, SqL.of (by assumption), rfl⟩, ?_⟩ | refine ⟨_, _, rfl, .inr ⟨_, SqT.of (by assumption), rfl⟩, ?_⟩))
        obtain ⟨r, er, hr7, hlow⟩ : ∃ r : List Nat, [c0] = c0 :: r ∧ r.length ≤ 7 ∧ ∀ d ∈ r, isLow d = true := ⟨[], rfl, Nat.zero_le _, fun d hd => by cases hd⟩
        rw [er]
        have kG := kp4
        have hFG := hF4
        generalize H4 = G at *
        (repeat (first | refine ⟨_, rfl, ?_⟩ | refine ⟨rfl, ?_⟩ | refine ⟨_, _, rfl, rfl, ?_⟩ | refine iteT ?_ | refine iteF ?_ | refine ⟨(by show (0 : Int) < _; omega), ?_⟩ | refine ⟨(⟨by omega, by omega⟩ : CDiv _ _), ?_⟩ | refine ⟨(⟨by decide, by decide, by decide⟩ : CPow _ _), ?_⟩ | refine ⟨(.inl ⟨by omega, by omega⟩ : CMul _ _), ?_⟩ | refine ⟨(.inr ⟨by omega, by omega⟩ : CMul _ _), ?_⟩ | refine Or.inl ⟨_, rfl, ?_⟩ | refine Or.inr ⟨_, rfl, ?_⟩ | refine ⟨_, _, _, _, true, rfl, .ty _, .base (.str _), kit_ty (by decide +kernel), ?_⟩ | refine ⟨_, _, rfl, ⟨by rw [sizeLine_eq]; omega, rfl⟩, ?_⟩ | refine ⟨_, _, rfl, .inl ⟨_, SqL.of (by assumption), rfl⟩, ?_⟩ | refine ⟨_, _, rfl, .inr ⟨_, SqT.of (by assumption), rfl⟩, ?_⟩))
        refine ⟨f, _, rfl, .inl (SqL.of hFG), rfl, flat_strs xs, ?_⟩
        rw [if_neg (by decide), inV_strs]
        by_cases hin : S (c0 :: r) ∈ xs
        · rw [decide_eq_true hin]
          (repeat (first | refine ⟨_, rfl, ?_⟩ | refine ⟨rfl, ?_⟩ | refine ⟨_, _, rfl, rfl, ?_⟩ | refine iteT ?_ | refine iteF ?_ | refine ⟨(by show (0 : Int) < _; omega), ?_⟩ | refine ⟨(⟨by omega, by omega⟩ : CDiv _ _), ?_⟩ | refine ⟨(⟨by decide, by decide, by decide⟩ : CPow _ _), ?_⟩ | refine ⟨(.inl ⟨by omega, by omega⟩ : CMul _ _), ?_⟩ | refine ⟨(.inr ⟨by omega, by omega⟩ : CMul _ _), ?_⟩ | refine Or.inl ⟨_, rfl, ?_⟩ | refine Or.inr ⟨_, rfl, ?_⟩ | refine ⟨_, _, _, _, true, rfl, .ty _, .base (.str _), kit_ty (by decide +kernel), ?_⟩ | refine ⟨_, _, rfl, ⟨by rw [sizeLine_eq]; omega, rfl⟩, ?_⟩ | refine ⟨_, _, rfl, .inl ⟨_, SqL.of (by assumption), rfl⟩, ?_⟩ | refine ⟨_, _, rfl, .inr ⟨_, SqT.of (by assumption), rfl⟩, ?_⟩))
          have hq : (Str.ofString "qrstuvwxy").cps.toList.length = 9 := by decide +kernel
          have hiq : i < (Str.ofString "qrstuvwxy").cps.toList.length := by omega
          refine ⟨_, _, _, rfl, rfl, (by show 9 ≤ sizeLine; rw [sizeLine_eq]; omega), atN_of (n := 0 + (i : Int)) (by omega) (by omega), ?_⟩
          rw [show (Str.ofString "qrstuvwxy").cps.toList[(0 + (i : Int)).toNat]'(by omega) = 113 + i from (from_9 _ (by omega)).trans (by omega), sign_S]
          (repeat (first | refine ⟨_, rfl, ?_⟩ | refine ⟨rfl, ?_⟩ | refine ⟨_, _, rfl, rfl, ?_⟩ | refine iteT ?_ | refine iteF ?_ | refine ⟨(by show (0 : Int) < _; omega), ?_⟩ | refine ⟨(⟨by omega, by omega⟩ : CDiv _ _), ?_⟩ | refine ⟨(⟨by decide, by decide, by decide⟩ : CPow _ _), ?_⟩ | refine ⟨(.inl ⟨by omega, by omega⟩ : CMul _ _), ?_⟩ | refine ⟨(.inr ⟨by omega, by omega⟩ : CMul _ _), ?_⟩ | refine Or.inl ⟨_, rfl, ?_⟩ | refine Or.inr ⟨_, rfl, ?_⟩ | refine ⟨_, _, _, _, true, rfl, .ty _, .base (.str _), kit_ty (by decide +kernel), ?_⟩ | refine ⟨_, _, rfl, ⟨by rw [sizeLine_eq]; omega, rfl⟩, ?_⟩ | refine ⟨_, _, rfl, .inl ⟨_, SqL.of (by assumption), rfl⟩, ?_⟩ | refine ⟨_, _, rfl, .inr ⟨_, SqT.of (by assumption), rfl⟩, ?_⟩))
          refine ⟨(by rw [S_len, sizeLine_eq]; show r.length + 1 ≤ _; omega), ?_⟩
          rw [slice_6]
          refine ⟨_, _, rfl, rfl, (by rw [S_len, S_len, List.length_take, sizeLine_eq]; show 1 + _ ≤ _; omega), ?_⟩
          rw [S_cat]
          have nm : NmAt (i + 1) (S ([113 + i] ++ (c0 :: r).take 6)) := by
            refine ⟨113 + i, (c0 :: r).take 6, rfl, by rw [List.length_take]; omega, fun d hd => ?_, .inr ⟨by omega, by omega⟩⟩
            rcases List.mem_cons.mp (List.mem_of_mem_take hd) with rfl | hd
            · unfold isLow
              simp only [Bool.and_eq_true, decide_eq_true_eq]
              omega
            · exact hlow d hd
          have hno : S ([113 + i] ++ (c0 :: r).take 6) ∉ xs := fun hm => by
            obtain ⟨c1, r1, e1, _, _, g3⟩ := hsh _ hm
            have e1 := List.cons.inj (S_inj e1)
            have := e1.1
            omega
          generalize S ([113 + i] ++ (c0 :: r).take 6) = nx at *
          (repeat (first | refine ⟨_, rfl, ?_⟩ | refine ⟨rfl, ?_⟩ | refine ⟨_, _, rfl, rfl, ?_⟩ | refine iteT ?_ | refine iteF ?_ | refine ⟨(by show (0 : Int) < _; omega), ?_⟩ | refine ⟨(⟨by omega, by omega⟩ : CDiv _ _), ?_⟩ | refine ⟨(⟨by decide, by decide, by decide⟩ : CPow _ _), ?_⟩ | refine ⟨(.inl ⟨by omega, by omega⟩ : CMul _ _), ?_⟩ | refine ⟨(.inr ⟨by omega, by omega⟩ : CMul _ _), ?_⟩ | refine Or.inl ⟨_, rfl, ?_⟩ | refine Or.inr ⟨_, rfl, ?_⟩ | refine ⟨_, _, _, _, true, rfl, .ty _, .base (.str _), kit_ty (by decide +kernel), ?_⟩ | refine ⟨_, _, rfl, ⟨by rw [sizeLine_eq]; omega, rfl⟩, ?_⟩ | refine ⟨_, _, rfl, .inl ⟨_, SqL.of (by assumption), rfl⟩, ?_⟩ | refine ⟨_, _, rfl, .inr ⟨_, SqT.of (by assumption), rfl⟩, ?_⟩))
          refine ⟨.inl ⟨rfl, _, SqL.of hFG⟩, _, rfl, f, _, _, rfl, rfl, hFG, small1000 (by simp; omega), ?_⟩
          refine ⟨xs ++ [nx], _, _, rfl, kG.put hS nf, by rw [upd_same]; simp, by simp [hlen], ?_, fun x hx => ?_⟩
          · rw [List.nodup_append]
            refine ⟨hnd, by simp, fun a ha b hb e => ?_⟩
            rw [List.mem_singleton.mp hb] at e
            exact hno (e ▸ ha)
          · rcases List.mem_append.mp hx with hx | hx
            · exact (hsh x hx).mono (by omega)
            · rw [List.mem_singleton.mp hx]
              exact nm
        · rw [decide_eq_false hin]
          (repeat (first | refine ⟨_, rfl, ?_⟩ | refine ⟨rfl, ?_⟩ | refine ⟨_, _, rfl, rfl, ?_⟩ | refine iteT ?_ | refine iteF ?_ | refine ⟨(by show (0 : Int) < _; omega), ?_⟩ | refine ⟨(⟨by omega, by omega⟩ : CDiv _ _), ?_⟩ | refine ⟨(⟨by decide, by decide, by decide⟩ : CPow _ _), ?_⟩ | refine ⟨(.inl ⟨by omega, by omega⟩ : CMul _ _), ?_⟩ | refine ⟨(.inr ⟨by omega, by omega⟩ : CMul _ _), ?_⟩ | refine Or.inl ⟨_, rfl, ?_⟩ | refine Or.inr ⟨_, rfl, ?_⟩ | refine ⟨_, _, _, _, true, rfl, .ty _, .base (.str _), kit_ty (by decide +kernel), ?_⟩ | refine ⟨_, _, rfl, ⟨by rw [sizeLine_eq]; omega, rfl⟩, ?_⟩ | refine ⟨_, _, rfl, .inl ⟨_, SqL.of (by assumption), rfl⟩, ?_⟩ | refine ⟨_, _, rfl, .inr ⟨_, SqT.of (by assumption), rfl⟩, ?_⟩))
          have nm : NmAt (i + 1) (S (c0 :: r)) := ⟨c0, r, rfl, hr7, hlow, .inl ⟨g1, g2⟩⟩
          have hno := hin
          generalize S (c0 :: r) = nx at *
          refine ⟨.inl ⟨rfl, _, SqL.of hFG⟩, _, rfl, f, _, _, rfl, rfl, hFG, small1000 (by simp; omega), ?_⟩
          refine ⟨xs ++ [nx], _, _, rfl, kG.put hS nf, by rw [upd_same]; simp, by simp [hlen], ?_, fun x hx => ?_⟩
          · rw [List.nodup_append]
            refine ⟨hnd, by simp, fun a ha b hb e => ?_⟩
            rw [List.mem_singleton.mp hb] at e
            exact hno (e ▸ ha)
          · rcases List.mem_append.mp hx with hx | hx
            · exact (hsh x hx).mono (by omega)
            · rw [List.mem_singleton.mp hx]
              exact nm
    · rintro σ H1 ⟨xs, v3, v4, rfl, kp, hF, hlen, hnd, hsh⟩
      (repeat (first | refine ⟨_, rfl, ?_⟩ | refine ⟨rfl, ?_⟩ | refine ⟨_, _, rfl, rfl, ?_⟩ | refine iteT ?_ | refine iteF ?_ | refine ⟨(by show (0 : Int) < _; omega), ?_⟩ | refine ⟨(⟨by omega, by omega⟩ : CDiv _ _), ?_⟩ | refine ⟨(⟨by decide, by decide, by decide⟩ : CPow _ _), ?_⟩ | refine ⟨(.inl ⟨by omega, by omega⟩ : CMul _ _), ?_⟩ | refine ⟨(.inr ⟨by omega, by omega⟩ : CMul _ _), ?_⟩ | refine Or.inl ⟨_, rfl, ?_⟩ | refine Or.inr ⟨_, rfl, ?_⟩ | refine ⟨_, _, _, _, true, rfl, .ty _, .base (.str _), kit_ty (by decide +kernel), ?_⟩ | refine ⟨_, _, rfl, ⟨by rw [sizeLine_eq]; omega, rfl⟩, ?_⟩ | refine ⟨_, _, rfl, .inl ⟨_, SqL.of (by assumption), rfl⟩, ?_⟩ | refine ⟨_, _, rfl, .inr ⟨_, SqT.of (by assumption), rfl⟩, ?_⟩))
      refine ⟨f, xs, rfl, SqL.of hF, by omega, fun ys p pm so np => ?_⟩
      rw [sortS_eq pm so]
      have np0 := kp.free hS np
      refine k p (sortS xs) _ np0 (kp.put hS np0) upd_same (by rw [sortS_length, hlen]; omega) (nodup_sortS hnd) (sortS_of_perm (sortS_perm xs)) fun x hx => (hsh x ((mem_sortS _ _).mp hx)).nm (by omega)
end
end BF43
set_option Elab.async false
set_option linter.all false
set_option maxRecDepth 100000
set_option maxHeartbeats 4000000
namespace BF43
open BF
open PySem PySem.Spec PyProof.Rows L2
open C8 (Cal CalAt Met Mak cal0 met0 mak0 fn0 pe_c pe_mk pe_mt pe_mt0 pe_gc fnScope fnBody fnArgs fnScope_by)
open SX
section
variable {X : Cx} {A : Ad} {e : Expr} {ta : TA} {p pos : Pos}
theorem pm_NoThing (T : Txt X.K X.mg A) (hr : Room 2 X.A) (ha : PA X [e] ta) (hg : Gl X "NoThing" := by rfl) (he : starEach (e :: []) X.env = (false, eval e X.env) :: starEach [] X.env := by rfl) (hpl : (backTo pos (starEach [] X.env)).any (·.1) = false := by rfl) :
    PMk X (.Call (.Name "NoThing" p) [e] [] pos) (tErr A.C_NoThing "thing" ta) :=
  pmk_err T.ox_NoThing T.fi_NoThing__init T.fn_NoThing__init (ok_errinit T.u_NoThing__init sc_NoThing__init rfl T.ox_NoThing T.nx_NoThing_thing rfl rfl (by decide) (by decide) (fun _ => rfl)) hr T.b_NoThing__init hg T.gC_NoThing ha (by decide) he hpl
theorem pm_TooMany (T : Txt X.K X.mg A) (hr : Room 2 X.A) (ha : PA X [e] ta) (hg : Gl X "TooMany" := by rfl) (he : starEach (e :: []) X.env = (false, eval e X.env) :: starEach [] X.env := by rfl) (hpl : (backTo pos (starEach [] X.env)).any (·.1) = false := by rfl) :
    PMk X (.Call (.Name "TooMany" p) [e] [] pos) (tErr A.C_TooMany "limit" ta) :=
  pmk_err T.ox_TooMany T.fi_TooMany__init T.fn_TooMany__init (ok_errinit T.u_TooMany__init sc_TooMany__init rfl T.ox_TooMany T.nx_TooMany_limit rfl rfl (by decide) (by decide) (fun _ => rfl)) hr T.b_TooMany__init hg T.gC_TooMany ha (by decide) he hpl
theorem pm_BadRows (T : Txt X.K X.mg A) (hr : Room 2 X.A) (ha : PA X [e] ta) (hg : Gl X "BadRows" := by rfl) (he : starEach (e :: []) X.env = (false, eval e X.env) :: starEach [] X.env := by rfl) (hpl : (backTo pos (starEach [] X.env)).any (·.1) = false := by rfl) :
    PMk X (.Call (.Name "BadRows" p) [e] [] pos) (tErr A.C_BadRows "thing" ta) :=
  pmk_err T.ox_BadRows T.fi_BadRows__init T.fn_BadRows__init (ok_errinit T.u_BadRows__init sc_BadRows__init rfl T.ox_BadRows T.nx_BadRows_thing rfl rfl (by decide) (by decide) (fun _ => rfl)) hr T.b_BadRows__init hg T.gC_BadRows ha (by decide) he hpl
end
section
variable {P : Program} {w : World} {K : PySem.W.Frag} {mg : Str → Option Value} {base : Heap} {A : Ad}
def spCR (K : PySem.W.Frag) (A : Ad) : Sp := fun vs H Q E => ∃ (d : Addr) (two : Bool) (es : List (Str × RV)), vs = [.ref d, .str (ovS two)] ∧ RvD K H d es ∧ es.length ≤ 24 ∧ (∀ e ∈ es, e.1.length ≤ 1000) ∧
  (∀ n, badF two es = some n → ∀ dx H', Same H H' → H' dx = some (.xd [("thing", .str n)]) → E (.ref A.C_BadRows) (some dx) H') ∧
  (badF two es = none → ∀ p H', Same H H' → RowsD (fun a => H a = none) H' p (rowsOf es) → Q (.ref p) H')
theorem cal_checked_rows (T : Txt K mg A) : CalX P w K mg base 3 "_checked_rows" (spCR K A) := by
  refine ⟨_, _, _, fnX T.d_checked_rows.fn sc_checked_rows (fun vs H Q E h => ?_) (fun cdv B outer s H vs Q E hr h => ?_), T.d_checked_rows.mgf, T.d_checked_rows.kp, T.b_checked_rows⟩
  · obtain ⟨d, two, es, rfl, _⟩ := h
    rfl
  · obtain ⟨d, two, es, rfl, hT, hl, hx, kE, kQ⟩ := h
    refine ⟨_, (pss_cons (ps_set (i := 2) sc_checked_rows.nd rfl (by first | exact Or.inl rfl | exact Or.inr rfl) pe_dnewK)
 (pss_cons (ps_set (i := 3) sc_checked_rows.nd rfl (by first | exact Or.inl rfl | exact Or.inr rfl) (pe_callB (call_sortedD rfl) (by rfl) T.z_sorted (by decide +kernel) (pa_cons (pv 0) pa_nil)))
 (pss_cons (ps_for (passes_of rfl) rfl (pi_list (pv 3)) (pg_name (i := 4) sc_checked_rows.nd rfl (by first | exact Or.inl rfl | exact Or.inr rfl)) (pss_cons (ps_if (PW.pt (pw_or (pt_not (pt_val (pe_c (cal_is_name T) hr (by decide) rfl (pa_cons (pv 4) pa_nil)))) (pw_or (pt_not (pt_val (pe_c (cal_is_row T) hr (by decide) rfl (pa_cons (pe_dget (hu_of hr) (pv 0) (pv 4) (fun _ _ => rfl)) (pa_cons (pv 1) pa_nil))))) (pw_or1 (pt_cmpR op_ne (pe_callB (lenK K) (by rfl) T.z_len (by decide +kernel) (pa_cons (pe_dget (hu_of hr) (pv 0) (pv 4) (fun _ _ => rfl)) pa_nil)) (pe_callB (lenK K) (by rfl) T.z_len (by decide +kernel) (pa_cons (pe_dget (hu_of hr) (pv 0) (pe_ix (ixLK K) (pv 3) pe_int (fun _ _ => rfl)) (fun _ _ => rfl)) pa_nil)) (nomark _)))))) (pss_one (ps_raise rfl (takes_of rfl rfl rfl rfl) (pm_BadRows T (hr.mono (by decide)) (pa_cons (pv 4) pa_nil)))) pss_nil)
 (pss_one (ps_dput (hu_of hr) (pv 2) (pv 4) (pe_callTy (listK K) (by rfl) T.z_list (by decide +kernel) (pa_cons (pe_dget (hu_of hr) (pv 0) (pv 4) (fun _ _ => rfl)) pa_nil)) rfl))))
 (pss_one (ps_ret (pv 2)))))), ?_⟩
    refine fun chk nchk => ?_
    have s0 : Same H (upd H chk (.dK [])) := Same.new nchk
    obtain ⟨⟨kvs0, hd0, hp0⟩, hnd⟩ := id hT
    have hkey := rv_keys hp0
    have hlen0 : kvs0.length = es.length := hp0.length
    (repeat (first | refine ⟨_, rfl, ?_⟩ | refine ⟨rfl, ?_⟩ | refine ⟨_, _, rfl, rfl, ?_⟩ | refine iteT ?_ | refine iteF ?_ | refine ⟨(by show (0 : Int) < _; omega), ?_⟩ | refine ⟨(⟨by omega, by omega⟩ : CDiv _ _), ?_⟩ | refine ⟨(⟨by decide, by decide, by decide⟩ : CPow _ _), ?_⟩ | refine ⟨(.inl ⟨by omega, by omega⟩ : CMul _ _), ?_⟩ | refine ⟨(.inr ⟨by omega, by omega⟩ : CMul _ _), ?_⟩ | refine Or.inl ⟨_, rfl, ?_⟩ | refine Or.inr ⟨_, rfl, ?_⟩ | refine ⟨_, _, _, _, true, rfl, .ty _, .base (.str _), kit_ty (by decide +kernel), ?_⟩ | refine ⟨_, _, rfl, ⟨by rw [sizeLine_eq]; omega, rfl⟩, ?_⟩ | refine ⟨_, _, rfl, .inl ⟨_, SqL.of (by assumption), rfl⟩, ?_⟩ | refine ⟨_, _, rfl, .inr ⟨_, SqT.of (by assumption), rfl⟩, ?_⟩))
    refine ⟨d, kvs0, es.map (·.1), rfl, .inl (s0 _ _ hd0), hkey, by rw [List.length_map]; omega, fun ys lk pm so nlk => ?_⟩
    rw [sortS_eq pm so]
    have hll : (sortS (es.map (·.1))).length = es.length := by rw [sortS_length, List.length_map]
    have nlk0 : H lk = none := s0.free nlk
    have ne : chk ≠ lk := ne_of_none (upd_same (H := H) (a := chk) (o := .dK [])) nlk
    (repeat (first | refine ⟨_, rfl, ?_⟩ | refine ⟨rfl, ?_⟩ | refine ⟨_, _, rfl, rfl, ?_⟩ | refine iteT ?_ | refine iteF ?_ | refine ⟨(by show (0 : Int) < _; omega), ?_⟩ | refine ⟨(⟨by omega, by omega⟩ : CDiv _ _), ?_⟩ | refine ⟨(⟨by decide, by decide, by decide⟩ : CPow _ _), ?_⟩ | refine ⟨(.inl ⟨by omega, by omega⟩ : CMul _ _), ?_⟩ | refine ⟨(.inr ⟨by omega, by omega⟩ : CMul _ _), ?_⟩ | refine Or.inl ⟨_, rfl, ?_⟩ | refine Or.inr ⟨_, rfl, ?_⟩ | refine ⟨_, _, _, _, true, rfl, .ty _, .base (.str _), kit_ty (by decide +kernel), ?_⟩ | refine ⟨_, _, rfl, ⟨by rw [sizeLine_eq]; omega, rfl⟩, ?_⟩ | refine ⟨_, _, rfl, .inl ⟨_, SqL.of (by assumption), rfl⟩, ?_⟩ | refine ⟨_, _, rfl, .inr ⟨_, SqT.of (by assumption), rfl⟩, ?_⟩))
    refine ⟨⟨_, SqL.of upd_same⟩, for_it walk_list (fun i σ H' => ∃ (kvs : List (Key × V)) (v4 : Option V), σ = [some (.ref d), some (.str (ovS two)), some (.ref chk), some (.ref lk), v4] ∧ Same H H' ∧ H' lk = some (.lst ((sortS (es.map (·.1))).map V.str)) ∧ H' chk = some (.dK kvs) ∧
        Paired (RowK (fun a => H a = none) H') kvs (((sortS (es.map (·.1))).take i).map fun n => (n, intsR (lkR es n))) ∧ ∀ j, j < i → ∀ m, (sortS (es.map (·.1)))[j]? = some m → goodN two es m = true)
      ⟨[], _, rfl, Same.put s0 nlk0, upd_same, Eq.trans (upd_ne ne) upd_same, .nil, fun j hj => absurd hj (Nat.not_lt_zero _)⟩ (fun i σ H' _ ⟨_, _, _, _, h, _⟩ => SqL.of h) ?_ ?_⟩
    · rintro i v σ H1 H2 hi ⟨kvs, v4, rfl, s1, hL, hC, hP, hok⟩ ⟨rfl, hv⟩
      rw [List.length_map] at hi
      obtain ⟨n, hn⟩ : ∃ n, (sortS (es.map (·.1)))[i]? = some n := ⟨_, List.getElem?_eq_getElem hi⟩
      have ev : v = V.str n := by
        rw [List.getElem?_map, hn] at hv
        exact (Option.some.inj hv).symm
      subst ev
      have hmem : n ∈ es.map (·.1) := (mem_sortS _ _).mp (List.mem_of_getElem? hn)
      obtain ⟨v, r, hg, hlk, hr1⟩ := rv_get hp0 hmem
      have hnx : n.length ≤ 1000 := by
        obtain ⟨e, he, e2⟩ := List.mem_map.mp hmem
        rw [← e2]
        exact hx e he
      (repeat (first | refine ⟨_, rfl, ?_⟩ | refine ⟨rfl, ?_⟩ | refine ⟨_, _, rfl, rfl, ?_⟩ | refine iteT ?_ | refine iteF ?_ | refine ⟨(by show (0 : Int) < _; omega), ?_⟩ | refine ⟨(⟨by omega, by omega⟩ : CDiv _ _), ?_⟩ | refine ⟨(⟨by decide, by decide, by decide⟩ : CPow _ _), ?_⟩ | refine ⟨(.inl ⟨by omega, by omega⟩ : CMul _ _), ?_⟩ | refine ⟨(.inr ⟨by omega, by omega⟩ : CMul _ _), ?_⟩ | refine Or.inl ⟨_, rfl, ?_⟩ | refine Or.inr ⟨_, rfl, ?_⟩ | refine ⟨_, _, _, _, true, rfl, .ty _, .base (.str _), kit_ty (by decide +kernel), ?_⟩ | refine ⟨_, _, rfl, ⟨by rw [sizeLine_eq]; omega, rfl⟩, ?_⟩ | refine ⟨_, _, rfl, .inl ⟨_, SqL.of (by assumption), rfl⟩, ?_⟩ | refine ⟨_, _, rfl, .inr ⟨_, SqT.of (by assumption), rfl⟩, ?_⟩))
      refine ⟨hnx, fun H3 s3 => ?_⟩
      have s13 := s1.trans s3
      have bad : goodN two es n = false → badF two es = some n := fun h => badF_some hn h hok
      cases hnm : isNm n with
      | false =>
        (repeat (first | refine ⟨_, rfl, ?_⟩ | refine ⟨rfl, ?_⟩ | refine ⟨_, _, rfl, rfl, ?_⟩ | refine iteT ?_ | refine iteF ?_ | refine ⟨(by show (0 : Int) < _; omega), ?_⟩ | refine ⟨(⟨by omega, by omega⟩ : CDiv _ _), ?_⟩ | refine ⟨(⟨by decide, by decide, by decide⟩ : CPow _ _), ?_⟩ | refine ⟨(.inl ⟨by omega, by omega⟩ : CMul _ _), ?_⟩ | refine ⟨(.inr ⟨by omega, by omega⟩ : CMul _ _), ?_⟩ | refine Or.inl ⟨_, rfl, ?_⟩ | refine Or.inr ⟨_, rfl, ?_⟩ | refine ⟨_, _, _, _, true, rfl, .ty _, .base (.str _), kit_ty (by decide +kernel), ?_⟩ | refine ⟨_, _, rfl, ⟨by rw [sizeLine_eq]; omega, rfl⟩, ?_⟩ | refine ⟨_, _, rfl, .inl ⟨_, SqL.of (by assumption), rfl⟩, ?_⟩ | refine ⟨_, _, rfl, .inr ⟨_, SqT.of (by assumption), rfl⟩, ?_⟩))
        exact fun dx H4 _ s4 hdx => kE n (bad (by rw [goodN_of hlk, hnm]; rfl)) dx H4 (s13.trans s4) hdx
      | true =>
        (repeat (first | refine ⟨_, rfl, ?_⟩ | refine ⟨rfl, ?_⟩ | refine ⟨_, _, rfl, rfl, ?_⟩ | refine iteT ?_ | refine iteF ?_ | refine ⟨(by show (0 : Int) < _; omega), ?_⟩ | refine ⟨(⟨by omega, by omega⟩ : CDiv _ _), ?_⟩ | refine ⟨(⟨by decide, by decide, by decide⟩ : CPow _ _), ?_⟩ | refine ⟨(.inl ⟨by omega, by omega⟩ : CMul _ _), ?_⟩ | refine ⟨(.inr ⟨by omega, by omega⟩ : CMul _ _), ?_⟩ | refine Or.inl ⟨_, rfl, ?_⟩ | refine Or.inr ⟨_, rfl, ?_⟩ | refine ⟨_, _, _, _, true, rfl, .ty _, .base (.str _), kit_ty (by decide +kernel), ?_⟩ | refine ⟨_, _, rfl, ⟨by rw [sizeLine_eq]; omega, rfl⟩, ?_⟩ | refine ⟨_, _, rfl, .inl ⟨_, SqL.of (by assumption), rfl⟩, ?_⟩ | refine ⟨_, _, rfl, .inr ⟨_, SqT.of (by assumption), rfl⟩, ?_⟩))
        refine ⟨d, v, rfl, dget_s (.inl (s13 _ _ hd0)) hg, ?_⟩
        (repeat (first | refine ⟨_, rfl, ?_⟩ | refine ⟨rfl, ?_⟩ | refine ⟨_, _, rfl, rfl, ?_⟩ | refine iteT ?_ | refine iteF ?_ | refine ⟨(by show (0 : Int) < _; omega), ?_⟩ | refine ⟨(⟨by omega, by omega⟩ : CDiv _ _), ?_⟩ | refine ⟨(⟨by decide, by decide, by decide⟩ : CPow _ _), ?_⟩ | refine ⟨(.inl ⟨by omega, by omega⟩ : CMul _ _), ?_⟩ | refine ⟨(.inr ⟨by omega, by omega⟩ : CMul _ _), ?_⟩ | refine Or.inl ⟨_, rfl, ?_⟩ | refine Or.inr ⟨_, rfl, ?_⟩ | refine ⟨_, _, _, _, true, rfl, .ty _, .base (.str _), kit_ty (by decide +kernel), ?_⟩ | refine ⟨_, _, rfl, ⟨by rw [sizeLine_eq]; omega, rfl⟩, ?_⟩ | refine ⟨_, _, rfl, .inl ⟨_, SqL.of (by assumption), rfl⟩, ?_⟩ | refine ⟨_, _, rfl, .inr ⟨_, SqT.of (by assumption), rfl⟩, ?_⟩))
        refine ⟨v, two, r, rfl, hr1.same s13, fun H4 s4 => ?_⟩
        have s14 := s13.trans s4
        cases hgd : goodR two r with
        | false =>
          (repeat (first | refine ⟨_, rfl, ?_⟩ | refine ⟨rfl, ?_⟩ | refine ⟨_, _, rfl, rfl, ?_⟩ | refine iteT ?_ | refine iteF ?_ | refine ⟨(by show (0 : Int) < _; omega), ?_⟩ | refine ⟨(⟨by omega, by omega⟩ : CDiv _ _), ?_⟩ | refine ⟨(⟨by decide, by decide, by decide⟩ : CPow _ _), ?_⟩ | refine ⟨(.inl ⟨by omega, by omega⟩ : CMul _ _), ?_⟩ | refine ⟨(.inr ⟨by omega, by omega⟩ : CMul _ _), ?_⟩ | refine Or.inl ⟨_, rfl, ?_⟩ | refine Or.inr ⟨_, rfl, ?_⟩ | refine ⟨_, _, _, _, true, rfl, .ty _, .base (.str _), kit_ty (by decide +kernel), ?_⟩ | refine ⟨_, _, rfl, ⟨by rw [sizeLine_eq]; omega, rfl⟩, ?_⟩ | refine ⟨_, _, rfl, .inl ⟨_, SqL.of (by assumption), rfl⟩, ?_⟩ | refine ⟨_, _, rfl, .inr ⟨_, SqT.of (by assumption), rfl⟩, ?_⟩))
          exact fun dx H5 _ s5 hdx => kE n (bad (by rw [goodN_of hlk, hnm, hgd]; rfl)) dx H5 (s14.trans s5) hdx
        | true =>
          obtain ⟨n0, hn0⟩ : ∃ n0, (sortS (es.map (·.1)))[0]? = some n0 := ⟨_, List.getElem?_eq_getElem (by omega)⟩
          obtain ⟨v0, r0, hg0, hlk0, hr0⟩ := rv_get hp0 ((mem_sortS _ _).mp (List.mem_of_getElem? hn0))
          have hgd0 : goodR two r0 = true := by
            by_cases e : i = 0
            · subst e
              rw [hn0] at hn
              cases hn
              rw [hlk0] at hlk
              cases hlk
              exact hgd
            · have := hok 0 (by omega) n0 hn0
              rw [goodN_of hlk0] at this
              simp only [Bool.and_eq_true] at this
              exact this.2.1
          have hw0 : w0 es = rvLen r0 := by
            unfold w0
            cases e : sortS (es.map (·.1)) with
            | nil => rw [e] at hn0; cases hn0
            | cons a t =>
              rw [e] at hn0
              cases hn0
              show rvLen ((lkR es n0).getD .junk) = _
              rw [hlk0]
              rfl
          have hr4 := hr1.same s14
          have hr04 := hr0.same s14
          have hL4 := s4 _ _ (s3 _ _ hL)
          have hC4 := s4 _ _ (s3 _ _ hC)
          have hv0 : ((sortS (es.map (·.1))).map V.str)[0]? = some (V.str n0) := by rw [List.getElem?_map, hn0]; rfl
          cases hr4 with
          | no ty kt => cases hgd
          | @lst p xs os hp4 he4 hlo _ =>
            cases hr04 with
            | no ty kt => cases hgd0
            | @lst p0 xs0 os0 hp04 he04 hlo0 _ =>
              have hgd' := hgd
              rw [goodR_row, Bool.and_eq_true] at hgd'
              obtain ⟨ns, eo, _⟩ := good_ints hgd'.2
              subst eo
              have ex := paired_ints he4
              subst ex
              have hns : ns.length ≤ 1000 := by rw [List.length_map] at hlo; exact hlo
              (repeat (first | refine ⟨_, rfl, ?_⟩ | refine ⟨rfl, ?_⟩ | refine ⟨_, _, rfl, rfl, ?_⟩ | refine iteT ?_ | refine iteF ?_ | refine ⟨(by show (0 : Int) < _; omega), ?_⟩ | refine ⟨(⟨by omega, by omega⟩ : CDiv _ _), ?_⟩ | refine ⟨(⟨by decide, by decide, by decide⟩ : CPow _ _), ?_⟩ | refine ⟨(.inl ⟨by omega, by omega⟩ : CMul _ _), ?_⟩ | refine ⟨(.inr ⟨by omega, by omega⟩ : CMul _ _), ?_⟩ | refine Or.inl ⟨_, rfl, ?_⟩ | refine Or.inr ⟨_, rfl, ?_⟩ | refine ⟨_, _, _, _, true, rfl, .ty _, .base (.str _), kit_ty (by decide +kernel), ?_⟩ | refine ⟨_, _, rfl, ⟨by rw [sizeLine_eq]; omega, rfl⟩, ?_⟩ | refine ⟨_, _, rfl, .inl ⟨_, SqL.of (by assumption), rfl⟩, ?_⟩ | refine ⟨_, _, rfl, .inr ⟨_, SqT.of (by assumption), rfl⟩, ?_⟩))
              refine ⟨d, .ref p, rfl, dget_s (.inl (s14 _ _ hd0)) hg, ?_⟩
              (repeat (first | refine ⟨_, rfl, ?_⟩ | refine ⟨rfl, ?_⟩ | refine ⟨_, _, rfl, rfl, ?_⟩ | refine iteT ?_ | refine iteF ?_ | refine ⟨(by show (0 : Int) < _; omega), ?_⟩ | refine ⟨(⟨by omega, by omega⟩ : CDiv _ _), ?_⟩ | refine ⟨(⟨by decide, by decide, by decide⟩ : CPow _ _), ?_⟩ | refine ⟨(.inl ⟨by omega, by omega⟩ : CMul _ _), ?_⟩ | refine ⟨(.inr ⟨by omega, by omega⟩ : CMul _ _), ?_⟩ | refine Or.inl ⟨_, rfl, ?_⟩ | refine Or.inr ⟨_, rfl, ?_⟩ | refine ⟨_, _, _, _, true, rfl, .ty _, .base (.str _), kit_ty (by decide +kernel), ?_⟩ | refine ⟨_, _, rfl, ⟨by rw [sizeLine_eq]; omega, rfl⟩, ?_⟩ | refine ⟨_, _, rfl, .inl ⟨_, SqL.of (by assumption), rfl⟩, ?_⟩ | refine ⟨_, _, rfl, .inr ⟨_, SqT.of (by assumption), rfl⟩, ?_⟩))
              refine ⟨lk, _, 0, V.str n0, rfl, rfl, SqL.of hL4, atI_nat hv0, ?_⟩
              refine ⟨d, .ref p0, rfl, dget_s (.inl (s14 _ _ hd0)) hg0, ?_⟩
              refine ⟨_, _, rfl, .inl ⟨_, SqL.of hp04, rfl⟩, ?_⟩
              have hl0 : xs0.length = os0.length := he04.length
              have hw0' : w0 es = os0.length := hw0
              (repeat (first | refine ⟨_, rfl, ?_⟩ | refine ⟨rfl, ?_⟩ | refine ⟨_, _, rfl, rfl, ?_⟩ | refine iteT ?_ | refine iteF ?_ | refine ⟨(by show (0 : Int) < _; omega), ?_⟩ | refine ⟨(⟨by omega, by omega⟩ : CDiv _ _), ?_⟩ | refine ⟨(⟨by decide, by decide, by decide⟩ : CPow _ _), ?_⟩ | refine ⟨(.inl ⟨by omega, by omega⟩ : CMul _ _), ?_⟩ | refine ⟨(.inr ⟨by omega, by omega⟩ : CMul _ _), ?_⟩ | refine Or.inl ⟨_, rfl, ?_⟩ | refine Or.inr ⟨_, rfl, ?_⟩ | refine ⟨_, _, _, _, true, rfl, .ty _, .base (.str _), kit_ty (by decide +kernel), ?_⟩ | refine ⟨_, _, rfl, ⟨by rw [sizeLine_eq]; omega, rfl⟩, ?_⟩ | refine ⟨_, _, rfl, .inl ⟨_, SqL.of (by assumption), rfl⟩, ?_⟩ | refine ⟨_, _, rfl, .inr ⟨_, SqT.of (by assumption), rfl⟩, ?_⟩))
              refine ite2 (fun hb => ?_) (fun hb => ?_)
              · have hle : ¬ ns.length = os0.length := fun e => by
                  rw [List.length_map, hl0, e] at hb
                  simp at hb
                (repeat (first | refine ⟨_, rfl, ?_⟩ | refine ⟨rfl, ?_⟩ | refine ⟨_, _, rfl, rfl, ?_⟩ | refine iteT ?_ | refine iteF ?_ | refine ⟨(by show (0 : Int) < _; omega), ?_⟩ | refine ⟨(⟨by omega, by omega⟩ : CDiv _ _), ?_⟩ | refine ⟨(⟨by decide, by decide, by decide⟩ : CPow _ _), ?_⟩ | refine ⟨(.inl ⟨by omega, by omega⟩ : CMul _ _), ?_⟩ | refine ⟨(.inr ⟨by omega, by omega⟩ : CMul _ _), ?_⟩ | refine Or.inl ⟨_, rfl, ?_⟩ | refine Or.inr ⟨_, rfl, ?_⟩ | refine ⟨_, _, _, _, true, rfl, .ty _, .base (.str _), kit_ty (by decide +kernel), ?_⟩ | refine ⟨_, _, rfl, ⟨by rw [sizeLine_eq]; omega, rfl⟩, ?_⟩ | refine ⟨_, _, rfl, .inl ⟨_, SqL.of (by assumption), rfl⟩, ?_⟩ | refine ⟨_, _, rfl, .inr ⟨_, SqT.of (by assumption), rfl⟩, ?_⟩))
                refine fun dx H5 _ s5 hdx => kE n (bad ?_) dx H5 (s14.trans s5) hdx
                rw [goodN_of hlk, hnm, hgd, hw0']
                show (true && (true && decide ((ns.map some).length = os0.length))) = false
                rw [List.length_map, decide_eq_false hle]
                rfl
              · have hle : ns.length = os0.length := by
                  rw [List.length_map, hl0] at hb
                  simp at hb
                  omega
                (repeat (first | refine ⟨_, rfl, ?_⟩ | refine ⟨rfl, ?_⟩ | refine ⟨_, _, rfl, rfl, ?_⟩ | refine iteT ?_ | refine iteF ?_ | refine ⟨(by show (0 : Int) < _; omega), ?_⟩ | refine ⟨(⟨by omega, by omega⟩ : CDiv _ _), ?_⟩ | refine ⟨(⟨by decide, by decide, by decide⟩ : CPow _ _), ?_⟩ | refine ⟨(.inl ⟨by omega, by omega⟩ : CMul _ _), ?_⟩ | refine ⟨(.inr ⟨by omega, by omega⟩ : CMul _ _), ?_⟩ | refine Or.inl ⟨_, rfl, ?_⟩ | refine Or.inr ⟨_, rfl, ?_⟩ | refine ⟨_, _, _, _, true, rfl, .ty _, .base (.str _), kit_ty (by decide +kernel), ?_⟩ | refine ⟨_, _, rfl, ⟨by rw [sizeLine_eq]; omega, rfl⟩, ?_⟩ | refine ⟨_, _, rfl, .inl ⟨_, SqL.of (by assumption), rfl⟩, ?_⟩ | refine ⟨_, _, rfl, .inr ⟨_, SqT.of (by assumption), rfl⟩, ?_⟩))
                refine ⟨d, .ref p, rfl, dget_s (.inl (s14 _ _ hd0)) hg, ?_⟩
                (repeat (first | refine ⟨_, rfl, ?_⟩ | refine ⟨rfl, ?_⟩ | refine ⟨_, _, rfl, rfl, ?_⟩ | refine iteT ?_ | refine iteF ?_ | refine ⟨(by show (0 : Int) < _; omega), ?_⟩ | refine ⟨(⟨by omega, by omega⟩ : CDiv _ _), ?_⟩ | refine ⟨(⟨by decide, by decide, by decide⟩ : CPow _ _), ?_⟩ | refine ⟨(.inl ⟨by omega, by omega⟩ : CMul _ _), ?_⟩ | refine ⟨(.inr ⟨by omega, by omega⟩ : CMul _ _), ?_⟩ | refine Or.inl ⟨_, rfl, ?_⟩ | refine Or.inr ⟨_, rfl, ?_⟩ | refine ⟨_, _, _, _, true, rfl, .ty _, .base (.str _), kit_ty (by decide +kernel), ?_⟩ | refine ⟨_, _, rfl, ⟨by rw [sizeLine_eq]; omega, rfl⟩, ?_⟩ | refine ⟨_, _, rfl, .inl ⟨_, SqL.of (by assumption), rfl⟩, ?_⟩ | refine ⟨_, _, rfl, .inr ⟨_, SqT.of (by assumption), rfl⟩, ?_⟩))
                refine ⟨p, _, rfl, .inl (SqL.of hp4), fun q nq => ?_⟩
                have s5 := Same.new (o := .lst (ns.map V.int)) nq
                have hC5 := s5 _ _ hC4
                have nq0 : H q = none := s14.free nq
                have hkl : kvs.length ≤ 63 := by
                  rw [hP.length, List.length_map, List.length_take, hll]
                  omega
                have hnk : valV kvs (.inr n) = none := by
                  refine valV_none ?_
                  rw [rowk_keys hP]
                  intro hm
                  obtain ⟨m, hm1, hm2⟩ := List.mem_map.mp hm
                  have hm2 : m = n := Sum.inr.inj hm2
                  subst hm2
                  rw [List.map_map] at hm1
                  obtain ⟨m2, hm3, hm4⟩ := List.mem_map.mp hm1
                  have hm4 : m2 = m := hm4
                  subst hm4
                  obtain ⟨j, hj, e⟩ := List.mem_iff_getElem.mp hm3
                  rw [List.length_take] at hj
                  rw [List.getElem_take] at e
                  have := (List.getElem_inj (nodup_sortS hnd)).mp (e.trans (List.getElem?_eq_some_iff.mp hn).2.symm)
                  omega
                have gn : goodN two es n = true := by
                  rw [goodN_of hlk, hnm, hgd, hw0']
                  show (true && (true && decide ((ns.map some).length = os0.length))) = true
                  rw [List.length_map, decide_eq_true hle]
                  rfl
                (repeat (first | refine ⟨_, rfl, ?_⟩ | refine ⟨rfl, ?_⟩ | refine ⟨_, _, rfl, rfl, ?_⟩ | refine iteT ?_ | refine iteF ?_ | refine ⟨(by show (0 : Int) < _; omega), ?_⟩ | refine ⟨(⟨by omega, by omega⟩ : CDiv _ _), ?_⟩ | refine ⟨(⟨by decide, by decide, by decide⟩ : CPow _ _), ?_⟩ | refine ⟨(.inl ⟨by omega, by omega⟩ : CMul _ _), ?_⟩ | refine ⟨(.inr ⟨by omega, by omega⟩ : CMul _ _), ?_⟩ | refine Or.inl ⟨_, rfl, ?_⟩ | refine Or.inr ⟨_, rfl, ?_⟩ | refine ⟨_, _, _, _, true, rfl, .ty _, .base (.str _), kit_ty (by decide +kernel), ?_⟩ | refine ⟨_, _, rfl, ⟨by rw [sizeLine_eq]; omega, rfl⟩, ?_⟩ | refine ⟨_, _, rfl, .inl ⟨_, SqL.of (by assumption), rfl⟩, ?_⟩ | refine ⟨_, _, rfl, .inr ⟨_, SqT.of (by assumption), rfl⟩, ?_⟩))
                refine ⟨chk, _, rfl, DPut.k (k := .inr n) hC5 (small1000 (by omega)), kvs ++ [(.inr n, .ref q)], _, rfl, Same.put (s14.trans s5) nchk, ?_, ?_, ?_, ?_⟩
                · rw [upd_ne ne.symm]
                  exact s5 _ _ hL4
                · rw [upd_same, putK_new _ hnk]
                · rw [take_snoc (fun n => ((n, intsR (lkR es n)) : BF.Row)) hn]
                  have qc : q ≠ chk := fun e => by rw [e, hC4] at nq; cases nq
                  refine Paired.snoc ⟨rfl, q, rfl, nq0, ?_⟩ (Paired.imp (fun _ _ ⟨e1, t, e2, nt, e3⟩ => ⟨e1, t, e2, nt, ?_⟩) hP)
                  · rw [upd_ne qc, upd_same, hlk]
                    show some (HO.lst (ns.map V.int)) = some (HO.lst (((ns.map some).filterMap id).map V.int))
                    rw [fm_some]
                  · rw [upd_ne (fun e => by rw [e, hC] at e3; cases e3)]
                    exact s5 _ _ (s4 _ _ (s3 _ _ e3))
                · intro j hj m hm
                  by_cases e : j = i
                  · subst e
                    rw [hn] at hm
                    cases hm
                    exact gn
                  · exact hok j (by omega) m hm
    · rintro σ H1 ⟨kvs, v4, rfl, s1, hL, hC, hP, hok⟩
      (repeat (first | refine ⟨_, rfl, ?_⟩ | refine ⟨rfl, ?_⟩ | refine ⟨_, _, rfl, rfl, ?_⟩ | refine iteT ?_ | refine iteF ?_ | refine ⟨(by show (0 : Int) < _; omega), ?_⟩ | refine ⟨(⟨by omega, by omega⟩ : CDiv _ _), ?_⟩ | refine ⟨(⟨by decide, by decide, by decide⟩ : CPow _ _), ?_⟩ | refine ⟨(.inl ⟨by omega, by omega⟩ : CMul _ _), ?_⟩ | refine ⟨(.inr ⟨by omega, by omega⟩ : CMul _ _), ?_⟩ | refine Or.inl ⟨_, rfl, ?_⟩ | refine Or.inr ⟨_, rfl, ?_⟩ | refine ⟨_, _, _, _, true, rfl, .ty _, .base (.str _), kit_ty (by decide +kernel), ?_⟩ | refine ⟨_, _, rfl, ⟨by rw [sizeLine_eq]; omega, rfl⟩, ?_⟩ | refine ⟨_, _, rfl, .inl ⟨_, SqL.of (by assumption), rfl⟩, ?_⟩ | refine ⟨_, _, rfl, .inr ⟨_, SqT.of (by assumption), rfl⟩, ?_⟩))
      rw [List.length_map, hll] at hok hP
      have bn : badF two es = none := badF_none fun n hn => by
        obtain ⟨j, hj, e⟩ := List.mem_iff_getElem.mp ((mem_sortS _ _).mpr hn)
        exact hok j (by omega) n (by rw [← e]; exact List.getElem?_eq_getElem hj)
      rw [List.take_of_length_le (by omega)] at hP
      exact kQ bn chk H1 s1 ⟨nchk, kvs, hC, hP⟩
end
end BF43
set_option Elab.async false
set_option linter.all false
set_option maxRecDepth 100000
set_option maxHeartbeats 4000000
namespace BF43
open BF
open PySem PySem.Spec PyProof.Rows L2
open C8 (Cal CalAt Met Mak cal0 met0 mak0 fn0 pe_c pe_mk pe_mt pe_mt0 pe_gc fnScope fnBody fnArgs fnScope_by)
open SX
/-- all but x stands -/
def FrX (x : Addr) (H H' : Hp) : Prop := ∀ b o, b ≠ x → H b = some o → H' b = some o
def spRI (K : PySem.W.Frag) (A : Ad) : Sp := fun vs H Q E => ∃ (x dx d : Addr) (two : Bool) (es : List (Str × RV)), vs = [.ref x, .ref d, .str (ovS two)] ∧ H x = some (.ins A.C_Rows dx []) ∧ RvD K H d es ∧ es.length ≤ 63 ∧ (∀ e ∈ es, e.1.length ≤ 1000) ∧
  (24 < es.length → ∀ ex H', FrX x H H' → H' ex = some (.xd [("limit", .int 24)]) → E (.ref A.C_TooMany) (some ex) H') ∧
  (es.length ≤ 24 → ∀ n, badF two es = some n → ∀ ex H', FrX x H H' → H' ex = some (.xd [("thing", .str n)]) → E (.ref A.C_BadRows) (some ex) H') ∧
  (es.length ≤ 24 → badF two es = none → ∀ H', FrX x H H' → RowsO A.C_Rows (fun a => a = x ∨ H a = none) H' x two (rowsOf es) → Q .non H')
section
variable {P : Program} {w : World} {K : PySem.W.Frag} {mg : Str → Option Value} {base : Heap} {A : Ad}
theorem ok_Rows__init (T : Txt K mg A) : FnOk P w K mg base (L2.CX P w) 4 A.f_Rows__init A.fd_Rows__init ["self", "rows", "over"] (spRI K A) := by
  refine fnX T.u_Rows__init sc_Rows__init (fun vs H Q E h => ?_) (fun cdv B outer s H vs Q E hr h => ?_)
  · obtain ⟨x, dx, d, two, es, rfl, _⟩ := h
    rfl
  · obtain ⟨x, dx, d, two, es, rfl, hx, hT, hl, hz, kM, kE, kQ⟩ := h
    refine ⟨_, (pss_cons (ps_if (pt_cmpR op_gt (pe_callB call_lenD (by rfl) T.z_len (by decide +kernel) (pa_cons (pv 1) pa_nil)) (pe_gint rfl T.g_MOST_THINGS) (nomark _)) (pss_one (ps_raise rfl (takes_of rfl rfl rfl rfl) (pm_TooMany T (hr.mono (by decide)) (pa_cons (pe_gint rfl T.g_MOST_THINGS) pa_nil)))) pss_nil)
 (pss_cons (ps_fld (pv 0) (by exact (pe_cX (cal_checked_rows T) hr (by decide) rfl (pa_cons (pv 1) (pa_cons (pv 2) pa_nil)) (takes_of rfl rfl rfl rfl))) rfl)
 (pss_one (ps_fld (pv 0) (pv 2) rfl)))), ?_⟩
    obtain ⟨⟨kvs0, hd0, hp0⟩, hnd⟩ := id hT
    have hlen0 : kvs0.length = es.length := hp0.length
    (repeat (first | refine ⟨_, rfl, ?_⟩ | refine ⟨rfl, ?_⟩ | refine ⟨_, _, rfl, rfl, ?_⟩ | refine iteT ?_ | refine iteF ?_ | refine ⟨(by show (0 : Int) < _; omega), ?_⟩ | refine ⟨(⟨by omega, by omega⟩ : CDiv _ _), ?_⟩ | refine ⟨(⟨by decide, by decide, by decide⟩ : CPow _ _), ?_⟩ | refine ⟨(.inl ⟨by omega, by omega⟩ : CMul _ _), ?_⟩ | refine ⟨(.inr ⟨by omega, by omega⟩ : CMul _ _), ?_⟩ | refine Or.inl ⟨_, rfl, ?_⟩ | refine Or.inr ⟨_, rfl, ?_⟩ | refine ⟨_, _, _, _, true, rfl, .ty _, .base (.str _), kit_ty (by decide +kernel), ?_⟩ | refine ⟨_, _, rfl, ⟨by rw [sizeLine_eq]; omega, rfl⟩, ?_⟩ | refine ⟨_, _, rfl, .inl ⟨_, SqL.of (by assumption), rfl⟩, ?_⟩ | refine ⟨_, _, rfl, .inr ⟨_, SqT.of (by assumption), rfl⟩, ?_⟩))
    refine ⟨d, kvs0, rfl, hd0, ?_⟩
    (repeat (first | refine ⟨_, rfl, ?_⟩ | refine ⟨rfl, ?_⟩ | refine ⟨_, _, rfl, rfl, ?_⟩ | refine iteT ?_ | refine iteF ?_ | refine ⟨(by show (0 : Int) < _; omega), ?_⟩ | refine ⟨(⟨by omega, by omega⟩ : CDiv _ _), ?_⟩ | refine ⟨(⟨by decide, by decide, by decide⟩ : CPow _ _), ?_⟩ | refine ⟨(.inl ⟨by omega, by omega⟩ : CMul _ _), ?_⟩ | refine ⟨(.inr ⟨by omega, by omega⟩ : CMul _ _), ?_⟩ | refine Or.inl ⟨_, rfl, ?_⟩ | refine Or.inr ⟨_, rfl, ?_⟩ | refine ⟨_, _, _, _, true, rfl, .ty _, .base (.str _), kit_ty (by decide +kernel), ?_⟩ | refine ⟨_, _, rfl, ⟨by rw [sizeLine_eq]; omega, rfl⟩, ?_⟩ | refine ⟨_, _, rfl, .inl ⟨_, SqL.of (by assumption), rfl⟩, ?_⟩ | refine ⟨_, _, rfl, .inr ⟨_, SqT.of (by assumption), rfl⟩, ?_⟩))
    refine ite2 (fun hb => ?_) (fun hb => ?_)
    · have h24 : 24 < es.length := by
        have := of_decide_eq_true hb
        omega
      (repeat (first | refine ⟨_, rfl, ?_⟩ | refine ⟨rfl, ?_⟩ | refine ⟨_, _, rfl, rfl, ?_⟩ | refine iteT ?_ | refine iteF ?_ | refine ⟨(by show (0 : Int) < _; omega), ?_⟩ | refine ⟨(⟨by omega, by omega⟩ : CDiv _ _), ?_⟩ | refine ⟨(⟨by decide, by decide, by decide⟩ : CPow _ _), ?_⟩ | refine ⟨(.inl ⟨by omega, by omega⟩ : CMul _ _), ?_⟩ | refine ⟨(.inr ⟨by omega, by omega⟩ : CMul _ _), ?_⟩ | refine Or.inl ⟨_, rfl, ?_⟩ | refine Or.inr ⟨_, rfl, ?_⟩ | refine ⟨_, _, _, _, true, rfl, .ty _, .base (.str _), kit_ty (by decide +kernel), ?_⟩ | refine ⟨_, _, rfl, ⟨by rw [sizeLine_eq]; omega, rfl⟩, ?_⟩ | refine ⟨_, _, rfl, .inl ⟨_, SqL.of (by assumption), rfl⟩, ?_⟩ | refine ⟨_, _, rfl, .inr ⟨_, SqT.of (by assumption), rfl⟩, ?_⟩))
      exact fun ex H1 _ s1 hd => kM h24 ex H1 (fun b o _ e => s1 _ _ e) hd
    · have h24 : es.length ≤ 24 := by
        simp at hb
        omega
      (repeat (first | refine ⟨_, rfl, ?_⟩ | refine ⟨rfl, ?_⟩ | refine ⟨_, _, rfl, rfl, ?_⟩ | refine iteT ?_ | refine iteF ?_ | refine ⟨(by show (0 : Int) < _; omega), ?_⟩ | refine ⟨(⟨by omega, by omega⟩ : CDiv _ _), ?_⟩ | refine ⟨(⟨by decide, by decide, by decide⟩ : CPow _ _), ?_⟩ | refine ⟨(.inl ⟨by omega, by omega⟩ : CMul _ _), ?_⟩ | refine ⟨(.inr ⟨by omega, by omega⟩ : CMul _ _), ?_⟩ | refine Or.inl ⟨_, rfl, ?_⟩ | refine Or.inr ⟨_, rfl, ?_⟩ | refine ⟨_, _, _, _, true, rfl, .ty _, .base (.str _), kit_ty (by decide +kernel), ?_⟩ | refine ⟨_, _, rfl, ⟨by rw [sizeLine_eq]; omega, rfl⟩, ?_⟩ | refine ⟨_, _, rfl, .inl ⟨_, SqL.of (by assumption), rfl⟩, ?_⟩ | refine ⟨_, _, rfl, .inr ⟨_, SqT.of (by assumption), rfl⟩, ?_⟩))
      refine ⟨d, two, es, rfl, hT, h24, hz, fun n hn ex H1 s1 hd => kE h24 n hn ex H1 (fun b o _ e => s1 _ _ e) hd, fun hn p H1 s1 hD => ?_⟩
      have px : p ≠ x := fun e => by have := hD.at_; rw [e, hx] at this; cases this
      refine ⟨_, rfl, x, A.C_Rows, dx, [], rfl, s1 _ _ hx, T.cl_Rows, T.na_Rows__rows, (by decide), ?_⟩
      (repeat (first | refine ⟨_, rfl, ?_⟩ | refine ⟨rfl, ?_⟩ | refine ⟨_, _, rfl, rfl, ?_⟩ | refine iteT ?_ | refine iteF ?_ | refine ⟨(by show (0 : Int) < _; omega), ?_⟩ | refine ⟨(⟨by omega, by omega⟩ : CDiv _ _), ?_⟩ | refine ⟨(⟨by decide, by decide, by decide⟩ : CPow _ _), ?_⟩ | refine ⟨(.inl ⟨by omega, by omega⟩ : CMul _ _), ?_⟩ | refine ⟨(.inr ⟨by omega, by omega⟩ : CMul _ _), ?_⟩ | refine Or.inl ⟨_, rfl, ?_⟩ | refine Or.inr ⟨_, rfl, ?_⟩ | refine ⟨_, _, _, _, true, rfl, .ty _, .base (.str _), kit_ty (by decide +kernel), ?_⟩ | refine ⟨_, _, rfl, ⟨by rw [sizeLine_eq]; omega, rfl⟩, ?_⟩ | refine ⟨_, _, rfl, .inl ⟨_, SqL.of (by assumption), rfl⟩, ?_⟩ | refine ⟨_, _, rfl, .inr ⟨_, SqT.of (by assumption), rfl⟩, ?_⟩))
      refine ⟨x, A.C_Rows, dx, _, rfl, upd_same, T.cl_Rows, T.na_Rows__over, (by show 1 < 1000; decide), ?_⟩
      refine kQ h24 hn _ (fun b o nb e => by rw [upd_ne nb, upd_ne nb]; exact s1 _ _ e) ⟨.inl rfl, dx, p, upd_same, ?_⟩
      refine (hD.mv (H' := upd (upd H1 x _) x _) fun a o na e => ?_).wk fun a na => .inr na
      have ax : a ≠ x := fun z => by rw [z, hx] at na; cases na
      rw [upd_ne ax, upd_ne ax]
      exact e
theorem mak_Rows (T : Txt K mg A) : MakXK P w K mg base 4 "Rows" A.C_Rows 1 ["over"] (spRI K A) := ⟨_, _, _, ⟨T.mk_Rows, T.fi_Rows__init, T.fn_Rows__init, T.kc_Rows⟩, ok_Rows__init T, T.gC_Rows, T.kb_Rows__init⟩
/-- things() -/
def spRT (A : Ad) : Sp := fun vs H Q _ => ∃ (x : Addr) (two : Bool) (rs : List BF.Row) (N : Addr → Prop), vs = [.ref x] ∧ RowsO A.C_Rows N H x two rs ∧ ∀ p H', H p = none → Same H H' → H' p = some (.lst ((rs.map (·.1)).map V.str)) → Q (.ref p) H'
theorem keysV_rows {N : Addr → Prop} {H : Hp} {kvs : List (Key × V)} {rs : List BF.Row} (h : Paired (RowK N H) kvs rs) : (kvs.map fun kv => kV kv.1) = (rs.map (·.1)).map V.str := by
  have e := congrArg (List.map kV) (rowk_keys h)
  rw [List.map_map, List.map_map] at e
  rw [show (fun kv : Key × V => kV kv.1) = kV ∘ (fun x => x.1) from rfl, e]
  rfl
theorem met_Rows_things (T : Txt K mg A) : Met P w K mg base 1 A.C_Rows "things" (spRT A) [] := by
  refine met0 T.cl_Rows ⟨T.fi_Rows_things, T.fn_Rows_things, T.kp_Rows_things⟩ T.u_Rows_things T.b_Rows_things sc_Rows_things (fun vs H Q E h => ?_) (fun cdv B outer s H vs Q E hr h => ?_)
  · obtain ⟨x, two, rs, N, rfl, _⟩ := h
    rfl
  · obtain ⟨x, two, rs, N, rfl, ⟨_, dx, d, h1, _, kvs, h2, h3⟩, k⟩ := h
    refine ⟨_, (pss_one (ps_ret (pe_callTy (call_listD rfl) (by rfl) T.z_list (by decide +kernel) (pa_cons (pe_fldK K (pv 0) rfl) pa_nil)))), ?_⟩
    (repeat (first | refine ⟨_, rfl, ?_⟩ | refine ⟨rfl, ?_⟩ | refine ⟨_, _, rfl, rfl, ?_⟩ | refine iteT ?_ | refine iteF ?_ | refine ⟨(by show (0 : Int) < _; omega), ?_⟩ | refine ⟨(⟨by omega, by omega⟩ : CDiv _ _), ?_⟩ | refine ⟨(⟨by decide, by decide, by decide⟩ : CPow _ _), ?_⟩ | refine ⟨(.inl ⟨by omega, by omega⟩ : CMul _ _), ?_⟩ | refine ⟨(.inr ⟨by omega, by omega⟩ : CMul _ _), ?_⟩ | refine Or.inl ⟨_, rfl, ?_⟩ | refine Or.inr ⟨_, rfl, ?_⟩ | refine ⟨_, _, _, _, true, rfl, .ty _, .base (.str _), kit_ty (by decide +kernel), ?_⟩ | refine ⟨_, _, rfl, ⟨by rw [sizeLine_eq]; omega, rfl⟩, ?_⟩ | refine ⟨_, _, rfl, .inl ⟨_, SqL.of (by assumption), rfl⟩, ?_⟩ | refine ⟨_, _, rfl, .inr ⟨_, SqT.of (by assumption), rfl⟩, ?_⟩))
    refine ⟨x, A.C_Rows, dx, _, _, rfl, h1, T.cl_Rows, T.na_Rows__rows, rwf_rows _ _, ?_⟩
    (repeat (first | refine ⟨_, rfl, ?_⟩ | refine ⟨rfl, ?_⟩ | refine ⟨_, _, rfl, rfl, ?_⟩ | refine iteT ?_ | refine iteF ?_ | refine ⟨(by show (0 : Int) < _; omega), ?_⟩ | refine ⟨(⟨by omega, by omega⟩ : CDiv _ _), ?_⟩ | refine ⟨(⟨by decide, by decide, by decide⟩ : CPow _ _), ?_⟩ | refine ⟨(.inl ⟨by omega, by omega⟩ : CMul _ _), ?_⟩ | refine ⟨(.inr ⟨by omega, by omega⟩ : CMul _ _), ?_⟩ | refine Or.inl ⟨_, rfl, ?_⟩ | refine Or.inr ⟨_, rfl, ?_⟩ | refine ⟨_, _, _, _, true, rfl, .ty _, .base (.str _), kit_ty (by decide +kernel), ?_⟩ | refine ⟨_, _, rfl, ⟨by rw [sizeLine_eq]; omega, rfl⟩, ?_⟩ | refine ⟨_, _, rfl, .inl ⟨_, SqL.of (by assumption), rfl⟩, ?_⟩ | refine ⟨_, _, rfl, .inr ⟨_, SqT.of (by assumption), rfl⟩, ?_⟩))
    refine ⟨d, kvs, rfl, .inl h2, fun p hp => ?_⟩
    rw [keysV_rows h3]
    exact k p _ hp (Same.new hp) upd_same
/-- over() -/
def spRV (A : Ad) : Sp := fun vs H Q _ => ∃ (x : Addr) (two : Bool) (rs : List BF.Row) (N : Addr → Prop), vs = [.ref x] ∧ RowsO A.C_Rows N H x two rs ∧ Q (.str (ovS two)) H
theorem met_Rows_over (T : Txt K mg A) : Met P w K mg base 1 A.C_Rows "over" (spRV A) [] := by
  refine met0 T.cl_Rows ⟨T.fi_Rows_over, T.fn_Rows_over, T.kp_Rows_over⟩ T.u_Rows_over T.b_Rows_over sc_Rows_over (fun vs H Q E h => ?_) (fun cdv B outer s H vs Q E hr h => ?_)
  · obtain ⟨x, two, rs, N, rfl, _⟩ := h
    rfl
  · obtain ⟨x, two, rs, N, rfl, ⟨_, dx, d, h1, _⟩, k⟩ := h
    refine ⟨_, (pss_one (ps_ret (pe_fldK K (pv 0) rfl))), ?_⟩
    (repeat (first | refine ⟨_, rfl, ?_⟩ | refine ⟨rfl, ?_⟩ | refine ⟨_, _, rfl, rfl, ?_⟩ | refine iteT ?_ | refine iteF ?_ | refine ⟨(by show (0 : Int) < _; omega), ?_⟩ | refine ⟨(⟨by omega, by omega⟩ : CDiv _ _), ?_⟩ | refine ⟨(⟨by decide, by decide, by decide⟩ : CPow _ _), ?_⟩ | refine ⟨(.inl ⟨by omega, by omega⟩ : CMul _ _), ?_⟩ | refine ⟨(.inr ⟨by omega, by omega⟩ : CMul _ _), ?_⟩ | refine Or.inl ⟨_, rfl, ?_⟩ | refine Or.inr ⟨_, rfl, ?_⟩ | refine ⟨_, _, _, _, true, rfl, .ty _, .base (.str _), kit_ty (by decide +kernel), ?_⟩ | refine ⟨_, _, rfl, ⟨by rw [sizeLine_eq]; omega, rfl⟩, ?_⟩ | refine ⟨_, _, rfl, .inl ⟨_, SqL.of (by assumption), rfl⟩, ?_⟩ | refine ⟨_, _, rfl, .inr ⟨_, SqT.of (by assumption), rfl⟩, ?_⟩))
    exact ⟨x, A.C_Rows, dx, _, _, rfl, h1, T.cl_Rows, T.na_Rows__over, rwf_over _ _, k⟩
/-- row(thing) -/
def spRR (A : Ad) : Sp := fun vs H Q E => ∃ (x : Addr) (n : Str) (two : Bool) (rs : List BF.Row) (N : Addr → Prop), vs = [.ref x, .str n] ∧ RowsO A.C_Rows N H x two rs ∧ (rs.map (·.1)).Nodup ∧
  (∀ r, r ∈ rs → r.1 = n → ∀ p H', H p = none → Same H H' → H' p = some (.lst (r.2.map V.int)) → Q (.ref p) H') ∧ (n ∉ rs.map (·.1) → ∀ dx H', Same H H' → H' dx = some (.xd [("thing", .str n)]) → E (.ref A.C_NoThing) (some dx) H')
theorem met_Rows_row (T : Txt K mg A) : MetX P w K mg base 3 A.C_Rows "row" (spRR A) := by
  refine ⟨_, _, _, T.cl_Rows, ⟨T.fi_Rows_row, T.fn_Rows_row, T.kp_Rows_row⟩, fnX T.u_Rows_row sc_Rows_row (fun vs H Q E h => ?_) (fun cdv B outer s H vs Q E hr h => ?_), T.b_Rows_row⟩
  · obtain ⟨x, n, two, rs, N, rfl, _⟩ := h
    rfl
  · obtain ⟨x, n, two, rs, N, rfl, ⟨_, dx, d, h1, _, kvs, h2, h3⟩, nd, kQ, kE⟩ := h
    refine ⟨_, (pss_cons (ps_if (pt_cmp (pc_dnotin (hu_of hr) (pv 1) (pe_fldK K (pv 0) rfl))) (pss_one (ps_raise rfl (takes_of rfl rfl rfl rfl) (pm_NoThing T (hr.mono (by decide)) (pa_cons (pv 1) pa_nil)))) pss_nil)
 (pss_one (ps_ret (pe_callTy (listK K) (by rfl) T.z_list (by decide +kernel) (pa_cons (pe_dget (hu_of hr) (pe_fldK K (pv 0) rfl) (pv 1) (fun _ _ => rfl)) pa_nil))))), ?_⟩
    (repeat (first | refine ⟨_, rfl, ?_⟩ | refine ⟨rfl, ?_⟩ | refine ⟨_, _, rfl, rfl, ?_⟩ | refine iteT ?_ | refine iteF ?_ | refine ⟨(by show (0 : Int) < _; omega), ?_⟩ | refine ⟨(⟨by omega, by omega⟩ : CDiv _ _), ?_⟩ | refine ⟨(⟨by decide, by decide, by decide⟩ : CPow _ _), ?_⟩ | refine ⟨(.inl ⟨by omega, by omega⟩ : CMul _ _), ?_⟩ | refine ⟨(.inr ⟨by omega, by omega⟩ : CMul _ _), ?_⟩ | refine Or.inl ⟨_, rfl, ?_⟩ | refine Or.inr ⟨_, rfl, ?_⟩ | refine ⟨_, _, _, _, true, rfl, .ty _, .base (.str _), kit_ty (by decide +kernel), ?_⟩ | refine ⟨_, _, rfl, ⟨by rw [sizeLine_eq]; omega, rfl⟩, ?_⟩ | refine ⟨_, _, rfl, .inl ⟨_, SqL.of (by assumption), rfl⟩, ?_⟩ | refine ⟨_, _, rfl, .inr ⟨_, SqT.of (by assumption), rfl⟩, ?_⟩))
    refine ⟨x, A.C_Rows, dx, _, _, rfl, h1, T.cl_Rows, T.na_Rows__rows, rwf_rows _ _, ?_⟩
    by_cases hm : n ∈ rs.map (·.1)
    · obtain ⟨r, hm', rfl⟩ := List.mem_map.mp hm
      obtain ⟨q, hv, _, hq⟩ := rowk_get h3 nd hm'
      refine ⟨d, _, rfl, dget_s (.inl h2) hv, ?_⟩
      (repeat (first | refine ⟨_, rfl, ?_⟩ | refine ⟨rfl, ?_⟩ | refine ⟨_, _, rfl, rfl, ?_⟩ | refine iteT ?_ | refine iteF ?_ | refine ⟨(by show (0 : Int) < _; omega), ?_⟩ | refine ⟨(⟨by omega, by omega⟩ : CDiv _ _), ?_⟩ | refine ⟨(⟨by decide, by decide, by decide⟩ : CPow _ _), ?_⟩ | refine ⟨(.inl ⟨by omega, by omega⟩ : CMul _ _), ?_⟩ | refine ⟨(.inr ⟨by omega, by omega⟩ : CMul _ _), ?_⟩ | refine Or.inl ⟨_, rfl, ?_⟩ | refine Or.inr ⟨_, rfl, ?_⟩ | refine ⟨_, _, _, _, true, rfl, .ty _, .base (.str _), kit_ty (by decide +kernel), ?_⟩ | refine ⟨_, _, rfl, ⟨by rw [sizeLine_eq]; omega, rfl⟩, ?_⟩ | refine ⟨_, _, rfl, .inl ⟨_, SqL.of (by assumption), rfl⟩, ?_⟩ | refine ⟨_, _, rfl, .inr ⟨_, SqT.of (by assumption), rfl⟩, ?_⟩))
      refine ⟨x, A.C_Rows, dx, _, _, rfl, h1, T.cl_Rows, T.na_Rows__rows, rwf_rows _ _, ?_⟩
      (repeat (first | refine ⟨_, rfl, ?_⟩ | refine ⟨rfl, ?_⟩ | refine ⟨_, _, rfl, rfl, ?_⟩ | refine iteT ?_ | refine iteF ?_ | refine ⟨(by show (0 : Int) < _; omega), ?_⟩ | refine ⟨(⟨by omega, by omega⟩ : CDiv _ _), ?_⟩ | refine ⟨(⟨by decide, by decide, by decide⟩ : CPow _ _), ?_⟩ | refine ⟨(.inl ⟨by omega, by omega⟩ : CMul _ _), ?_⟩ | refine ⟨(.inr ⟨by omega, by omega⟩ : CMul _ _), ?_⟩ | refine Or.inl ⟨_, rfl, ?_⟩ | refine Or.inr ⟨_, rfl, ?_⟩ | refine ⟨_, _, _, _, true, rfl, .ty _, .base (.str _), kit_ty (by decide +kernel), ?_⟩ | refine ⟨_, _, rfl, ⟨by rw [sizeLine_eq]; omega, rfl⟩, ?_⟩ | refine ⟨_, _, rfl, .inl ⟨_, SqL.of (by assumption), rfl⟩, ?_⟩ | refine ⟨_, _, rfl, .inr ⟨_, SqT.of (by assumption), rfl⟩, ?_⟩))
      refine ⟨d, _, rfl, dget_s (.inl h2) hv, ?_⟩
      (repeat (first | refine ⟨_, rfl, ?_⟩ | refine ⟨rfl, ?_⟩ | refine ⟨_, _, rfl, rfl, ?_⟩ | refine iteT ?_ | refine iteF ?_ | refine ⟨(by show (0 : Int) < _; omega), ?_⟩ | refine ⟨(⟨by omega, by omega⟩ : CDiv _ _), ?_⟩ | refine ⟨(⟨by decide, by decide, by decide⟩ : CPow _ _), ?_⟩ | refine ⟨(.inl ⟨by omega, by omega⟩ : CMul _ _), ?_⟩ | refine ⟨(.inr ⟨by omega, by omega⟩ : CMul _ _), ?_⟩ | refine Or.inl ⟨_, rfl, ?_⟩ | refine Or.inr ⟨_, rfl, ?_⟩ | refine ⟨_, _, _, _, true, rfl, .ty _, .base (.str _), kit_ty (by decide +kernel), ?_⟩ | refine ⟨_, _, rfl, ⟨by rw [sizeLine_eq]; omega, rfl⟩, ?_⟩ | refine ⟨_, _, rfl, .inl ⟨_, SqL.of (by assumption), rfl⟩, ?_⟩ | refine ⟨_, _, rfl, .inr ⟨_, SqT.of (by assumption), rfl⟩, ?_⟩))
      exact ⟨q, _, rfl, .inl (SqL.of hq), fun p hp => kQ r hm' rfl p _ hp (Same.new hp) upd_same⟩
    · have hv : valV kvs (.inr n) = none := valV_none (by
        rw [rowk_keys h3]
        exact fun q => by
          obtain ⟨m, h5, h6⟩ := List.mem_map.mp q
          cases h6
          exact hm h5)
      refine ⟨d, none, rfl, .inl ⟨kvs, .inr n, .inl h2, rfl, hv.symm⟩, ?_⟩
      (repeat (first | refine ⟨_, rfl, ?_⟩ | refine ⟨rfl, ?_⟩ | refine ⟨_, _, rfl, rfl, ?_⟩ | refine iteT ?_ | refine iteF ?_ | refine ⟨(by show (0 : Int) < _; omega), ?_⟩ | refine ⟨(⟨by omega, by omega⟩ : CDiv _ _), ?_⟩ | refine ⟨(⟨by decide, by decide, by decide⟩ : CPow _ _), ?_⟩ | refine ⟨(.inl ⟨by omega, by omega⟩ : CMul _ _), ?_⟩ | refine ⟨(.inr ⟨by omega, by omega⟩ : CMul _ _), ?_⟩ | refine Or.inl ⟨_, rfl, ?_⟩ | refine Or.inr ⟨_, rfl, ?_⟩ | refine ⟨_, _, _, _, true, rfl, .ty _, .base (.str _), kit_ty (by decide +kernel), ?_⟩ | refine ⟨_, _, rfl, ⟨by rw [sizeLine_eq]; omega, rfl⟩, ?_⟩ | refine ⟨_, _, rfl, .inl ⟨_, SqL.of (by assumption), rfl⟩, ?_⟩ | refine ⟨_, _, rfl, .inr ⟨_, SqT.of (by assumption), rfl⟩, ?_⟩))
      exact fun dx H' _ s1 hd => kE hm dx H' s1 hd
/-- rows() -/
def spRS (A : Ad) : Sp := fun vs H Q _ => ∃ (x : Addr) (two : Bool) (rs : List BF.Row) (N : Addr → Prop), vs = [.ref x] ∧ RowsO A.C_Rows N H x two rs ∧ (rs.map (·.1)).Nodup ∧ rs.length ≤ 63 ∧ ∀ p H', Same H H' → RowsD (fun a => H a = none) H' p rs → Q (.ref p) H'
theorem met_Rows_rows (T : Txt K mg A) : Met P w K mg base 1 A.C_Rows "rows" (spRS A) [] := by
  refine met0 T.cl_Rows ⟨T.fi_Rows_rows, T.fn_Rows_rows, T.kp_Rows_rows⟩ T.u_Rows_rows T.b_Rows_rows sc_Rows_rows (fun vs H Q E h => ?_) (fun cdv B outer s H vs Q E hr h => ?_)
  · obtain ⟨x, two, rs, N, rfl, _⟩ := h
    rfl
  · obtain ⟨x, two, rs, N, rfl, ⟨_, dx, d, h1, _, kvs, h2, h3⟩, nd, hl, k⟩ := h
    refine ⟨_, (pss_one (ps_ret (pe_lock (pe_dc (own := [("thing", 1)]) (g := gName 1) rfl sc_Rows_rows.nd (pi_keys (pe_fldK K (pv 0) rfl)) (blkOk_by (own := [("thing", 1)]) (N := N_Rows_rows) (sc := fnScope s_Rows_rows) (by decide +kernel)) (fun _ _ _ _ _ => (pg_name (i := 1) sc_Rows_rows.nd rfl (by first | exact Or.inl rfl | exact Or.inr rfl))) (fun _ _ _ _ _ => pts_nil) (fun _ _ _ _ _ => (pv 1)) (fun _ _ _ _ _ => (pe_callTy (listK K) (by rfl) T.z_list (by decide +kernel) (pa_cons (pe_dget (hu_of hr) (pe_fldK K (pv 0) rfl) (pv 1) (fun _ _ => rfl)) pa_nil))))))), ?_⟩
    (repeat (first | refine ⟨_, rfl, ?_⟩ | refine ⟨rfl, ?_⟩ | refine ⟨_, _, rfl, rfl, ?_⟩ | refine iteT ?_ | refine iteF ?_ | refine ⟨(by show (0 : Int) < _; omega), ?_⟩ | refine ⟨(⟨by omega, by omega⟩ : CDiv _ _), ?_⟩ | refine ⟨(⟨by decide, by decide, by decide⟩ : CPow _ _), ?_⟩ | refine ⟨(.inl ⟨by omega, by omega⟩ : CMul _ _), ?_⟩ | refine ⟨(.inr ⟨by omega, by omega⟩ : CMul _ _), ?_⟩ | refine Or.inl ⟨_, rfl, ?_⟩ | refine Or.inr ⟨_, rfl, ?_⟩ | refine ⟨_, _, _, _, true, rfl, .ty _, .base (.str _), kit_ty (by decide +kernel), ?_⟩ | refine ⟨_, _, rfl, ⟨by rw [sizeLine_eq]; omega, rfl⟩, ?_⟩ | refine ⟨_, _, rfl, .inl ⟨_, SqL.of (by assumption), rfl⟩, ?_⟩ | refine ⟨_, _, rfl, .inr ⟨_, SqT.of (by assumption), rfl⟩, ?_⟩))
    refine ⟨d, _, h2, trivial, fun od => ?_⟩
    have xd : x ≠ d := fun e => by rw [e, h2] at h1; cases h1
    have hx : upd H d (.frz od (.dK kvs)) x = some (.ins A.C_Rows dx (rwf d two)) := by rw [upd_ne xd]; exact h1
    have h3L : Paired (RowK N (upd H d (.frz od (.dK kvs)))) kvs rs := Paired.imp (fun _ _ ⟨e1, q, e2, nq, e3⟩ => ⟨e1, q, e2, nq, by rw [upd_ne (fun e => by rw [e, h2] at e3; cases e3)]; exact e3⟩) h3
    refine ⟨_, rfl, x, A.C_Rows, dx, _, _, rfl, hx, T.cl_Rows, T.na_Rows__rows, rwf_rows _ _, ?_⟩
    refine ⟨d, od, rfl, .inl ⟨kvs, upd_same, fun D nD => ?_⟩⟩
    have dD : D ≠ d := fun e => by rw [e, upd_same] at nD; cases nD
    have nD0 : H D = none := by rw [upd_ne dD] at nD; exact nD
    have hkl : kvs.length = rs.length := h3.length
    refine dc_it walk_keys (fun i H' => ∃ kk, Same (upd H d (.frz od (.dK kvs))) H' ∧ H' D = some (.dK kk) ∧ Paired (RowK (fun a => H a = none) H') kk (rs.take i))
      ⟨[], Same.new nD, upd_same, .nil⟩ (fun _ H' _ ⟨_, q, _⟩ => q _ _ upd_same) ?_ ?_
    · rintro i v H2 H3 hi ⟨kk, sL, hD, hP⟩ ⟨rfl, kq, u, hku, rfl⟩
      obtain ⟨r, hr, e1, q, _, _, hq⟩ := paired_at h3L hku
      have e1 : kq = Sum.inr r.1 := e1
      subst e1
      have hrm : r ∈ rs := List.mem_of_getElem? hr
      obtain ⟨q, hv, _, hq⟩ := rowk_get h3L nd hrm
      refine ⟨rfl, ?_⟩
      (repeat (first | refine ⟨_, rfl, ?_⟩ | refine ⟨rfl, ?_⟩ | refine ⟨_, _, rfl, rfl, ?_⟩ | refine iteT ?_ | refine iteF ?_ | refine ⟨(by show (0 : Int) < _; omega), ?_⟩ | refine ⟨(⟨by omega, by omega⟩ : CDiv _ _), ?_⟩ | refine ⟨(⟨by decide, by decide, by decide⟩ : CPow _ _), ?_⟩ | refine ⟨(.inl ⟨by omega, by omega⟩ : CMul _ _), ?_⟩ | refine ⟨(.inr ⟨by omega, by omega⟩ : CMul _ _), ?_⟩ | refine Or.inl ⟨_, rfl, ?_⟩ | refine Or.inr ⟨_, rfl, ?_⟩ | refine ⟨_, _, _, _, true, rfl, .ty _, .base (.str _), kit_ty (by decide +kernel), ?_⟩ | refine ⟨_, _, rfl, ⟨by rw [sizeLine_eq]; omega, rfl⟩, ?_⟩ | refine ⟨_, _, rfl, .inl ⟨_, SqL.of (by assumption), rfl⟩, ?_⟩ | refine ⟨_, _, rfl, .inr ⟨_, SqT.of (by assumption), rfl⟩, ?_⟩))
      refine ⟨x, A.C_Rows, dx, _, _, rfl, sL _ _ hx, T.cl_Rows, T.na_Rows__rows, rwf_rows _ _, ?_⟩
      refine ⟨_, rfl, d, .ref q, rfl, dget_s (.inr ⟨od, sL _ _ upd_same⟩) hv, ?_⟩
      (repeat (first | refine ⟨_, rfl, ?_⟩ | refine ⟨rfl, ?_⟩ | refine ⟨_, _, rfl, rfl, ?_⟩ | refine iteT ?_ | refine iteF ?_ | refine ⟨(by show (0 : Int) < _; omega), ?_⟩ | refine ⟨(⟨by omega, by omega⟩ : CDiv _ _), ?_⟩ | refine ⟨(⟨by decide, by decide, by decide⟩ : CPow _ _), ?_⟩ | refine ⟨(.inl ⟨by omega, by omega⟩ : CMul _ _), ?_⟩ | refine ⟨(.inr ⟨by omega, by omega⟩ : CMul _ _), ?_⟩ | refine Or.inl ⟨_, rfl, ?_⟩ | refine Or.inr ⟨_, rfl, ?_⟩ | refine ⟨_, _, _, _, true, rfl, .ty _, .base (.str _), kit_ty (by decide +kernel), ?_⟩ | refine ⟨_, _, rfl, ⟨by rw [sizeLine_eq]; omega, rfl⟩, ?_⟩ | refine ⟨_, _, rfl, .inl ⟨_, SqL.of (by assumption), rfl⟩, ?_⟩ | refine ⟨_, _, rfl, .inr ⟨_, SqT.of (by assumption), rfl⟩, ?_⟩))
      refine ⟨q, _, rfl, .inl (SqL.of (sL _ _ hq)), fun l nl => ?_⟩
      have s3 := Same.new (o := .lst (r.2.map V.int)) nl
      have nl0 : H l = none := by
        have := sL.free nl
        by_cases e : l = d
        · rw [e, upd_same] at this
          cases this
        · rw [upd_ne e] at this
          exact this
      have hnk : valV kk (.inr r.1) = none := by
        refine valV_none ?_
        rw [rowk_keys hP]
        intro hm
        obtain ⟨m, hm1, hm2⟩ := List.mem_map.mp hm
        cases Sum.inr.inj hm2
        obtain ⟨r2, hm3, hm4⟩ := List.mem_map.mp hm1
        obtain ⟨j, hj, e⟩ := List.mem_iff_getElem.mp hm3
        rw [List.length_take] at hj
        rw [List.getElem_take] at e
        obtain ⟨hi2, e2⟩ := List.getElem?_eq_some_iff.mp hr
        have hj1 : j < (rs.map (·.1)).length := by rw [List.length_map]; omega
        have hi1 : i < (rs.map (·.1)).length := by rw [List.length_map]; omega
        have z : (rs.map (·.1))[j] = (rs.map (·.1))[i] := by rw [List.getElem_map, List.getElem_map, e, e2]; exact hm4
        have := (List.getElem_inj nd).mp z
        omega
      refine ⟨kk, .inr r.1, rfl, s3 _ _ hD, small1000 (by rw [hP.length, List.length_take]; omega), kk ++ [(.inr r.1, .ref l)], Same.put (sL.trans s3) nD, ?_, ?_⟩
      · rw [upd_same, putK_new _ hnk]
      · rw [List.take_succ, hr]
        have lD : l ≠ D := fun e => by rw [e, hD] at nl; cases nl
        refine Paired.snoc ⟨rfl, l, rfl, nl0, by rw [upd_ne lD, upd_same]⟩ (Paired.imp (fun _ _ ⟨e1, t, e2, nt, e3⟩ => ⟨e1, t, e2, nt, ?_⟩) hP)
        rw [upd_ne (fun e => by rw [e, hD] at e3; cases e3)]
        exact s3 _ _ e3
    · rintro H2 ⟨kk, sL, hD, hP⟩
      rw [hkl, List.take_of_length_le (Nat.le_refl _)] at hP
      refine ⟨sL _ _ upd_same, k D _ (lock_same h2 sL) ⟨nD0, kk, by rw [upd_ne dD]; exact hD, Paired.imp (fun _ _ ⟨e1, t, e2, nt, e3⟩ => ⟨e1, t, e2, nt, ?_⟩) hP⟩⟩
      rw [upd_ne (fun e => by rw [e, sL _ _ upd_same] at e3; cases e3)]
      exact e3
end
end BF43
set_option Elab.async false
set_option linter.all false
set_option maxRecDepth 100000
set_option maxHeartbeats 4000000
namespace BF43
open BF
open PySem PySem.Spec PyProof.Rows L2
open C8 (Cal CalAt Met Mak cal0 met0 mak0 fn0 pe_c pe_mk pe_mt pe_mt0 pe_gc fnScope fnBody fnArgs fnScope_by)
open SX
theorem greatest_all {k : Nat} : ∀ n : Nat, greatestI 0 (List.replicate n (k : Int)) = if n = 0 then 0 else (k : Int)
  | 0 => rfl
  | n + 1 => by
    rw [if_neg (by omega), List.replicate_succ]
    show (List.replicate n (k : Int)).foldl max (k : Int) = k
    induction n with
    | zero => rfl
    | succ n ih =>
      rw [List.replicate_succ, List.foldl_cons, show max (k : Int) k = k from by omega]
      exact ih
section
variable {P : Program} {w : World} {K : PySem.W.Frag} {mg : Str → Option Value} {base : Heap} {A : Ad}
/-- width() -/
def spRW (A : Ad) : Sp := fun vs H Q _ => ∃ (x : Addr) (two : Bool) (rs : List BF.Row) (N : Addr → Prop) (k : Nat), vs = [.ref x] ∧ RowsO A.C_Rows N H x two rs ∧ rs.length ≤ 63 ∧ (∀ r ∈ rs, r.2.length = k) ∧ k ≤ 1000 ∧ ∀ H', Same H H' → Q (.int (if rs.length = 0 then 0 else (k : Int))) H'
theorem met_Rows_width (T : Txt K mg A) : Met P w K mg base 1 A.C_Rows "width" (spRW A) [] := by
  refine met0 T.cl_Rows ⟨T.fi_Rows_width, T.fn_Rows_width, T.kp_Rows_width⟩ T.u_Rows_width T.b_Rows_width sc_Rows_width (fun vs H Q E h => ?_) (fun cdv B outer s H vs Q E hr h => ?_)
  · obtain ⟨x, two, rs, N, k, rfl, _⟩ := h
    rfl
  · obtain ⟨x, two, rs, N, k, rfl, ⟨_, dx, d, h1, _, kvs, h2, h3⟩, hl, hw, hk, kQ⟩ := h
    refine ⟨_, (pss_one (ps_ret (pe_callBK (maxDfK K rfl hr) (by rfl) T.z_max (by decide +kernel) (pa_cons (pe_lock (pe_lc (own := [("row", 1)]) (g := gName 1) rfl sc_Rows_width.nd (pi_values (pe_fldK K (pv 0) rfl)) (blkOk_by (own := [("row", 1)]) (N := N_Rows_width) (sc := fnScope s_Rows_width) (by decide +kernel)) (fun _ _ _ _ _ => (pg_name (i := 1) sc_Rows_width.nd rfl (by first | exact Or.inl rfl | exact Or.inr rfl))) (fun _ _ _ _ _ => pts_nil) (fun _ _ _ _ _ => (pe_callB (lenK K) (by rfl) T.z_len (by decide +kernel) (pa_cons (pv 1) pa_nil))))) pa_nil) (pk_cons pe_int pk_nil)))), ?_⟩
    (repeat (first | refine ⟨_, rfl, ?_⟩ | refine ⟨rfl, ?_⟩ | refine ⟨_, _, rfl, rfl, ?_⟩ | refine iteT ?_ | refine iteF ?_ | refine ⟨(by show (0 : Int) < _; omega), ?_⟩ | refine ⟨(⟨by omega, by omega⟩ : CDiv _ _), ?_⟩ | refine ⟨(⟨by decide, by decide, by decide⟩ : CPow _ _), ?_⟩ | refine ⟨(.inl ⟨by omega, by omega⟩ : CMul _ _), ?_⟩ | refine ⟨(.inr ⟨by omega, by omega⟩ : CMul _ _), ?_⟩ | refine Or.inl ⟨_, rfl, ?_⟩ | refine Or.inr ⟨_, rfl, ?_⟩ | refine ⟨_, _, _, _, true, rfl, .ty _, .base (.str _), kit_ty (by decide +kernel), ?_⟩ | refine ⟨_, _, rfl, ⟨by rw [sizeLine_eq]; omega, rfl⟩, ?_⟩ | refine ⟨_, _, rfl, .inl ⟨_, SqL.of (by assumption), rfl⟩, ?_⟩ | refine ⟨_, _, rfl, .inr ⟨_, SqT.of (by assumption), rfl⟩, ?_⟩))
    refine ⟨d, _, h2, trivial, fun od => ?_⟩
    have xd : x ≠ d := fun e => by rw [e, h2] at h1; cases h1
    have hx : upd H d (.frz od (.dK kvs)) x = some (.ins A.C_Rows dx (rwf d two)) := by rw [upd_ne xd]; exact h1
    have h3L : Paired (RowK N (upd H d (.frz od (.dK kvs)))) kvs rs := Paired.imp (fun _ _ ⟨e1, q, e2, nq, e3⟩ => ⟨e1, q, e2, nq, by rw [upd_ne (fun e => by rw [e, h2] at e3; cases e3)]; exact e3⟩) h3
    have hkl : kvs.length = rs.length := h3.length
    refine ⟨_, rfl, x, A.C_Rows, dx, _, _, rfl, hx, T.cl_Rows, T.na_Rows__rows, rwf_rows _ _, ?_⟩
    refine ⟨d, od, kvs, rfl, upd_same, fun D nD => ?_⟩
    have dD : D ≠ d := fun e => by rw [e, upd_same] at nD; cases nD
    refine lc_it walk_values (fun i H' => Same (upd H d (.frz od (.dK kvs))) H' ∧ H' D = some (.lst ((List.replicate i (k : Int)).map V.int)))
      ⟨Same.new nD, upd_same⟩ (fun _ H' _ ⟨q, _⟩ => q _ _ upd_same) ?_ ?_
    · rintro i v H2 H3 hi ⟨sL, hD⟩ ⟨rfl, kq, hku⟩
      obtain ⟨r, hr, e1, q, e2, _, hq⟩ := paired_at h3L hku
      have e2 : v = .ref q := e2
      subst e2
      have hrm : r ∈ rs := List.mem_of_getElem? hr
      have hq2 := sL _ _ hq
      refine ⟨rfl, ?_⟩
      (repeat (first | refine ⟨_, rfl, ?_⟩ | refine ⟨rfl, ?_⟩ | refine ⟨_, _, rfl, rfl, ?_⟩ | refine iteT ?_ | refine iteF ?_ | refine ⟨(by show (0 : Int) < _; omega), ?_⟩ | refine ⟨(⟨by omega, by omega⟩ : CDiv _ _), ?_⟩ | refine ⟨(⟨by decide, by decide, by decide⟩ : CPow _ _), ?_⟩ | refine ⟨(.inl ⟨by omega, by omega⟩ : CMul _ _), ?_⟩ | refine ⟨(.inr ⟨by omega, by omega⟩ : CMul _ _), ?_⟩ | refine Or.inl ⟨_, rfl, ?_⟩ | refine Or.inr ⟨_, rfl, ?_⟩ | refine ⟨_, _, _, _, true, rfl, .ty _, .base (.str _), kit_ty (by decide +kernel), ?_⟩ | refine ⟨_, _, rfl, ⟨by rw [sizeLine_eq]; omega, rfl⟩, ?_⟩ | refine ⟨_, _, rfl, .inl ⟨_, SqL.of (by assumption), rfl⟩, ?_⟩ | refine ⟨_, _, rfl, .inr ⟨_, SqT.of (by assumption), rfl⟩, ?_⟩))
      refine ⟨_, hD, small1000 (by rw [List.length_map, List.length_replicate]; omega), Same.put sL nD, ?_⟩
      rw [upd_same, List.replicate_succ', List.map_append, List.length_map, hw r hrm]
      rfl
    · rintro H2 ⟨sL, hD⟩
      refine ⟨sL _ _ upd_same, ?_⟩
      (repeat (first | refine ⟨_, rfl, ?_⟩ | refine ⟨rfl, ?_⟩ | refine ⟨_, _, rfl, rfl, ?_⟩ | refine iteT ?_ | refine iteF ?_ | refine ⟨(by show (0 : Int) < _; omega), ?_⟩ | refine ⟨(⟨by omega, by omega⟩ : CDiv _ _), ?_⟩ | refine ⟨(⟨by decide, by decide, by decide⟩ : CPow _ _), ?_⟩ | refine ⟨(.inl ⟨by omega, by omega⟩ : CMul _ _), ?_⟩ | refine ⟨(.inr ⟨by omega, by omega⟩ : CMul _ _), ?_⟩ | refine Or.inl ⟨_, rfl, ?_⟩ | refine Or.inr ⟨_, rfl, ?_⟩ | refine ⟨_, _, _, _, true, rfl, .ty _, .base (.str _), kit_ty (by decide +kernel), ?_⟩ | refine ⟨_, _, rfl, ⟨by rw [sizeLine_eq]; omega, rfl⟩, ?_⟩ | refine ⟨_, _, rfl, .inl ⟨_, SqL.of (by assumption), rfl⟩, ?_⟩ | refine ⟨_, _, rfl, .inr ⟨_, SqT.of (by assumption), rfl⟩, ?_⟩))
      refine ⟨D, _, _, rfl, rfl, SqL.of (by rw [upd_ne dD]; exact hD), ?_⟩
      rw [greatest_all, hkl]
      exact kQ _ (lock_same h2 sL)
/-- == -/
def spRQ (K : PySem.W.Frag) (A : Ad) : Sp := fun vs H Q _ => ∃ (x : Addr) (y : V) (two : Bool) (rs : List BF.Row) (N : Addr → Prop), vs = [.ref x, y] ∧ RowsO A.C_Rows N H x two rs ∧
  ((∃ (z : Addr) (tw : Bool) (us : List BF.Row) (M : Addr → Prop), y = .ref z ∧ RowsO A.C_Rows M H z tw us ∧ (us.map (·.1)).Nodup ∧ ∀ b : Bool, (rs.length ≠ us.length → b = false) → (rs = us → b = decide (two = tw)) → Q (.bl b) H) ∨
   (∃ t, TyX K H y t ∧ PySem.W.kitOne K t (.ref A.C_Rows) = some false ∧ Q (.bl false) H))
theorem ov_eq (a b : Bool) : decide (V.str (ovS a) = V.str (ovS b)) = decide (a = b) := by
  cases a <;> cases b <;> decide +kernel
theorem ok_Rows_eq (T : Txt K mg A) : FnOk P w K mg base C8.CX0 2 A.f_Rows__eq A.fd_Rows__eq ["self", "other"] (spRQ K A) := by
  refine C8.fn0 T.u_Rows__eq sc_Rows__eq (fun vs H Q E h => ?_) (fun cdv B outer s H vs Q E hr h => ?_)
  · obtain ⟨x, y, two, rs, N, rfl, _⟩ := h
    rfl
  · obtain ⟨x, y, two, rs, N, rfl, ⟨_, dx, d, h1, hD⟩, h⟩ := h
    refine ⟨_, (pss_one (ps_ret (pe_and (pe_callB (isiK K) (by rfl) T.z_isinstance (by decide +kernel) (pa_cons (pv 1) (pa_cons (pe_gc (v := .ref A.C_Rows) rfl ⟨_, T.gC_Rows, rfl⟩) pa_nil))) (pe_and (pe_cmpR (eqDDK K hr) (pe_fldK K (pv 0) rfl) (pe_fldK K (pv 1) rfl) (nomark _)) (pe_one (pe_cmpR op_eq (pe_fldK K (pv 0) rfl) (pe_fldK K (pv 1) rfl) (nomark _))))))), ?_⟩
    (repeat (first | refine ⟨_, rfl, ?_⟩ | refine ⟨rfl, ?_⟩ | refine ⟨_, _, rfl, rfl, ?_⟩ | refine iteT ?_ | refine iteF ?_ | refine ⟨(by show (0 : Int) < _; omega), ?_⟩ | refine ⟨(⟨by omega, by omega⟩ : CDiv _ _), ?_⟩ | refine ⟨(⟨by decide, by decide, by decide⟩ : CPow _ _), ?_⟩ | refine ⟨(.inl ⟨by omega, by omega⟩ : CMul _ _), ?_⟩ | refine ⟨(.inr ⟨by omega, by omega⟩ : CMul _ _), ?_⟩ | refine Or.inl ⟨_, rfl, ?_⟩ | refine Or.inr ⟨_, rfl, ?_⟩ | refine ⟨_, _, _, _, true, rfl, .ty _, .base (.str _), kit_ty (by decide +kernel), ?_⟩ | refine ⟨_, _, rfl, ⟨by rw [sizeLine_eq]; omega, rfl⟩, ?_⟩ | refine ⟨_, _, rfl, .inl ⟨_, SqL.of (by assumption), rfl⟩, ?_⟩ | refine ⟨_, _, rfl, .inr ⟨_, SqT.of (by assumption), rfl⟩, ?_⟩))
    rcases h with ⟨z, tw, us, M, rfl, ⟨_, dz, dd, z1, hZ⟩, ndu, k⟩ | ⟨t, ty, kt, k⟩
    · refine ⟨_, _, _, _, true, rfl, .own _, .base (.ins z1 T.cl_Rows T.wc_Rows T.wg_Rows T.wt_Rows T.wm_Rows), T.wk_Rows, ?_⟩
      (repeat (first | refine ⟨_, rfl, ?_⟩ | refine ⟨rfl, ?_⟩ | refine ⟨_, _, rfl, rfl, ?_⟩ | refine iteT ?_ | refine iteF ?_ | refine ⟨(by show (0 : Int) < _; omega), ?_⟩ | refine ⟨(⟨by omega, by omega⟩ : CDiv _ _), ?_⟩ | refine ⟨(⟨by decide, by decide, by decide⟩ : CPow _ _), ?_⟩ | refine ⟨(.inl ⟨by omega, by omega⟩ : CMul _ _), ?_⟩ | refine ⟨(.inr ⟨by omega, by omega⟩ : CMul _ _), ?_⟩ | refine Or.inl ⟨_, rfl, ?_⟩ | refine Or.inr ⟨_, rfl, ?_⟩ | refine ⟨_, _, _, _, true, rfl, .ty _, .base (.str _), kit_ty (by decide +kernel), ?_⟩ | refine ⟨_, _, rfl, ⟨by rw [sizeLine_eq]; omega, rfl⟩, ?_⟩ | refine ⟨_, _, rfl, .inl ⟨_, SqL.of (by assumption), rfl⟩, ?_⟩ | refine ⟨_, _, rfl, .inr ⟨_, SqT.of (by assumption), rfl⟩, ?_⟩))
      refine ⟨x, A.C_Rows, dx, _, _, rfl, h1, T.cl_Rows, T.na_Rows__rows, rwf_rows _ _, ?_⟩
      (repeat (first | refine ⟨_, rfl, ?_⟩ | refine ⟨rfl, ?_⟩ | refine ⟨_, _, rfl, rfl, ?_⟩ | refine iteT ?_ | refine iteF ?_ | refine ⟨(by show (0 : Int) < _; omega), ?_⟩ | refine ⟨(⟨by omega, by omega⟩ : CDiv _ _), ?_⟩ | refine ⟨(⟨by decide, by decide, by decide⟩ : CPow _ _), ?_⟩ | refine ⟨(.inl ⟨by omega, by omega⟩ : CMul _ _), ?_⟩ | refine ⟨(.inr ⟨by omega, by omega⟩ : CMul _ _), ?_⟩ | refine Or.inl ⟨_, rfl, ?_⟩ | refine Or.inr ⟨_, rfl, ?_⟩ | refine ⟨_, _, _, _, true, rfl, .ty _, .base (.str _), kit_ty (by decide +kernel), ?_⟩ | refine ⟨_, _, rfl, ⟨by rw [sizeLine_eq]; omega, rfl⟩, ?_⟩ | refine ⟨_, _, rfl, .inl ⟨_, SqL.of (by assumption), rfl⟩, ?_⟩ | refine ⟨_, _, rfl, .inr ⟨_, SqT.of (by assumption), rfl⟩, ?_⟩))
      refine ⟨z, A.C_Rows, dz, _, _, rfl, z1, T.cl_Rows, T.na_Rows__rows, rwf_rows _ _, ?_⟩
      refine ⟨_, _, dkr_of hD, dkr_of hZ, ?_⟩
      cases e : eqKD (rs.map rowD) (us.map rowD) with
      | false =>
        (repeat (first | refine ⟨_, rfl, ?_⟩ | refine ⟨rfl, ?_⟩ | refine ⟨_, _, rfl, rfl, ?_⟩ | refine iteT ?_ | refine iteF ?_ | refine ⟨(by show (0 : Int) < _; omega), ?_⟩ | refine ⟨(⟨by omega, by omega⟩ : CDiv _ _), ?_⟩ | refine ⟨(⟨by decide, by decide, by decide⟩ : CPow _ _), ?_⟩ | refine ⟨(.inl ⟨by omega, by omega⟩ : CMul _ _), ?_⟩ | refine ⟨(.inr ⟨by omega, by omega⟩ : CMul _ _), ?_⟩ | refine Or.inl ⟨_, rfl, ?_⟩ | refine Or.inr ⟨_, rfl, ?_⟩ | refine ⟨_, _, _, _, true, rfl, .ty _, .base (.str _), kit_ty (by decide +kernel), ?_⟩ | refine ⟨_, _, rfl, ⟨by rw [sizeLine_eq]; omega, rfl⟩, ?_⟩ | refine ⟨_, _, rfl, .inl ⟨_, SqL.of (by assumption), rfl⟩, ?_⟩ | refine ⟨_, _, rfl, .inr ⟨_, SqT.of (by assumption), rfl⟩, ?_⟩))
        refine k false (fun _ => rfl) (fun h => ?_)
        subst h
        rw [eqR_mem rfl ndu fun r hr => hr] at e
        cases e
      | true =>
        (repeat (first | refine ⟨_, rfl, ?_⟩ | refine ⟨rfl, ?_⟩ | refine ⟨_, _, rfl, rfl, ?_⟩ | refine iteT ?_ | refine iteF ?_ | refine ⟨(by show (0 : Int) < _; omega), ?_⟩ | refine ⟨(⟨by omega, by omega⟩ : CDiv _ _), ?_⟩ | refine ⟨(⟨by decide, by decide, by decide⟩ : CPow _ _), ?_⟩ | refine ⟨(.inl ⟨by omega, by omega⟩ : CMul _ _), ?_⟩ | refine ⟨(.inr ⟨by omega, by omega⟩ : CMul _ _), ?_⟩ | refine Or.inl ⟨_, rfl, ?_⟩ | refine Or.inr ⟨_, rfl, ?_⟩ | refine ⟨_, _, _, _, true, rfl, .ty _, .base (.str _), kit_ty (by decide +kernel), ?_⟩ | refine ⟨_, _, rfl, ⟨by rw [sizeLine_eq]; omega, rfl⟩, ?_⟩ | refine ⟨_, _, rfl, .inl ⟨_, SqL.of (by assumption), rfl⟩, ?_⟩ | refine ⟨_, _, rfl, .inr ⟨_, SqT.of (by assumption), rfl⟩, ?_⟩))
        refine ⟨x, A.C_Rows, dx, _, _, rfl, h1, T.cl_Rows, T.na_Rows__over, rwf_over _ _, ?_⟩
        (repeat (first | refine ⟨_, rfl, ?_⟩ | refine ⟨rfl, ?_⟩ | refine ⟨_, _, rfl, rfl, ?_⟩ | refine iteT ?_ | refine iteF ?_ | refine ⟨(by show (0 : Int) < _; omega), ?_⟩ | refine ⟨(⟨by omega, by omega⟩ : CDiv _ _), ?_⟩ | refine ⟨(⟨by decide, by decide, by decide⟩ : CPow _ _), ?_⟩ | refine ⟨(.inl ⟨by omega, by omega⟩ : CMul _ _), ?_⟩ | refine ⟨(.inr ⟨by omega, by omega⟩ : CMul _ _), ?_⟩ | refine Or.inl ⟨_, rfl, ?_⟩ | refine Or.inr ⟨_, rfl, ?_⟩ | refine ⟨_, _, _, _, true, rfl, .ty _, .base (.str _), kit_ty (by decide +kernel), ?_⟩ | refine ⟨_, _, rfl, ⟨by rw [sizeLine_eq]; omega, rfl⟩, ?_⟩ | refine ⟨_, _, rfl, .inl ⟨_, SqL.of (by assumption), rfl⟩, ?_⟩ | refine ⟨_, _, rfl, .inr ⟨_, SqT.of (by assumption), rfl⟩, ?_⟩))
        refine ⟨z, A.C_Rows, dz, _, _, rfl, z1, T.cl_Rows, T.na_Rows__over, rwf_over _ _, ?_⟩
        refine ⟨rfl, ?_⟩
        rw [ov_eq]
        refine k _ (fun h => ?_) (fun _ => rfl)
        rw [eqR_len h] at e
        cases e
    · refine ⟨_, _, _, _, false, rfl, .own _, ty, kt, ?_⟩
      (repeat (first | refine ⟨_, rfl, ?_⟩ | refine ⟨rfl, ?_⟩ | refine ⟨_, _, rfl, rfl, ?_⟩ | refine iteT ?_ | refine iteF ?_ | refine ⟨(by show (0 : Int) < _; omega), ?_⟩ | refine ⟨(⟨by omega, by omega⟩ : CDiv _ _), ?_⟩ | refine ⟨(⟨by decide, by decide, by decide⟩ : CPow _ _), ?_⟩ | refine ⟨(.inl ⟨by omega, by omega⟩ : CMul _ _), ?_⟩ | refine ⟨(.inr ⟨by omega, by omega⟩ : CMul _ _), ?_⟩ | refine Or.inl ⟨_, rfl, ?_⟩ | refine Or.inr ⟨_, rfl, ?_⟩ | refine ⟨_, _, _, _, true, rfl, .ty _, .base (.str _), kit_ty (by decide +kernel), ?_⟩ | refine ⟨_, _, rfl, ⟨by rw [sizeLine_eq]; omega, rfl⟩, ?_⟩ | refine ⟨_, _, rfl, .inl ⟨_, SqL.of (by assumption), rfl⟩, ?_⟩ | refine ⟨_, _, rfl, .inr ⟨_, SqT.of (by assumption), rfl⟩, ?_⟩))
      exact k
theorem op_eq_Rows {X : Cx} (T : Txt X.K X.mg A) {j : Nat} (hr : Room (j + 2) X.A) : OpR X (compareOp .Eq) (rEqO A.C_Rows (spRQ X.K A) id) := op_eqO (ok_Rows_eq T) T.b_Rows__eq C8.pass0 T.nc_Rows (hr.mono (by omega))
theorem op_ne_Rows {X : Cx} (T : Txt X.K X.mg A) {j : Nat} (hr : Room (j + 3) X.A) : OpR X (compareOp .NotEq) (rEqO A.C_Rows (spRQ X.K A) not) := op_neO (ok_Rows_eq T) T.b_Rows__eq C8.pass0 T.nc_Rows (hr.mono (by omega))
theorem op_eqX_Rows {X : Cx} (T : Txt X.K X.mg A) {j : Nat} (hr : Room (j + 2) X.A) : OpR X (compareOp .Eq) (rEqX X.K A.C_Rows (spRQ X.K A)) := op_eqX X.K (ok_Rows_eq T) T.b_Rows__eq T.nc_Rows (hr.mono (by omega))
end
end BF43
set_option Elab.async false
set_option linter.all false
set_option maxRecDepth 100000
set_option maxHeartbeats 4000000
namespace BF43
open BF
open PySem PySem.Spec PyProof.Rows L2
open C8 (Cal CalAt Met Mak cal0 met0 mak0 fn0 pe_c pe_mk pe_mt pe_mt0 pe_gc fnScope fnBody fnArgs fnScope_by)
open SX
section
variable {P : Program} {w : World} {K : PySem.W.Frag} {mg : Str → Option Value} {base : Heap} {A : Ad}
def spRowsS : Sp := fun vs H Q _ => ∃ (w c a : Addr) (m : Int) (two : Bool) (xs : List Str), vs = [.ref w, .ref a, .int m, .str (ovS two)] ∧ StAt H w c ∧ H a = some (.lst (xs.map V.str)) ∧ xs.Nodup ∧ xs.length ≤ 24 ∧ 0 ≤ m ∧ m ≤ 24 ∧
  ∀ p rs H', KpS w c H H' → RowsD (fun a => H a = none) H' p rs → rs.map (·.1) = xs → (∀ r ∈ rs, (r.2.length : Int) = m) → TwoOk two rs → Q (.ref p) H'
theorem cal_law_rows (T : Txt K mg A) : Cal P w K mg base 2 "_law_rows" spRowsS [] := by
  refine cal0 T.d_law_rows T.b_law_rows .nil sc_law_rows (fun vs H Q E h => ?_) (fun cdv B outer s H vs Q E hr h => ?_)
  · obtain ⟨x, c, a, m, two, xs, rfl, _⟩ := h
    rfl
  · obtain ⟨wl, c, a, m, two, xs, rfl, hS, ha, hnd, hl, hm0, hm, k⟩ := h
    refine ⟨_, (pss_cons (ps_set (i := 4) sc_law_rows.nd rfl (by first | exact Or.inl rfl | exact Or.inr rfl) pe_dnewK)
 (pss_cons (ps_for PassesOwn.never rfl (pi_list (pv 1)) (pg_name (i := 5) sc_law_rows.nd rfl (by first | exact Or.inl rfl | exact Or.inr rfl)) (pss_one (ps_if (pt_cmpR op_eq (pv 3) pe_str (nomark _)) (pss_one (ps_dput (hu_of hr) (pv 4) (pv 5) (pe_lc (own := [("k", 6)]) (g := gName 6) rfl sc_law_rows.nd (pi_range1 (by rfl) T.z_range (pa_cons (pv 2) pa_nil)) (blkOk_by (own := [("k", 6)]) (N := N_law_rows) (sc := fnScope s_law_rows) (by decide +kernel)) (fun _ _ _ _ _ => (pg_name (i := 6) sc_law_rows.nd rfl (by first | exact Or.inl rfl | exact Or.inr rfl))) (fun _ _ _ _ _ => pts_nil) (fun _ _ _ _ _ => (pe_c (cal_law_draw T) hr (by decide) rfl (pa_cons (pv 0) (pa_cons pe_int pa_nil))))) rfl)) (pss_one (ps_dput (hu_of hr) (pv 4) (pv 5) (pe_lc (own := [("k", 6)]) (g := gName 6) rfl sc_law_rows.nd (pi_range1 (by rfl) T.z_range (pa_cons (pv 2) pa_nil)) (blkOk_by (own := [("k", 6)]) (N := N_law_rows) (sc := fnScope s_law_rows) (by decide +kernel)) (fun _ _ _ _ _ => (pg_name (i := 6) sc_law_rows.nd rfl (by first | exact Or.inl rfl | exact Or.inr rfl))) (fun _ _ _ _ _ => pts_nil) (fun _ _ _ _ _ => (pe_op op_mul (pe_op op_sub (pe_c (cal_law_draw T) hr (by decide) rfl (pa_cons (pv 0) (pa_cons pe_int pa_nil))) pe_int) (pe_ix (ixLK K) (pe_lst (pa_cons pe_int (pa_cons pe_int (pa_cons pe_int (pa_cons (pe_op op_pow pe_int pe_int) pa_nil))))) (pe_c (cal_law_draw T) hr (by decide) rfl (pa_cons (pv 0) (pa_cons pe_int pa_nil))) (fun _ _ => rfl))))) rfl)))))
 (pss_one (ps_ret (pv 4))))), ?_⟩
    refine fun p np => ?_
    have k0 : KpS wl c H (upd H p (.dK [])) := (KpS.refl wl c H).put hS np
    (repeat (first | refine ⟨_, rfl, ?_⟩ | refine ⟨rfl, ?_⟩ | refine ⟨_, _, rfl, rfl, ?_⟩ | refine iteT ?_ | refine iteF ?_ | refine ⟨(by show (0 : Int) < _; omega), ?_⟩ | refine ⟨(⟨by omega, by omega⟩ : CDiv _ _), ?_⟩ | refine ⟨(⟨by decide, by decide, by decide⟩ : CPow _ _), ?_⟩ | refine ⟨(.inl ⟨by omega, by omega⟩ : CMul _ _), ?_⟩ | refine ⟨(.inr ⟨by omega, by omega⟩ : CMul _ _), ?_⟩ | refine Or.inl ⟨_, rfl, ?_⟩ | refine Or.inr ⟨_, rfl, ?_⟩ | refine ⟨_, _, _, _, true, rfl, .ty _, .base (.str _), kit_ty (by decide +kernel), ?_⟩ | refine ⟨_, _, rfl, ⟨by rw [sizeLine_eq]; omega, rfl⟩, ?_⟩ | refine ⟨_, _, rfl, .inl ⟨_, SqL.of (by assumption), rfl⟩, ?_⟩ | refine ⟨_, _, rfl, .inr ⟨_, SqT.of (by assumption), rfl⟩, ?_⟩))
    refine ⟨⟨_, SqL.of (k0.get hS ha (isSt_strs xs))⟩, for_it walk_list (fun i σ H' => ∃ (v5 v6 : Option V) (rs : List BF.Row), σ = [some (.ref wl), some (.ref a), some (.int m), some (.str (ovS two)), some (.ref p), v5, v6] ∧ KpS wl c H H' ∧ RowsD (fun a => H a = none) H' p rs ∧ rs.map (·.1) = xs.take i ∧ (∀ r ∈ rs, (r.2.length : Int) = m) ∧ TwoOk two rs)
      ⟨_, _, [], rfl, k0, ⟨np, [], upd_same, .nil⟩, rfl, (fun r hr => by cases hr), fun _ r hr => by cases hr⟩ (fun i σ H' _ ⟨_, _, _, _, q, _⟩ => SqL.of (q.get hS ha (isSt_strs xs))) ?_ ?_⟩
    · rintro i v σ H1 H2 hi ⟨v5, v6, rs, rfl, kp, hR, hk, hw, h2⟩ ⟨rfl, hv⟩
      rw [List.length_map] at hi
      have hx : xs[i]? = some xs[i] := List.getElem?_eq_getElem hi
      have ev : v = V.str xs[i] := by
        rw [List.getElem?_map, hx] at hv
        exact (Option.some.inj hv).symm
      subst ev
      have hrl : rs.length ≤ 24 := by
        have e := congrArg List.length hk
        rw [List.length_map, List.length_take] at e
        omega
      have hin : xs[i] ∉ xs.take i := fun h => by
        obtain ⟨j, hj, e⟩ := List.mem_iff_getElem.mp h
        rw [List.length_take] at hj
        rw [List.getElem_take] at e
        have := (List.getElem_inj hnd).mp e
        omega
      (repeat (first | refine ⟨_, rfl, ?_⟩ | refine ⟨rfl, ?_⟩ | refine ⟨_, _, rfl, rfl, ?_⟩ | refine iteT ?_ | refine iteF ?_ | refine ⟨(by show (0 : Int) < _; omega), ?_⟩ | refine ⟨(⟨by omega, by omega⟩ : CDiv _ _), ?_⟩ | refine ⟨(⟨by decide, by decide, by decide⟩ : CPow _ _), ?_⟩ | refine ⟨(.inl ⟨by omega, by omega⟩ : CMul _ _), ?_⟩ | refine ⟨(.inr ⟨by omega, by omega⟩ : CMul _ _), ?_⟩ | refine Or.inl ⟨_, rfl, ?_⟩ | refine Or.inr ⟨_, rfl, ?_⟩ | refine ⟨_, _, _, _, true, rfl, .ty _, .base (.str _), kit_ty (by decide +kernel), ?_⟩ | refine ⟨_, _, rfl, ⟨by rw [sizeLine_eq]; omega, rfl⟩, ?_⟩ | refine ⟨_, _, rfl, .inl ⟨_, SqL.of (by assumption), rfl⟩, ?_⟩ | refine ⟨_, _, rfl, .inr ⟨_, SqT.of (by assumption), rfl⟩, ?_⟩))
      cases two with
      | true =>
        (repeat (first | refine ⟨_, rfl, ?_⟩ | refine ⟨rfl, ?_⟩ | refine ⟨_, _, rfl, rfl, ?_⟩ | refine iteT ?_ | refine iteF ?_ | refine ⟨(by show (0 : Int) < _; omega), ?_⟩ | refine ⟨(⟨by omega, by omega⟩ : CDiv _ _), ?_⟩ | refine ⟨(⟨by decide, by decide, by decide⟩ : CPow _ _), ?_⟩ | refine ⟨(.inl ⟨by omega, by omega⟩ : CMul _ _), ?_⟩ | refine ⟨(.inr ⟨by omega, by omega⟩ : CMul _ _), ?_⟩ | refine Or.inl ⟨_, rfl, ?_⟩ | refine Or.inr ⟨_, rfl, ?_⟩ | refine ⟨_, _, _, _, true, rfl, .ty _, .base (.str _), kit_ty (by decide +kernel), ?_⟩ | refine ⟨_, _, rfl, ⟨by rw [sizeLine_eq]; omega, rfl⟩, ?_⟩ | refine ⟨_, _, rfl, .inl ⟨_, SqL.of (by assumption), rfl⟩, ?_⟩ | refine ⟨_, _, rfl, .inr ⟨_, SqT.of (by assumption), rfl⟩, ?_⟩))
        refine ⟨by omega, by omega, fun D nD => ?_⟩
        have nD0 : H D = none := kp.free hS nD
        have hR1 := hR.live
        refine lc_it walk_range (fun j H' => ∃ ns : List Int, KpS wl c H H' ∧ RowsD (fun a => H a = none ∧ H2 a ≠ none) H' p rs ∧ H' D = some (.lst (ns.map V.int)) ∧ ns.length = j ∧ ∀ n ∈ ns, n = 0 ∨ n = 1)
          ⟨[], kp.put hS nD0, hR1.mv fun a o na e => by rw [upd_ne (fun z => na.2 (by rw [z]; exact nD))]; exact e, upd_same, rfl, fun n hn => by cases hn⟩ (fun _ _ _ _ => True.intro) ?_ ?_
        · rintro j v H5 H6 hj ⟨ns, kq, hQ, hD, hnl, hns⟩ ⟨rfl, rfl⟩
          refine ⟨rfl, ?_⟩
          (repeat (first | refine ⟨_, rfl, ?_⟩ | refine ⟨rfl, ?_⟩ | refine ⟨_, _, rfl, rfl, ?_⟩ | refine iteT ?_ | refine iteF ?_ | refine ⟨(by show (0 : Int) < _; omega), ?_⟩ | refine ⟨(⟨by omega, by omega⟩ : CDiv _ _), ?_⟩ | refine ⟨(⟨by decide, by decide, by decide⟩ : CPow _ _), ?_⟩ | refine ⟨(.inl ⟨by omega, by omega⟩ : CMul _ _), ?_⟩ | refine ⟨(.inr ⟨by omega, by omega⟩ : CMul _ _), ?_⟩ | refine Or.inl ⟨_, rfl, ?_⟩ | refine Or.inr ⟨_, rfl, ?_⟩ | refine ⟨_, _, _, _, true, rfl, .ty _, .base (.str _), kit_ty (by decide +kernel), ?_⟩ | refine ⟨_, _, rfl, ⟨by rw [sizeLine_eq]; omega, rfl⟩, ?_⟩ | refine ⟨_, _, rfl, .inl ⟨_, SqL.of (by assumption), rfl⟩, ?_⟩ | refine ⟨_, _, rfl, .inr ⟨_, SqT.of (by assumption), rfl⟩, ?_⟩))
          refine ⟨wl, c, 2, rfl, kq.st hS, by omega, by omega, fun n H7 a1 b1 k7 => ?_⟩
          have hD7 := k7.keep _ _ (hS.ne nD0) hD
          refine ⟨_, hD7, small1000 (by rw [List.length_map]; omega), ns ++ [n], (kq.trans k7).put hS nD0, (hQ.mv fun a o na e => k7.keep _ _ (hS.ne na.1) e).mv fun a o na e => by rw [upd_ne (fun z => na.2 (by rw [z]; exact nD))]; exact e, by rw [upd_same, List.map_append]; rfl, by simp [hnl], fun q hq => ?_⟩
          rcases List.mem_append.mp hq with hq | hq
          · exact hns q hq
          · rw [List.mem_singleton.mp hq]
            omega
        · rintro H5 ⟨ns, kq, hQ, hD, hnl, hns'⟩
          obtain ⟨_, kvs, hpd, hpp⟩ := hQ.wk (M := fun a => H a = none) fun a na => na.1
          have hns : true = true → ∀ n ∈ ns, n = 0 ∨ n = 1 := fun _ => hns'
          (repeat (first | refine ⟨_, rfl, ?_⟩ | refine ⟨rfl, ?_⟩ | refine ⟨_, _, rfl, rfl, ?_⟩ | refine iteT ?_ | refine iteF ?_ | refine ⟨(by show (0 : Int) < _; omega), ?_⟩ | refine ⟨(⟨by omega, by omega⟩ : CDiv _ _), ?_⟩ | refine ⟨(⟨by decide, by decide, by decide⟩ : CPow _ _), ?_⟩ | refine ⟨(.inl ⟨by omega, by omega⟩ : CMul _ _), ?_⟩ | refine ⟨(.inr ⟨by omega, by omega⟩ : CMul _ _), ?_⟩ | refine Or.inl ⟨_, rfl, ?_⟩ | refine Or.inr ⟨_, rfl, ?_⟩ | refine ⟨_, _, _, _, true, rfl, .ty _, .base (.str _), kit_ty (by decide +kernel), ?_⟩ | refine ⟨_, _, rfl, ⟨by rw [sizeLine_eq]; omega, rfl⟩, ?_⟩ | refine ⟨_, _, rfl, .inl ⟨_, SqL.of (by assumption), rfl⟩, ?_⟩ | refine ⟨_, _, rfl, .inr ⟨_, SqT.of (by assumption), rfl⟩, ?_⟩))
          refine ⟨p, _, rfl, DPut.k (k := .inr xs[i]) hpd (small1000 (by rw [hpp.length]; omega)), ?_⟩
          refine ⟨_, _, rs ++ [(xs[i], ns)], rfl, kq.put hS np, RowsD.snoc np hpp hpd (by rw [hk]; exact hin) nD0 hD, by rw [List.map_append, hk, List.take_succ, hx]; rfl, fun r hr => ?_, fun t r hr n hn => ?_⟩
          · rcases List.mem_append.mp hr with hr | hr
            · exact hw r hr
            · rw [List.mem_singleton.mp hr]
              show (ns.length : Int) = m
              omega
          · rcases List.mem_append.mp hr with hr | hr
            · exact h2 t r hr n hn
            · rw [List.mem_singleton.mp hr] at hn
              exact hns t n hn
      | false =>
        (repeat (first | refine ⟨_, rfl, ?_⟩ | refine ⟨rfl, ?_⟩ | refine ⟨_, _, rfl, rfl, ?_⟩ | refine iteT ?_ | refine iteF ?_ | refine ⟨(by show (0 : Int) < _; omega), ?_⟩ | refine ⟨(⟨by omega, by omega⟩ : CDiv _ _), ?_⟩ | refine ⟨(⟨by decide, by decide, by decide⟩ : CPow _ _), ?_⟩ | refine ⟨(.inl ⟨by omega, by omega⟩ : CMul _ _), ?_⟩ | refine ⟨(.inr ⟨by omega, by omega⟩ : CMul _ _), ?_⟩ | refine Or.inl ⟨_, rfl, ?_⟩ | refine Or.inr ⟨_, rfl, ?_⟩ | refine ⟨_, _, _, _, true, rfl, .ty _, .base (.str _), kit_ty (by decide +kernel), ?_⟩ | refine ⟨_, _, rfl, ⟨by rw [sizeLine_eq]; omega, rfl⟩, ?_⟩ | refine ⟨_, _, rfl, .inl ⟨_, SqL.of (by assumption), rfl⟩, ?_⟩ | refine ⟨_, _, rfl, .inr ⟨_, SqT.of (by assumption), rfl⟩, ?_⟩))
        refine ⟨by omega, by omega, fun D nD => ?_⟩
        have nD0 : H D = none := kp.free hS nD
        have hR1 := hR.live
        refine lc_it walk_range (fun j H' => ∃ ns : List Int, KpS wl c H H' ∧ RowsD (fun a => H a = none ∧ H2 a ≠ none) H' p rs ∧ H' D = some (.lst (ns.map V.int)) ∧ ns.length = j)
          ⟨[], kp.put hS nD0, hR1.mv fun a o na e => by rw [upd_ne (fun z => na.2 (by rw [z]; exact nD))]; exact e, upd_same, rfl⟩ (fun _ _ _ _ => True.intro) ?_ ?_
        · rintro j v H5 H6 hj ⟨ns, kq, hQ, hD, hnl⟩ ⟨rfl, rfl⟩
          refine ⟨rfl, ?_⟩
          (repeat (first | refine ⟨_, rfl, ?_⟩ | refine ⟨rfl, ?_⟩ | refine ⟨_, _, rfl, rfl, ?_⟩ | refine iteT ?_ | refine iteF ?_ | refine ⟨(by show (0 : Int) < _; omega), ?_⟩ | refine ⟨(⟨by omega, by omega⟩ : CDiv _ _), ?_⟩ | refine ⟨(⟨by decide, by decide, by decide⟩ : CPow _ _), ?_⟩ | refine ⟨(.inl ⟨by omega, by omega⟩ : CMul _ _), ?_⟩ | refine ⟨(.inr ⟨by omega, by omega⟩ : CMul _ _), ?_⟩ | refine Or.inl ⟨_, rfl, ?_⟩ | refine Or.inr ⟨_, rfl, ?_⟩ | refine ⟨_, _, _, _, true, rfl, .ty _, .base (.str _), kit_ty (by decide +kernel), ?_⟩ | refine ⟨_, _, rfl, ⟨by rw [sizeLine_eq]; omega, rfl⟩, ?_⟩ | refine ⟨_, _, rfl, .inl ⟨_, SqL.of (by assumption), rfl⟩, ?_⟩ | refine ⟨_, _, rfl, .inr ⟨_, SqT.of (by assumption), rfl⟩, ?_⟩))
          refine ⟨wl, c, 7, rfl, kq.st hS, by omega, by omega, fun n1 H7 a1 b1 k7 => ?_⟩
          (repeat (first | refine ⟨_, rfl, ?_⟩ | refine ⟨rfl, ?_⟩ | refine ⟨_, _, rfl, rfl, ?_⟩ | refine iteT ?_ | refine iteF ?_ | refine ⟨(by show (0 : Int) < _; omega), ?_⟩ | refine ⟨(⟨by omega, by omega⟩ : CDiv _ _), ?_⟩ | refine ⟨(⟨by decide, by decide, by decide⟩ : CPow _ _), ?_⟩ | refine ⟨(.inl ⟨by omega, by omega⟩ : CMul _ _), ?_⟩ | refine ⟨(.inr ⟨by omega, by omega⟩ : CMul _ _), ?_⟩ | refine Or.inl ⟨_, rfl, ?_⟩ | refine Or.inr ⟨_, rfl, ?_⟩ | refine ⟨_, _, _, _, true, rfl, .ty _, .base (.str _), kit_ty (by decide +kernel), ?_⟩ | refine ⟨_, _, rfl, ⟨by rw [sizeLine_eq]; omega, rfl⟩, ?_⟩ | refine ⟨_, _, rfl, .inl ⟨_, SqL.of (by assumption), rfl⟩, ?_⟩ | refine ⟨_, _, rfl, .inr ⟨_, SqT.of (by assumption), rfl⟩, ?_⟩))
          refine ⟨(by show 4 ≤ sizeLine; rw [sizeLine_eq]; omega), fun z nz => ?_⟩
          have kq7 := kq.trans k7
          have nz0 : H z = none := kq7.free hS nz
          have kz := kq7.put (o := .lst [V.int 1, V.int 1, V.int 1, V.int (10 ^ Int.toNat 20)]) hS nz0
          refine ⟨_, rfl, wl, c, 4, rfl, kz.st hS, by omega, by omega, fun n2 H8 a2 b2 k8 => ?_⟩
          obtain ⟨f, hf⟩ : ∃ f : Int, atI [V.int 1, V.int 1, V.int 1, V.int (10 ^ Int.toNat 20)] n2 = some (V.int f) := by
            have : n2 = 0 ∨ n2 = 1 ∨ n2 = 2 ∨ n2 = 3 := by omega
            rcases this with rfl | rfl | rfl | rfl
            all_goals exact ⟨_, rfl⟩
          refine ⟨z, _, n2, _, rfl, rfl, SqL.of (k8.keep _ _ (hS.ne nz0) upd_same), hf, ?_⟩
          refine ⟨_, _, rfl, rfl, (.inl ⟨by omega, by omega⟩ : CMul _ _), ?_⟩
          have zD : D ≠ z := fun e => by rw [← e, k7.keep _ _ (hS.ne nD0) hD] at nz; cases nz
          have hD8 : H8 D = some (.lst (ns.map V.int)) := k8.keep _ _ (hS.ne nD0) (by rw [upd_ne zD]; exact k7.keep _ _ (hS.ne nD0) hD)
          have hQ7 := hQ.mv fun a o na e => k7.keep _ _ (hS.ne na.1) e
          have hQ8 := (hQ7.mv fun a o na e => by rw [upd_ne (fun q => by rw [q, nz] at e; cases e)]; exact e).mv fun a o na e => k8.keep _ _ (hS.ne na.1) e
          exact ⟨_, hD8, small1000 (by rw [List.length_map]; omega), ns ++ [(n1 - 3) * f], (kz.trans k8).put hS nD0, hQ8.mv fun a o na e => by rw [upd_ne (fun q => na.2 (by rw [q]; exact nD))]; exact e, by rw [upd_same, List.map_append]; rfl, by simp [hnl]⟩
        · rintro H5 ⟨ns, kq, hQ, hD, hnl⟩
          obtain ⟨_, kvs, hpd, hpp⟩ := hQ.wk (M := fun a => H a = none) fun a na => na.1
          have hns : false = true → ∀ n ∈ ns, n = 0 ∨ n = 1 := fun h => by cases h
          (repeat (first | refine ⟨_, rfl, ?_⟩ | refine ⟨rfl, ?_⟩ | refine ⟨_, _, rfl, rfl, ?_⟩ | refine iteT ?_ | refine iteF ?_ | refine ⟨(by show (0 : Int) < _; omega), ?_⟩ | refine ⟨(⟨by omega, by omega⟩ : CDiv _ _), ?_⟩ | refine ⟨(⟨by decide, by decide, by decide⟩ : CPow _ _), ?_⟩ | refine ⟨(.inl ⟨by omega, by omega⟩ : CMul _ _), ?_⟩ | refine ⟨(.inr ⟨by omega, by omega⟩ : CMul _ _), ?_⟩ | refine Or.inl ⟨_, rfl, ?_⟩ | refine Or.inr ⟨_, rfl, ?_⟩ | refine ⟨_, _, _, _, true, rfl, .ty _, .base (.str _), kit_ty (by decide +kernel), ?_⟩ | refine ⟨_, _, rfl, ⟨by rw [sizeLine_eq]; omega, rfl⟩, ?_⟩ | refine ⟨_, _, rfl, .inl ⟨_, SqL.of (by assumption), rfl⟩, ?_⟩ | refine ⟨_, _, rfl, .inr ⟨_, SqT.of (by assumption), rfl⟩, ?_⟩))
          refine ⟨p, _, rfl, DPut.k (k := .inr xs[i]) hpd (small1000 (by rw [hpp.length]; omega)), ?_⟩
          refine ⟨_, _, rs ++ [(xs[i], ns)], rfl, kq.put hS np, RowsD.snoc np hpp hpd (by rw [hk]; exact hin) nD0 hD, by rw [List.map_append, hk, List.take_succ, hx]; rfl, fun r hr => ?_, fun t r hr n hn => ?_⟩
          · rcases List.mem_append.mp hr with hr | hr
            · exact hw r hr
            · rw [List.mem_singleton.mp hr]
              show (ns.length : Int) = m
              omega
          · rcases List.mem_append.mp hr with hr | hr
            · exact h2 t r hr n hn
            · rw [List.mem_singleton.mp hr] at hn
              exact hns t n hn
    · rintro σ H1 ⟨v5, v6, rs, rfl, kp, hR, hk, hw, h2⟩
      (repeat (first | refine ⟨_, rfl, ?_⟩ | refine ⟨rfl, ?_⟩ | refine ⟨_, _, rfl, rfl, ?_⟩ | refine iteT ?_ | refine iteF ?_ | refine ⟨(by show (0 : Int) < _; omega), ?_⟩ | refine ⟨(⟨by omega, by omega⟩ : CDiv _ _), ?_⟩ | refine ⟨(⟨by decide, by decide, by decide⟩ : CPow _ _), ?_⟩ | refine ⟨(.inl ⟨by omega, by omega⟩ : CMul _ _), ?_⟩ | refine ⟨(.inr ⟨by omega, by omega⟩ : CMul _ _), ?_⟩ | refine Or.inl ⟨_, rfl, ?_⟩ | refine Or.inr ⟨_, rfl, ?_⟩ | refine ⟨_, _, _, _, true, rfl, .ty _, .base (.str _), kit_ty (by decide +kernel), ?_⟩ | refine ⟨_, _, rfl, ⟨by rw [sizeLine_eq]; omega, rfl⟩, ?_⟩ | refine ⟨_, _, rfl, .inl ⟨_, SqL.of (by assumption), rfl⟩, ?_⟩ | refine ⟨_, _, rfl, .inr ⟨_, SqT.of (by assumption), rfl⟩, ?_⟩))
      rw [List.length_map, List.take_of_length_le (Nat.le_refl _)] at hk
      exact k p rs H1 kp hR hk hw h2
end
end BF43
set_option Elab.async false
set_option linter.all false
set_option maxRecDepth 100000
set_option maxHeartbeats 4000000
namespace BF43
open BF
open PySem PySem.Spec PyProof.Rows L2
open C8 (Cal CalAt Met Mak cal0 met0 mak0 fn0 pe_c pe_mk pe_mt pe_mt0 pe_gc fnScope fnBody fnArgs fnScope_by)
open SX
section
variable {P : Program} {w : World} {K : PySem.W.Frag} {mg : Str → Option Value} {base : Heap} {A : Ad}
def spTold (K : PySem.W.Frag) (A : Ad) : Sp := fun vs H Q _ => ∃ (d : Addr) (two : Bool) (es : List (Str × RV)), vs = [.ref d, .str (ovS two)] ∧ RvD K H d es ∧ es.length ≤ 63 ∧ (∀ e ∈ es, e.1.length ≤ 1000) ∧
  (24 < es.length → ∀ p H', H p = none → Same H H' → H' p = some (.tup [.str "many", .int 24]) → Q (.ref p) H') ∧
  (es.length ≤ 24 → ∀ n, badF two es = some n → ∀ p H', H p = none → Same H H' → H' p = some (.tup [.str "rows", .str n, .bl true]) → Q (.ref p) H') ∧
  (es.length ≤ 24 → badF two es = none → ∀ p x H', H p = none → Same H H' → H' p = some (.tup [.str "made", .ref x]) → RowsO A.C_Rows (fun a => H a = none) H' x two (rowsOf es) → Q (.ref p) H')
theorem cal_law_told (T : Txt K mg A) : Cal P w K mg base 6 "_law_told" (spTold K A) [] := by
  refine cal0 T.d_law_told T.b_law_told .nil sc_law_told (fun vs H Q E h => ?_) (fun cdv B outer s H vs Q E hr h => ?_)
  · obtain ⟨d, two, es, rfl, _⟩ := h
    rfl
  · obtain ⟨d, two, es, rfl, hT, hl, hz, kM, kE, kQ⟩ := h
    refine ⟨_, (pss_cons (ps_try_manyA sc_law_told.nd rfl rfl takes0 (fun W pn xe tk _ => (pss_one (ps_set (i := 2) sc_law_told.nd rfl (by first | exact Or.inl rfl | exact Or.inr rfl) (pe_tup (pa_cons pe_str (pa_cons (by exact (pe_mkKS (mak_Rows (K := K) T) hr (by decide) (fun σ => passAt tk σ) (pa_cons (pv 0) pa_nil) (pk_cons (pv 1) pk_nil))) pa_nil))))))
  (HdsA.cons (i := 3) rfl rfl ⟨rfl, by decide, Or.inl T.gC_BadRows⟩ (fun a oe cls d pn hz hf => (pss_one (ps_set (i := 2) sc_law_told.nd rfl (by first | exact Or.inl rfl | exact Or.inr rfl) (pe_tup (pa_cons pe_str (pa_cons (pe_xf T.xf_BadRows T.nx_BadRows_thing hz hf (pv 3)) (pa_cons (pe_callB (call_isD T.is_BadRows hz hf) (by rfl) T.z_isinstance (by decide +kernel) (pa_cons (pv 3) (pa_cons (pe_gc (v := .ref A.C_LotError) rfl ⟨_, T.gC_LotError, rfl⟩) pa_nil))) pa_nil)))))))
  (HdsA.cons (i := 3) rfl rfl ⟨rfl, by decide, Or.inl T.gC_TooMany⟩ (fun a oe cls d pn hz hf => (pss_one (ps_set (i := 2) sc_law_told.nd rfl (by first | exact Or.inl rfl | exact Or.inr rfl) (pe_tup (pa_cons pe_str (pa_cons (pe_xf T.xf_TooMany T.nx_TooMany_limit hz hf (pv 3)) pa_nil))))))
  HdsA.nil)))
 (pss_one (ps_ret (pv 2)))), ?_⟩
    (repeat (first | refine ⟨_, rfl, ?_⟩ | refine ⟨rfl, ?_⟩ | refine ⟨_, _, rfl, rfl, ?_⟩ | refine iteT ?_ | refine iteF ?_ | refine ⟨(by show (0 : Int) < _; omega), ?_⟩ | refine ⟨(⟨by omega, by omega⟩ : CDiv _ _), ?_⟩ | refine ⟨(⟨by decide, by decide, by decide⟩ : CPow _ _), ?_⟩ | refine ⟨(.inl ⟨by omega, by omega⟩ : CMul _ _), ?_⟩ | refine ⟨(.inr ⟨by omega, by omega⟩ : CMul _ _), ?_⟩ | refine Or.inl ⟨_, rfl, ?_⟩ | refine Or.inr ⟨_, rfl, ?_⟩ | refine ⟨_, _, _, _, true, rfl, .ty _, .base (.str _), kit_ty (by decide +kernel), ?_⟩ | refine ⟨_, _, rfl, ⟨by rw [sizeLine_eq]; omega, rfl⟩, ?_⟩ | refine ⟨_, _, rfl, .inl ⟨_, SqL.of (by assumption), rfl⟩, ?_⟩ | refine ⟨_, _, rfl, .inr ⟨_, SqT.of (by assumption), rfl⟩, ?_⟩))
    refine fun x dx nx ndx ne => ?_
    have s1 : Same H (upd (upd H dx (.own x)) x (.ins A.C_Rows dx [])) := fun b o e => by
      rw [upd_ne (ne_of_none e nx), upd_ne (ne_of_none e ndx)]
      exact e
    have sX : ∀ H', FrX x (upd (upd H dx (.own x)) x (.ins A.C_Rows dx [])) H' → Same H H' := fun H' f b o e => f b o (ne_of_none e nx) (s1 _ _ e)
    refine ⟨x, dx, d, two, es, rfl, upd_same, hT.same s1, hl, hz, fun h24 ex H' f hx => ?_, fun h24 n hn ex H' f hx => ?_, fun h24 hn H' f hR => ⟨rfl, ?_⟩⟩
    · have s2 := sX H' f
      refine ⟨false, T.xm_TooMany_BadRows, (fun h => by cases h), fun _ => ⟨true, T.xm_TooMany_TooMany, fun _ e ne => ?_, fun h => by cases h⟩⟩
      (repeat (first | refine ⟨_, rfl, ?_⟩ | refine ⟨rfl, ?_⟩ | refine ⟨_, _, rfl, rfl, ?_⟩ | refine iteT ?_ | refine iteF ?_ | refine ⟨(by show (0 : Int) < _; omega), ?_⟩ | refine ⟨(⟨by omega, by omega⟩ : CDiv _ _), ?_⟩ | refine ⟨(⟨by decide, by decide, by decide⟩ : CPow _ _), ?_⟩ | refine ⟨(.inl ⟨by omega, by omega⟩ : CMul _ _), ?_⟩ | refine ⟨(.inr ⟨by omega, by omega⟩ : CMul _ _), ?_⟩ | refine Or.inl ⟨_, rfl, ?_⟩ | refine Or.inr ⟨_, rfl, ?_⟩ | refine ⟨_, _, _, _, true, rfl, .ty _, .base (.str _), kit_ty (by decide +kernel), ?_⟩ | refine ⟨_, _, rfl, ⟨by rw [sizeLine_eq]; omega, rfl⟩, ?_⟩ | refine ⟨_, _, rfl, .inl ⟨_, SqL.of (by assumption), rfl⟩, ?_⟩ | refine ⟨_, _, rfl, .inr ⟨_, SqT.of (by assumption), rfl⟩, ?_⟩))
      refine ⟨_, _, _, rfl, hx, rfl, ?_⟩
      (repeat (first | refine ⟨_, rfl, ?_⟩ | refine ⟨rfl, ?_⟩ | refine ⟨_, _, rfl, rfl, ?_⟩ | refine iteT ?_ | refine iteF ?_ | refine ⟨(by show (0 : Int) < _; omega), ?_⟩ | refine ⟨(⟨by omega, by omega⟩ : CDiv _ _), ?_⟩ | refine ⟨(⟨by decide, by decide, by decide⟩ : CPow _ _), ?_⟩ | refine ⟨(.inl ⟨by omega, by omega⟩ : CMul _ _), ?_⟩ | refine ⟨(.inr ⟨by omega, by omega⟩ : CMul _ _), ?_⟩ | refine Or.inl ⟨_, rfl, ?_⟩ | refine Or.inr ⟨_, rfl, ?_⟩ | refine ⟨_, _, _, _, true, rfl, .ty _, .base (.str _), kit_ty (by decide +kernel), ?_⟩ | refine ⟨_, _, rfl, ⟨by rw [sizeLine_eq]; omega, rfl⟩, ?_⟩ | refine ⟨_, _, rfl, .inl ⟨_, SqL.of (by assumption), rfl⟩, ?_⟩ | refine ⟨_, _, rfl, .inr ⟨_, SqT.of (by assumption), rfl⟩, ?_⟩))
      refine ⟨(by show 2 ≤ sizeLine; rw [sizeLine_eq]; omega), fun p np => ?_⟩
      (repeat (first | refine ⟨_, rfl, ?_⟩ | refine ⟨rfl, ?_⟩ | refine ⟨_, _, rfl, rfl, ?_⟩ | refine iteT ?_ | refine iteF ?_ | refine ⟨(by show (0 : Int) < _; omega), ?_⟩ | refine ⟨(⟨by omega, by omega⟩ : CDiv _ _), ?_⟩ | refine ⟨(⟨by decide, by decide, by decide⟩ : CPow _ _), ?_⟩ | refine ⟨(.inl ⟨by omega, by omega⟩ : CMul _ _), ?_⟩ | refine ⟨(.inr ⟨by omega, by omega⟩ : CMul _ _), ?_⟩ | refine Or.inl ⟨_, rfl, ?_⟩ | refine Or.inr ⟨_, rfl, ?_⟩ | refine ⟨_, _, _, _, true, rfl, .ty _, .base (.str _), kit_ty (by decide +kernel), ?_⟩ | refine ⟨_, _, rfl, ⟨by rw [sizeLine_eq]; omega, rfl⟩, ?_⟩ | refine ⟨_, _, rfl, .inl ⟨_, SqL.of (by assumption), rfl⟩, ?_⟩ | refine ⟨_, _, rfl, .inr ⟨_, SqT.of (by assumption), rfl⟩, ?_⟩))
      exact kM h24 p _ (s2.free np) (Same.put s2 (s2.free np)) upd_same
    · have s2 := sX H' f
      refine ⟨true, T.xm_BadRows_BadRows, fun _ e ne => ?_, fun h => by cases h⟩
      (repeat (first | refine ⟨_, rfl, ?_⟩ | refine ⟨rfl, ?_⟩ | refine ⟨_, _, rfl, rfl, ?_⟩ | refine iteT ?_ | refine iteF ?_ | refine ⟨(by show (0 : Int) < _; omega), ?_⟩ | refine ⟨(⟨by omega, by omega⟩ : CDiv _ _), ?_⟩ | refine ⟨(⟨by decide, by decide, by decide⟩ : CPow _ _), ?_⟩ | refine ⟨(.inl ⟨by omega, by omega⟩ : CMul _ _), ?_⟩ | refine ⟨(.inr ⟨by omega, by omega⟩ : CMul _ _), ?_⟩ | refine Or.inl ⟨_, rfl, ?_⟩ | refine Or.inr ⟨_, rfl, ?_⟩ | refine ⟨_, _, _, _, true, rfl, .ty _, .base (.str _), kit_ty (by decide +kernel), ?_⟩ | refine ⟨_, _, rfl, ⟨by rw [sizeLine_eq]; omega, rfl⟩, ?_⟩ | refine ⟨_, _, rfl, .inl ⟨_, SqL.of (by assumption), rfl⟩, ?_⟩ | refine ⟨_, _, rfl, .inr ⟨_, SqT.of (by assumption), rfl⟩, ?_⟩))
      refine ⟨_, _, _, rfl, hx, rfl, ?_⟩
      (repeat (first | refine ⟨_, rfl, ?_⟩ | refine ⟨rfl, ?_⟩ | refine ⟨_, _, rfl, rfl, ?_⟩ | refine iteT ?_ | refine iteF ?_ | refine ⟨(by show (0 : Int) < _; omega), ?_⟩ | refine ⟨(⟨by omega, by omega⟩ : CDiv _ _), ?_⟩ | refine ⟨(⟨by decide, by decide, by decide⟩ : CPow _ _), ?_⟩ | refine ⟨(.inl ⟨by omega, by omega⟩ : CMul _ _), ?_⟩ | refine ⟨(.inr ⟨by omega, by omega⟩ : CMul _ _), ?_⟩ | refine Or.inl ⟨_, rfl, ?_⟩ | refine Or.inr ⟨_, rfl, ?_⟩ | refine ⟨_, _, _, _, true, rfl, .ty _, .base (.str _), kit_ty (by decide +kernel), ?_⟩ | refine ⟨_, _, rfl, ⟨by rw [sizeLine_eq]; omega, rfl⟩, ?_⟩ | refine ⟨_, _, rfl, .inl ⟨_, SqL.of (by assumption), rfl⟩, ?_⟩ | refine ⟨_, _, rfl, .inr ⟨_, SqT.of (by assumption), rfl⟩, ?_⟩))
      refine ⟨_, _, true, _, _, rfl, .own _, rfl, rfl, hx, T.ky_BadRows_LotError, ?_⟩
      (repeat (first | refine ⟨_, rfl, ?_⟩ | refine ⟨rfl, ?_⟩ | refine ⟨_, _, rfl, rfl, ?_⟩ | refine iteT ?_ | refine iteF ?_ | refine ⟨(by show (0 : Int) < _; omega), ?_⟩ | refine ⟨(⟨by omega, by omega⟩ : CDiv _ _), ?_⟩ | refine ⟨(⟨by decide, by decide, by decide⟩ : CPow _ _), ?_⟩ | refine ⟨(.inl ⟨by omega, by omega⟩ : CMul _ _), ?_⟩ | refine ⟨(.inr ⟨by omega, by omega⟩ : CMul _ _), ?_⟩ | refine Or.inl ⟨_, rfl, ?_⟩ | refine Or.inr ⟨_, rfl, ?_⟩ | refine ⟨_, _, _, _, true, rfl, .ty _, .base (.str _), kit_ty (by decide +kernel), ?_⟩ | refine ⟨_, _, rfl, ⟨by rw [sizeLine_eq]; omega, rfl⟩, ?_⟩ | refine ⟨_, _, rfl, .inl ⟨_, SqL.of (by assumption), rfl⟩, ?_⟩ | refine ⟨_, _, rfl, .inr ⟨_, SqT.of (by assumption), rfl⟩, ?_⟩))
      refine ⟨(by show 3 ≤ sizeLine; rw [sizeLine_eq]; omega), fun p np => ?_⟩
      (repeat (first | refine ⟨_, rfl, ?_⟩ | refine ⟨rfl, ?_⟩ | refine ⟨_, _, rfl, rfl, ?_⟩ | refine iteT ?_ | refine iteF ?_ | refine ⟨(by show (0 : Int) < _; omega), ?_⟩ | refine ⟨(⟨by omega, by omega⟩ : CDiv _ _), ?_⟩ | refine ⟨(⟨by decide, by decide, by decide⟩ : CPow _ _), ?_⟩ | refine ⟨(.inl ⟨by omega, by omega⟩ : CMul _ _), ?_⟩ | refine ⟨(.inr ⟨by omega, by omega⟩ : CMul _ _), ?_⟩ | refine Or.inl ⟨_, rfl, ?_⟩ | refine Or.inr ⟨_, rfl, ?_⟩ | refine ⟨_, _, _, _, true, rfl, .ty _, .base (.str _), kit_ty (by decide +kernel), ?_⟩ | refine ⟨_, _, rfl, ⟨by rw [sizeLine_eq]; omega, rfl⟩, ?_⟩ | refine ⟨_, _, rfl, .inl ⟨_, SqL.of (by assumption), rfl⟩, ?_⟩ | refine ⟨_, _, rfl, .inr ⟨_, SqT.of (by assumption), rfl⟩, ?_⟩))
      exact kE h24 n hn p _ (s2.free np) (Same.put s2 (s2.free np)) upd_same
    · have s2 := sX H' f
      (repeat (first | refine ⟨_, rfl, ?_⟩ | refine ⟨rfl, ?_⟩ | refine ⟨_, _, rfl, rfl, ?_⟩ | refine iteT ?_ | refine iteF ?_ | refine ⟨(by show (0 : Int) < _; omega), ?_⟩ | refine ⟨(⟨by omega, by omega⟩ : CDiv _ _), ?_⟩ | refine ⟨(⟨by decide, by decide, by decide⟩ : CPow _ _), ?_⟩ | refine ⟨(.inl ⟨by omega, by omega⟩ : CMul _ _), ?_⟩ | refine ⟨(.inr ⟨by omega, by omega⟩ : CMul _ _), ?_⟩ | refine Or.inl ⟨_, rfl, ?_⟩ | refine Or.inr ⟨_, rfl, ?_⟩ | refine ⟨_, _, _, _, true, rfl, .ty _, .base (.str _), kit_ty (by decide +kernel), ?_⟩ | refine ⟨_, _, rfl, ⟨by rw [sizeLine_eq]; omega, rfl⟩, ?_⟩ | refine ⟨_, _, rfl, .inl ⟨_, SqL.of (by assumption), rfl⟩, ?_⟩ | refine ⟨_, _, rfl, .inr ⟨_, SqT.of (by assumption), rfl⟩, ?_⟩))
      refine ⟨(by show 2 ≤ sizeLine; rw [sizeLine_eq]; omega), fun p np => ?_⟩
      (repeat (first | refine ⟨_, rfl, ?_⟩ | refine ⟨rfl, ?_⟩ | refine ⟨_, _, rfl, rfl, ?_⟩ | refine iteT ?_ | refine iteF ?_ | refine ⟨(by show (0 : Int) < _; omega), ?_⟩ | refine ⟨(⟨by omega, by omega⟩ : CDiv _ _), ?_⟩ | refine ⟨(⟨by decide, by decide, by decide⟩ : CPow _ _), ?_⟩ | refine ⟨(.inl ⟨by omega, by omega⟩ : CMul _ _), ?_⟩ | refine ⟨(.inr ⟨by omega, by omega⟩ : CMul _ _), ?_⟩ | refine Or.inl ⟨_, rfl, ?_⟩ | refine Or.inr ⟨_, rfl, ?_⟩ | refine ⟨_, _, _, _, true, rfl, .ty _, .base (.str _), kit_ty (by decide +kernel), ?_⟩ | refine ⟨_, _, rfl, ⟨by rw [sizeLine_eq]; omega, rfl⟩, ?_⟩ | refine ⟨_, _, rfl, .inl ⟨_, SqL.of (by assumption), rfl⟩, ?_⟩ | refine ⟨_, _, rfl, .inr ⟨_, SqT.of (by assumption), rfl⟩, ?_⟩))
      refine kQ h24 hn p x _ (s2.free np) (Same.put s2 (s2.free np)) upd_same ((hR.mv fun a o _ e => Same.new np a o e).wk fun a ha => ?_)
      rcases ha with rfl | ha
      · exact nx
      · by_cases e1 : a = x
        · rw [e1]
          exact nx
        · rw [upd_ne e1] at ha
          by_cases e2 : a = dx
          · rw [e2]
            exact ndx
          · rw [upd_ne e2] at ha
            exact ha
end
end BF43
set_option Elab.async false
set_option linter.all false
set_option maxRecDepth 100000
set_option maxHeartbeats 1000000
namespace BF43
open BF
open PySem PySem.Spec PyProof.Rows L2
open C8 (Cal CalAt Met Mak cal0 met0 mak0 fn0 pe_c pe_mk pe_mt pe_mt0 pe_gc fnScope fnBody fnArgs fnScope_by)
open SX
section
variable {P : Program} {w : World} {K : PySem.W.Frag} {mg : Str → Option Value} {base : Heap} {A : Ad}
def spWrong (K : PySem.W.Frag) : Sp := fun vs H Q _ => ∃ (w c : Addr) (m : Int) (two : Bool), vs = [.ref w, .int m, .str (ovS two)] ∧ StAt H w c ∧ 0 ≤ m ∧ m ≤ 4 ∧ ∀ v H', KpS w c H H' → BadV K H two m.toNat v H' → Q v H'
theorem cal_law_wrong_row (T : Txt K mg A) : Cal P w K mg base 2 "_law_wrong_row" (spWrong K) [] := by
  refine cal0 T.d_law_wrong_row T.b_law_wrong_row .nil sc_law_wrong_row (fun vs H Q E h => ?_) (fun cdv B outer s H vs Q E hr h => ?_)
  · obtain ⟨x, c, m, two, rfl, _⟩ := h
    rfl
  · obtain ⟨wl, c, m, two, rfl, hS, hm0, hm, k⟩ := h
    refine ⟨_, (pss_cons (ps_set (i := 3) sc_law_wrong_row.nd rfl (by first | exact Or.inl rfl | exact Or.inr rfl) (pe_lst (pa_cons pe_non (pa_cons pe_int (pa_cons pe_str (pa_cons (pe_tup (pa_cons pe_int (pa_cons pe_int pa_nil))) (pa_cons pe_dnewK (pa_cons (pe_op op_rep (pe_lst (pa_cons pe_int pa_nil)) (pe_op op_add (pv 1) pe_int)) (pa_cons (pe_op op_rep (pe_lst (pa_cons pe_int pa_nil)) pe_int) (pa_cons (pe_op op_cat (pe_op op_rep (pe_lst (pa_cons pe_str pa_nil)) (pv 1)) (pe_lst (pa_cons pe_str pa_nil))) (pa_cons (pe_op op_rep (pe_lst (pa_cons pe_non pa_nil)) (pe_op op_add (pv 1) pe_int)) (pa_cons (pe_op op_rep (pe_lst (pa_cons pe_bl pa_nil)) (pe_op op_add (pv 1) pe_int)) pa_nil))))))))))))
 (pss_cons (ps_if (pt_cmpR op_gt (pv 1) pe_int (nomark _)) (pss_cons (ps_set (i := 3) sc_law_wrong_row.nd rfl (by first | exact Or.inl rfl | exact Or.inr rfl) (pe_op op_cat (pv 3) (pe_lst (pa_cons (pe_op op_rep (pe_lst (pa_cons pe_int pa_nil)) (pe_op op_sub (pv 1) pe_int)) (pa_cons (pe_op op_cat (pe_lst (pa_cons pe_bl pa_nil)) (pe_op op_rep (pe_lst (pa_cons pe_int pa_nil)) (pe_op op_sub (pv 1) pe_int))) (pa_cons (pe_op op_rep (pe_lst (pa_cons pe_non pa_nil)) (pv 1)) (pa_cons (pe_op op_rep (pe_lst (pa_cons (pe_lst (pa_cons pe_int pa_nil)) pa_nil)) (pv 1)) pa_nil)))))))
 (pss_one (ps_if (pt_cmpR op_eq (pv 2) pe_str (nomark _)) (pss_one (ps_set (i := 3) sc_law_wrong_row.nd rfl (by first | exact Or.inl rfl | exact Or.inr rfl) (pe_op op_cat (pv 3) (pe_lst (pa_cons (pe_op op_rep (pe_lst (pa_cons pe_int pa_nil)) (pv 1)) (pa_cons (pe_op op_cat (pe_lst (pa_cons (pe_un un_neg pe_int) pa_nil)) (pe_op op_rep (pe_lst (pa_cons pe_int pa_nil)) (pe_op op_sub (pv 1) pe_int))) pa_nil)))))) pss_nil))) pss_nil)
 (pss_one (ps_ret (pe_ix (ixLK K) (pv 3) (pe_c (cal_law_draw T) hr (by decide) rfl (pa_cons (pv 0) (pa_cons (pe_callB (lenK K) (by rfl) T.z_len (by decide +kernel) (pa_cons (pv 3) pa_nil)) pa_nil))) (fun _ _ => rfl)))))), ?_⟩
    have mI : ((m.toNat : Nat) : Int) = m := by omega
    have plus : ∀ {σ : L2.St}, σ[1]? = some (some (.int m)) → ∀ H (Q : VK), Q (.int (m + 1)) H → tOp (rI0 fun i j => V.int (i + j)) (tVar 1) (tC (V.int 1)) σ H Q := fun {σ} e H Q q => ⟨_, e, _, _, rfl, rfl, q⟩
    have less : ∀ {σ : L2.St}, σ[1]? = some (some (.int m)) → ∀ H (Q : VK), Q (.int (m - 1)) H → tOp (rI0 fun i j => V.int (i - j)) (tVar 1) (tC (V.int 1)) σ H Q := fun {σ} e H Q q => ⟨_, e, _, _, rfl, rfl, q⟩
    have var : ∀ {σ : L2.St}, σ[1]? = some (some (.int m)) → ∀ H (Q : VK), Q (.int m) H → tVar 1 σ H Q := fun {σ} e H Q q => ⟨_, e, q⟩
    have con : ∀ {σ : L2.St} (n : Int) H (Q : VK), Q (.int n) H → tC (.int n) σ H Q := fun {σ} n H Q q => q
    have long : ∀ {c : V} {o : Option Int} {v : V} {H0 H : Hp} {n : Int}, (∀ H, EV K H c o) → 0 ≤ n → n ≤ 1000 → n ≠ 6 → (n ≠ m ∨ 24 < n ∨ (1 ≤ n ∧ okEnt two o = false)) → LstV H0 (List.replicate n.toNat c) v H → BadV K H0 two m.toNat v H := by
      rintro c o v H0 H n he hn0 hn hn6 hb ⟨p, rfl, np, hp⟩
      refine bad_list np hp (ev_replicate (he H) n.toNat) (by rw [List.length_replicate]; omega) (by rw [List.length_replicate]; omega) ?_
      rw [List.length_replicate]
      rcases hb with h | h | ⟨h, b⟩
      · exact .inl (by omega)
      · exact .inr (.inl (by omega))
      · exact .inr (.inr ⟨o, List.mem_replicate.mpr ⟨by omega, rfl⟩, b⟩)
    have eN : ∀ H, EV K H .non none := fun H => .no (.base .non) (kit_ty (by decide +kernel))
    have eS : ∀ (z : Str) H, EV K H (.str z) none := fun z H => .no (.base (.str z)) (kit_ty (by decide +kernel))
    have ev1 : ∀ {σ : L2.St} {H0 : Hp}, σ[1]? = some (some (.int m)) → EvN (tLst (tCons (tC V.non) (tCons (tC (V.int 5)) (tCons (tC (V.str (Str.ofString "ab"))) (tCons (tTup (tCons (tC (V.int 0)) (tCons (tC (V.int 1)) tNil))) (tCons tDNewK
        (tCons (tOp rRep (tLst (tCons (tC (V.int 0)) tNil)) (tOp (rI0 fun i j => V.int (i + j)) (tVar 1) (tC (V.int 1))))
          (tCons (tOp rRep (tLst (tCons (tC (V.int 0)) tNil)) (tC (V.int 25)))
            (tCons (tOp rCat (tOp rRep (tLst (tCons (tC (V.str (Str.ofString "a"))) tNil)) (tVar 1)) (tLst (tCons (tC (V.str (Str.ofString "a"))) tNil)))
              (tCons (tOp rRep (tLst (tCons (tC V.non) tNil)) (tOp (rI0 fun i j => V.int (i + j)) (tVar 1) (tC (V.int 1))))
                (tCons (tOp rRep (tLst (tCons (tC (V.bl true)) tNil)) (tOp (rI0 fun i j => V.int (i + j)) (tVar 1) (tC (V.int 1)))) tNil))))))))))) σ H0 _ := fun {σ H0} e =>
      ev_lst (n := 10) (BadV.st (K := K) (H0 := H0) (two := two) (m := m.toNat))
        (evs_cons BadV.st (fun H s Q q => q _ _ (Same.refl H) (bad_no (fun p e => by cases e) (.base .non) (kit_ty (by decide +kernel))))
        (evs_cons BadV.st (fun H s Q q => q _ _ (Same.refl H) (bad_no (fun p e => by cases e) (.base (.int 5)) (kit_ty (by decide +kernel))))
        (evs_cons BadV.st (fun H s Q q => q _ _ (Same.refl H) (bad_no (fun p e => by cases e) (.base (.str _)) (kit_ty (by decide +kernel))))
        (evs_cons BadV.st (fun H s Q q => ⟨(by show 2 ≤ sizeLine; rw [sizeLine_eq]; omega), fun t nt => q _ _ (Same.new nt) (bad_no (fun p e => by cases e; exact s.free nt) (.base (.tup upd_same)) (kit_ty (by decide +kernel)))⟩)
        (evs_cons BadV.st (fun H s Q q => fun d nd => q _ _ (Same.new nd) (bad_no (fun p e => by cases e; exact s.free nd) (.base (.dK upd_same)) (kit_ty (by decide +kernel))))
        (evs_cons BadV.st ((ev_repC (.int 0) (plus e) (by omega) (by omega)).imp fun v H h => long (fun H => .int 0) (by omega) (by omega) (by omega) (.inl (by omega)) h)
        (evs_cons BadV.st ((ev_repC (.int 0) (con 25) (by omega) (by omega)).imp fun v H h => long (fun H => .int 0) (by omega) (by omega) (by omega) (.inr (.inl (by omega))) h)
        (evs_cons BadV.st ((ev_cat (ev_repC (.str (Str.ofString "a")) (var e) (by omega) (by omega)) (ev_one _) (by rw [List.length_replicate]; show _ + 1 ≤ _; omega)).imp fun v H ⟨p, e2, np, hp⟩ => by
            rw [e2]
            exact bad_list np hp (paired_app (ev_replicate (eS _ H) _) (.cons (eS _ H) .nil)) (by rw [List.length_append, List.length_replicate]; show _ + 1 ≤ _; omega) (by rw [List.length_append, List.length_replicate]; show _ + 1 ≠ 6; omega) (.inl (by rw [List.length_append, List.length_replicate]; show _ + 1 ≠ _; omega)))
        (evs_cons BadV.st ((ev_repC .non (plus e) (by omega) (by omega)).imp fun v H h => long eN (by omega) (by omega) (by omega) (.inl (by omega)) h)
        (evs_cons BadV.st ((ev_repC (.bl true) (plus e) (by omega) (by omega)).imp fun v H h => long (fun H => .bl true) (by omega) (by omega) (by omega) (.inl (by omega)) h)
        evs_nil)))))))))) (by decide)
    have ev2 : 0 < m → ∀ {σ : L2.St} {H0 : Hp}, σ[1]? = some (some (.int m)) → EvN (tLst (tCons (tOp rRep (tLst (tCons (tC (V.int 0)) tNil)) (tOp (rI0 fun i j => V.int (i - j)) (tVar 1) (tC (V.int 1))))
        (tCons (tOp rCat (tLst (tCons (tC (V.bl true)) tNil)) (tOp rRep (tLst (tCons (tC (V.int 0)) tNil)) (tOp (rI0 fun i j => V.int (i - j)) (tVar 1) (tC (V.int 1)))))
          (tCons (tOp rRep (tLst (tCons (tC V.non) tNil)) (tVar 1)) (tCons (tOp rRep (tLst (tCons (tLst (tCons (tC (V.int 0)) tNil)) tNil)) (tVar 1)) tNil))))) σ H0 _ := fun hp0 {σ H0} e =>
      ev_lst (n := 4) (BadV.st (K := K) (H0 := H0) (two := two) (m := m.toNat))
        (evs_cons BadV.st ((ev_repC (.int 0) (less e) (by omega) (by omega)).imp fun v H h => long (fun H => .int 0) (by omega) (by omega) (by omega) (.inl (by omega)) h)
        (evs_cons BadV.st ((ev_cat (ev_one (.bl true)) (ev_repC (.int 0) (less e) (by omega) (by omega)) (by rw [List.length_replicate]; show 1 + _ ≤ _; omega)).imp fun v H ⟨p, e2, np, hp⟩ => by
            rw [e2]
            exact bad_list np hp (paired_app (.cons (.bl true) .nil) (ev_replicate (.int 0) _)) (by rw [List.length_append, List.length_replicate]; show 1 + _ ≤ _; omega) (by rw [List.length_append, List.length_replicate]; show 1 + _ ≠ 6; omega) (.inr (.inr ⟨none, List.mem_append_left _ List.mem_cons_self, rfl⟩)))
        (evs_cons BadV.st ((ev_repC .non (var e) (by omega) (by omega)).imp fun v H h => long eN (by omega) (by omega) (by omega) (.inr (.inr ⟨by omega, rfl⟩)) h)
        (evs_cons BadV.st ((ev_rep (P := fun c _ H => ∃ q, c = .ref q ∧ H q = some (.lst [.int 0])) (fun _ _ _ _ s ⟨q, a, b⟩ => ⟨q, a, s _ _ b⟩) (ev_nest.imp fun v H ⟨q, h, hq⟩ => ⟨_, h, q, rfl, hq⟩) (var e) (by omega) (by omega)).imp fun v H ⟨c, u, ⟨p, e2, np, hp⟩, q, e3, hq⟩ => by
            subst e2 e3
            refine bad_list np hp (ev_replicate (.no (.base (.lst hq)) (kit_ty (by decide +kernel))) _) (by rw [List.length_replicate]; omega) (by rw [List.length_replicate]; omega) (.inr (.inr ⟨none, List.mem_replicate.mpr ⟨by omega, rfl⟩, rfl⟩)))
        evs_nil)))) (by decide)
    have ev3 : 0 < m → two = true → ∀ {σ : L2.St} {H0 : Hp}, σ[1]? = some (some (.int m)) → EvN (tLst (tCons (tOp rRep (tLst (tCons (tC (V.int 2)) tNil)) (tVar 1))
        (tCons (tOp rCat (tLst (tCons (tUn (rU fun i => V.int (-i)) (tC (V.int 1))) tNil)) (tOp rRep (tLst (tCons (tC (V.int 0)) tNil)) (tOp (rI0 fun i j => V.int (i - j)) (tVar 1) (tC (V.int 1))))) tNil))) σ H0 _ := fun hp0 ht {σ H0} e =>
      ev_lst (n := 2) (BadV.st (K := K) (H0 := H0) (two := two) (m := m.toNat))
        (evs_cons BadV.st ((ev_repC (.int 2) (var e) (by omega) (by omega)).imp fun v H h => long (fun H => .int 2) (by omega) (by omega) (by omega) (.inr (.inr ⟨by omega, by rw [ht]; rfl⟩)) h)
        (evs_cons BadV.st ((ev_cat (ev_oneE (.int (-1)) (fun H Q q => ⟨1, rfl, q⟩)) (ev_repC (.int 0) (less e) (by omega) (by omega)) (by rw [List.length_replicate]; show 1 + _ ≤ _; omega)).imp fun v H ⟨p, e2, np, hp⟩ => by
            rw [e2]
            exact bad_list np hp (paired_app (.cons (.int (-1)) .nil) (ev_replicate (.int 0) _)) (by rw [List.length_append, List.length_replicate]; show 1 + _ ≤ _; omega) (by rw [List.length_append, List.length_replicate]; show 1 + _ ≠ 6; omega) (.inr (.inr ⟨some (-1), List.mem_append_left _ List.mem_cons_self, by rw [ht]; rfl⟩)))
        evs_nil)) (by decide)
    refine seq_asg ?_
    refine ev1 rfl H (Same.refl H) _ fun v1 H1 s1 h1 => ?_
    obtain ⟨l, vs, rfl, hl, hn, hb⟩ := h1
    refine g_name ?_
    try dsimp only
    have kG := KpS.same (w := wl) (c := c) s1
    (repeat (first | refine ⟨_, rfl, ?_⟩ | refine ⟨rfl, ?_⟩ | refine ⟨_, _, rfl, rfl, ?_⟩ | refine iteT ?_ | refine iteF ?_ | refine ⟨(by show (0 : Int) < _; omega), ?_⟩ | refine ⟨(⟨by omega, by omega⟩ : CDiv _ _), ?_⟩ | refine ⟨(⟨by decide, by decide, by decide⟩ : CPow _ _), ?_⟩ | refine ⟨(.inl ⟨by omega, by omega⟩ : CMul _ _), ?_⟩ | refine ⟨(.inr ⟨by omega, by omega⟩ : CMul _ _), ?_⟩ | refine Or.inl ⟨_, rfl, ?_⟩ | refine Or.inr ⟨_, rfl, ?_⟩ | refine ⟨_, _, _, _, true, rfl, .ty _, .base (.str _), kit_ty (by decide +kernel), ?_⟩ | refine ⟨_, _, rfl, ⟨by rw [sizeLine_eq]; omega, rfl⟩, ?_⟩ | refine ⟨_, _, rfl, .inl ⟨_, SqL.of (by assumption), rfl⟩, ?_⟩ | refine ⟨_, _, rfl, .inr ⟨_, SqT.of (by assumption), rfl⟩, ?_⟩))
    refine ite2 (fun hp => ?_) (fun hp => ?_)
    · have hp0 : 0 < m := of_decide_eq_true hp
      refine seq_asg ?_
      refine ⟨_, rfl, ev2 hp0 rfl H1 s1 _ fun v2 H2 s2 h2 => ?_⟩
      obtain ⟨l2, ws, rfl, hl2, hn2, hb2⟩ := h2
      refine ⟨l, l2, vs, ws, rfl, rfl, s2 _ _ hl, hl2, (by rw [hn, hn2, sizeLine_eq]; omega), fun p np => ?_⟩
      refine g_name ?_
      try dsimp only
      have s3 := s2.trans (Same.new (o := .lst (vs ++ ws)) np)
      have kG := kG.trans (KpS.same (w := wl) (c := c) s3)
      have sG := s1.trans s3
      have hG := upd_same (H := H2) (a := p) (o := .lst (vs ++ ws))
      have hbG : ∀ u ∈ vs ++ ws, BadV K H two m.toNat u (upd H2 p (.lst (vs ++ ws))) := fun u hu => by
        rcases List.mem_append.mp hu with hu | hu
        · exact BadV.st _ _ _ s3 (hb u hu)
        · exact BadV.st _ _ _ (Same.new np) (hb2 u hu)
      have hnG : (vs ++ ws).length = 14 := by rw [List.length_append, hn, hn2]
      generalize vs ++ ws = vs at *
      generalize upd H2 p (.lst vs) = G at *
      cases two with
      | false =>
        (repeat (first | refine ⟨_, rfl, ?_⟩ | refine ⟨rfl, ?_⟩ | refine ⟨_, _, rfl, rfl, ?_⟩ | refine iteT ?_ | refine iteF ?_ | refine ⟨(by show (0 : Int) < _; omega), ?_⟩ | refine ⟨(⟨by omega, by omega⟩ : CDiv _ _), ?_⟩ | refine ⟨(⟨by decide, by decide, by decide⟩ : CPow _ _), ?_⟩ | refine ⟨(.inl ⟨by omega, by omega⟩ : CMul _ _), ?_⟩ | refine ⟨(.inr ⟨by omega, by omega⟩ : CMul _ _), ?_⟩ | refine Or.inl ⟨_, rfl, ?_⟩ | refine Or.inr ⟨_, rfl, ?_⟩ | refine ⟨_, _, _, _, true, rfl, .ty _, .base (.str _), kit_ty (by decide +kernel), ?_⟩ | refine ⟨_, _, rfl, ⟨by rw [sizeLine_eq]; omega, rfl⟩, ?_⟩ | refine ⟨_, _, rfl, .inl ⟨_, SqL.of (by assumption), rfl⟩, ?_⟩ | refine ⟨_, _, rfl, .inr ⟨_, SqT.of (by assumption), rfl⟩, ?_⟩))
        have hn6 : vs.length ≠ 6 ∧ 1 ≤ vs.length ∧ vs.length ≤ 100 := by omega
        refine ⟨wl, c, _, rfl, kG.st hS, by omega, by omega, fun n H9 a9 b9 k9 => ?_⟩
        have hG9 := k9.get (kG.st hS) hG (isSt_len hn6.1)
        have hn9 : n.toNat < vs.length := by omega
        refine ⟨_, vs, n, vs[n.toNat], rfl, rfl, SqL.of hG9, atI_of a9 hn9, ?_⟩
        obtain ⟨⟨r, q, e⟩, fr⟩ := hbG _ (List.getElem_mem hn9)
        exact k _ _ (kG.trans k9) ⟨⟨r, RVr.kp q k9 (kG.st hS), e⟩, fr⟩
      | true =>
        (repeat (first | refine ⟨_, rfl, ?_⟩ | refine ⟨rfl, ?_⟩ | refine ⟨_, _, rfl, rfl, ?_⟩ | refine iteT ?_ | refine iteF ?_ | refine ⟨(by show (0 : Int) < _; omega), ?_⟩ | refine ⟨(⟨by omega, by omega⟩ : CDiv _ _), ?_⟩ | refine ⟨(⟨by decide, by decide, by decide⟩ : CPow _ _), ?_⟩ | refine ⟨(.inl ⟨by omega, by omega⟩ : CMul _ _), ?_⟩ | refine ⟨(.inr ⟨by omega, by omega⟩ : CMul _ _), ?_⟩ | refine Or.inl ⟨_, rfl, ?_⟩ | refine Or.inr ⟨_, rfl, ?_⟩ | refine ⟨_, _, _, _, true, rfl, .ty _, .base (.str _), kit_ty (by decide +kernel), ?_⟩ | refine ⟨_, _, rfl, ⟨by rw [sizeLine_eq]; omega, rfl⟩, ?_⟩ | refine ⟨_, _, rfl, .inl ⟨_, SqL.of (by assumption), rfl⟩, ?_⟩ | refine ⟨_, _, rfl, .inr ⟨_, SqT.of (by assumption), rfl⟩, ?_⟩))
        refine ev3 hp0 rfl rfl G sG _ fun v4 H4 s4 h4 => ?_
        obtain ⟨l4, us, rfl, hl4, hn4, hb4⟩ := h4
        refine ⟨p, l4, vs, us, rfl, rfl, s4 _ _ hG, hl4, (by rw [hnG, hn4, sizeLine_eq]; omega), fun p5 np5 => ?_⟩
        have s5 := s4.trans (Same.new (o := .lst (vs ++ us)) np5)
        have kG := kG.trans (KpS.same (w := wl) (c := c) s5)
        have hbG : ∀ u ∈ vs ++ us, BadV K H true m.toNat u (upd H4 p5 (.lst (vs ++ us))) := fun u hu => by
          rcases List.mem_append.mp hu with hu | hu
          · exact BadV.st _ _ _ s5 (hbG u hu)
          · exact BadV.st _ _ _ (Same.new np5) (hb4 u hu)
        have hnG : (vs ++ us).length = 16 := by rw [List.length_append, hnG, hn4]
        have hG := upd_same (H := H4) (a := p5) (o := .lst (vs ++ us))
        generalize vs ++ us = vs at *
        generalize upd H4 p5 (.lst vs) = G at *
        have hn6 : vs.length ≠ 6 ∧ 1 ≤ vs.length ∧ vs.length ≤ 100 := by omega
        (repeat (first | refine ⟨_, rfl, ?_⟩ | refine ⟨rfl, ?_⟩ | refine ⟨_, _, rfl, rfl, ?_⟩ | refine iteT ?_ | refine iteF ?_ | refine ⟨(by show (0 : Int) < _; omega), ?_⟩ | refine ⟨(⟨by omega, by omega⟩ : CDiv _ _), ?_⟩ | refine ⟨(⟨by decide, by decide, by decide⟩ : CPow _ _), ?_⟩ | refine ⟨(.inl ⟨by omega, by omega⟩ : CMul _ _), ?_⟩ | refine ⟨(.inr ⟨by omega, by omega⟩ : CMul _ _), ?_⟩ | refine Or.inl ⟨_, rfl, ?_⟩ | refine Or.inr ⟨_, rfl, ?_⟩ | refine ⟨_, _, _, _, true, rfl, .ty _, .base (.str _), kit_ty (by decide +kernel), ?_⟩ | refine ⟨_, _, rfl, ⟨by rw [sizeLine_eq]; omega, rfl⟩, ?_⟩ | refine ⟨_, _, rfl, .inl ⟨_, SqL.of (by assumption), rfl⟩, ?_⟩ | refine ⟨_, _, rfl, .inr ⟨_, SqT.of (by assumption), rfl⟩, ?_⟩))
        refine ⟨wl, c, _, rfl, kG.st hS, by omega, by omega, fun n H9 a9 b9 k9 => ?_⟩
        have hG9 := k9.get (kG.st hS) hG (isSt_len hn6.1)
        have hn9 : n.toNat < vs.length := by omega
        refine ⟨_, vs, n, vs[n.toNat], rfl, rfl, SqL.of hG9, atI_of a9 hn9, ?_⟩
        obtain ⟨⟨r, q, e⟩, fr⟩ := hbG _ (List.getElem_mem hn9)
        exact k _ _ (kG.trans k9) ⟨⟨r, RVr.kp q k9 (kG.st hS), e⟩, fr⟩
    · (repeat (first | refine ⟨_, rfl, ?_⟩ | refine ⟨rfl, ?_⟩ | refine ⟨_, _, rfl, rfl, ?_⟩ | refine iteT ?_ | refine iteF ?_ | refine ⟨(by show (0 : Int) < _; omega), ?_⟩ | refine ⟨(⟨by omega, by omega⟩ : CDiv _ _), ?_⟩ | refine ⟨(⟨by decide, by decide, by decide⟩ : CPow _ _), ?_⟩ | refine ⟨(.inl ⟨by omega, by omega⟩ : CMul _ _), ?_⟩ | refine ⟨(.inr ⟨by omega, by omega⟩ : CMul _ _), ?_⟩ | refine Or.inl ⟨_, rfl, ?_⟩ | refine Or.inr ⟨_, rfl, ?_⟩ | refine ⟨_, _, _, _, true, rfl, .ty _, .base (.str _), kit_ty (by decide +kernel), ?_⟩ | refine ⟨_, _, rfl, ⟨by rw [sizeLine_eq]; omega, rfl⟩, ?_⟩ | refine ⟨_, _, rfl, .inl ⟨_, SqL.of (by assumption), rfl⟩, ?_⟩ | refine ⟨_, _, rfl, .inr ⟨_, SqT.of (by assumption), rfl⟩, ?_⟩))
      have hG := hl
      have hbG := hb
      have hn6 : vs.length ≠ 6 ∧ 1 ≤ vs.length ∧ vs.length ≤ 100 := by omega
      refine ⟨wl, c, _, rfl, kG.st hS, by omega, by omega, fun n H9 a9 b9 k9 => ?_⟩
      have hG9 := k9.get (kG.st hS) hG (isSt_len hn6.1)
      have hn9 : n.toNat < vs.length := by omega
      refine ⟨_, vs, n, vs[n.toNat], rfl, rfl, SqL.of hG9, atI_of a9 hn9, ?_⟩
      obtain ⟨⟨r, q, e⟩, fr⟩ := hbG _ (List.getElem_mem hn9)
      exact k _ _ (kG.trans k9) ⟨⟨r, RVr.kp q k9 (kG.st hS), e⟩, fr⟩
end
end BF43
set_option Elab.async false
set_option linter.all false
set_option maxRecDepth 100000
set_option maxHeartbeats 1000000
namespace BF43
open BF
open PySem PySem.Spec PyProof.Rows L2
open C8 (Cal CalAt Met Mak cal0 met0 mak0 fn0 pe_c pe_mk pe_mt pe_mt0 pe_gc fnScope fnBody fnArgs fnScope_by)
open SX
theorem shaped_ssb {n : Str} (h : PyData.strOk n = true) : SeqAt.shaped (.tuple [.str "rows", .str n, .bool true]) = true := by
  have h1 : PyData.strOk ("rows" : Str) = true := by decide +kernel
  simp [SeqAt.shaped, PyData.canLay0, PyData.canLayAll0, PyData.depth, PyData.depthAll, h, h1]
theorem eqv_ssb (n : Str) : PyData.eqv (.tuple [.str "rows", .str n, .bool true]) (.tuple [.str "rows", .str n, .bool true]) = true := by simp [PyData.eqv, PyData.eqvAll]
section
variable {P : Program} {w : World} {K : PySem.W.Frag} {mg : Str → Option Value} {base : Heap} {A : Ad}
def spRefused : Sp := fun vs H Q _ => ∃ (w c d : Addr) (m : Int) (two : Bool) (rs : List BF.Row) (N : Addr → Prop), vs = [.ref w, .ref d, .int m, .str (ovS two)] ∧ StAt H w c ∧ 0 ≤ m ∧ m ≤ 4 ∧ RowsD N H d rs ∧ (rs.map (·.1)).Nodup ∧ sortS (rs.map (·.1)) = rs.map (·.1) ∧ (∀ r ∈ rs, isNm r.1 = true) ∧ 2 ≤ rs.length ∧ rs.length ≤ 9 ∧
  (∀ r ∈ rs, (r.2.length : Int) = m) ∧ TwoOk two rs ∧ ∀ H', KpS w c H H' → Q (.bl true) H'
theorem cal_law_refused (T : Txt K mg A) : Cal P w K mg base 7 "_law_refused" spRefused [] := by
  refine cal0 T.d_law_refused T.b_law_refused .nil sc_law_refused (fun vs H Q E h => ?_) (fun cdv B outer s H vs Q E hr h => ?_)
  · obtain ⟨x, c, d, m, two, rs, N, rfl, _⟩ := h
    rfl
  · obtain ⟨wl, c, d, m, two, rs, N, rfl, hS, hm0, hm, hR, hnd, hso, hnm, h2, h9, hw, htw, k⟩ := h
    refine ⟨_, (pss_cons (ps_set (i := 4) sc_law_refused.nd rfl (by first | exact Or.inl rfl | exact Or.inr rfl) (pe_callB (call_sortedD rfl) (by rfl) T.z_sorted (by decide +kernel) (pa_cons (pv 1) pa_nil)))
 (pss_cons (ps_set (i := 5) sc_law_refused.nd rfl (by first | exact Or.inl rfl | exact Or.inr rfl) (pe_callTy call_dictD (by rfl) T.z_dict (by decide +kernel) (pa_cons (pv 1) pa_nil)))
 (pss_cons (ps_set (i := 6) sc_law_refused.nd rfl (by first | exact Or.inl rfl | exact Or.inr rfl) (pe_lst pa_nil))
 (pss_cons (ps_for PassesOwn.never rfl (pi_range1 (by rfl) T.z_range (pa_cons (pe_op op_add pe_int (pe_c (cal_law_draw T) hr (by decide) rfl (pa_cons (pv 0) (pa_cons pe_int pa_nil)))) pa_nil)) (pg_name (i := 7) sc_law_refused.nd rfl (by first | exact Or.inl rfl | exact Or.inr rfl)) (pss_cons (ps_set (i := 8) sc_law_refused.nd rfl (by first | exact Or.inl rfl | exact Or.inr rfl) (pe_op op_add pe_int (pe_c (cal_law_draw T) hr (by decide) rfl (pa_cons (pv 0) (pa_cons (pe_op op_sub (pe_callB (lenK K) (by rfl) T.z_len (by decide +kernel) (pa_cons (pv 4) pa_nil)) pe_int) pa_nil)))))
 (pss_cons (ps_dput (hu_of hr) (pv 5) (pe_ix (ixLK K) (pv 4) (pv 8) (fun _ _ => rfl)) (pe_c (cal_law_wrong_row T) hr (by decide) rfl (pa_cons (pv 0) (pa_cons (pv 2) (pa_cons (pv 3) pa_nil)))) rfl)
 (pss_one (ps_expr (pe_bm PySem.F.plainAttrs_list PySem.F.slot_list_append PySem.F.type_list_append mt_append (pv 6) (pa_cons (pe_ix (ixLK K) (pv 4) (pv 8) (fun _ _ => rfl)) pa_nil)))))))
 (pss_cons (ps_if (pt_cmpR op_eq (pe_c (cal_law_draw T) hr (by decide) rfl (pa_cons (pv 0) (pa_cons pe_int pa_nil))) pe_int (nomark _)) (pss_cons (ps_set (i := 9) sc_law_refused.nd rfl (by first | exact Or.inl rfl | exact Or.inr rfl) (pe_ix (ixLK K) (pe_lst (pa_cons pe_str (pa_cons pe_str (pa_cons pe_str (pa_cons pe_str (pa_cons pe_str (pa_cons (pe_op op_repS pe_str pe_int) (pa_cons pe_str pa_nil)))))))) (pe_c (cal_law_draw T) hr (by decide) rfl (pa_cons (pv 0) (pa_cons pe_int pa_nil))) (fun _ _ => rfl)))
 (pss_cons (ps_dput (hu_of hr) (pv 5) (pv 9) (pe_op op_rep (pe_lst (pa_cons pe_int pa_nil)) (pv 2)) rfl)
 (pss_one (ps_expr (pe_bm PySem.F.plainAttrs_list PySem.F.slot_list_append PySem.F.type_list_append mt_append (pv 6) (pa_cons (pv 9) pa_nil)))))) pss_nil)
 (pss_one (ps_ret (pe_cmpR (eqDK K hr) (pe_c (cal_law_told T) hr (by decide) rfl (pa_cons (pv 5) (pa_cons (pv 3) pa_nil))) (pe_tup (pa_cons pe_str (pa_cons (pe_callB (minSK K rfl hr) (by rfl) T.z_min (by decide +kernel) (pa_cons (pv 6) pa_nil)) (pa_cons pe_bl pa_nil)))) (nomark _))))))))), ?_⟩
    have hE : RvD K H d (rs.map rvOf) := hR.rv hnd fun r hr => by
      have := hw r hr
      omega
    obtain ⟨_, kvs0, hd0, hp0⟩ := id hR
    have hlen0 : kvs0.length = rs.length := hp0.length
    (repeat (first | refine ⟨_, rfl, ?_⟩ | refine ⟨rfl, ?_⟩ | refine ⟨_, _, rfl, rfl, ?_⟩ | refine iteT ?_ | refine iteF ?_ | refine ⟨(by show (0 : Int) < _; omega), ?_⟩ | refine ⟨(⟨by omega, by omega⟩ : CDiv _ _), ?_⟩ | refine ⟨(⟨by decide, by decide, by decide⟩ : CPow _ _), ?_⟩ | refine ⟨(.inl ⟨by omega, by omega⟩ : CMul _ _), ?_⟩ | refine ⟨(.inr ⟨by omega, by omega⟩ : CMul _ _), ?_⟩ | refine Or.inl ⟨_, rfl, ?_⟩ | refine Or.inr ⟨_, rfl, ?_⟩ | refine ⟨_, _, _, _, true, rfl, .ty _, .base (.str _), kit_ty (by decide +kernel), ?_⟩ | refine ⟨_, _, rfl, ⟨by rw [sizeLine_eq]; omega, rfl⟩, ?_⟩ | refine ⟨_, _, rfl, .inl ⟨_, SqL.of (by assumption), rfl⟩, ?_⟩ | refine ⟨_, _, rfl, .inr ⟨_, SqT.of (by assumption), rfl⟩, ?_⟩))
    refine ⟨d, kvs0, rs.map (·.1), rfl, .inl hd0, rowk_keys hp0, by rw [List.length_map]; omega, fun ys lk pm so nlk => ?_⟩
    rw [sortS_eq pm so, hso]
    have s1 := Same.new (o := .lst ((rs.map (·.1)).map V.str)) nlk
    (repeat (first | refine ⟨_, rfl, ?_⟩ | refine ⟨rfl, ?_⟩ | refine ⟨_, _, rfl, rfl, ?_⟩ | refine iteT ?_ | refine iteF ?_ | refine ⟨(by show (0 : Int) < _; omega), ?_⟩ | refine ⟨(⟨by omega, by omega⟩ : CDiv _ _), ?_⟩ | refine ⟨(⟨by decide, by decide, by decide⟩ : CPow _ _), ?_⟩ | refine ⟨(.inl ⟨by omega, by omega⟩ : CMul _ _), ?_⟩ | refine ⟨(.inr ⟨by omega, by omega⟩ : CMul _ _), ?_⟩ | refine Or.inl ⟨_, rfl, ?_⟩ | refine Or.inr ⟨_, rfl, ?_⟩ | refine ⟨_, _, _, _, true, rfl, .ty _, .base (.str _), kit_ty (by decide +kernel), ?_⟩ | refine ⟨_, _, rfl, ⟨by rw [sizeLine_eq]; omega, rfl⟩, ?_⟩ | refine ⟨_, _, rfl, .inl ⟨_, SqL.of (by assumption), rfl⟩, ?_⟩ | refine ⟨_, _, rfl, .inr ⟨_, SqT.of (by assumption), rfl⟩, ?_⟩))
    refine ⟨d, kvs0, rfl, .inl (s1 _ _ hd0), fun f nf => ?_⟩
    have s2 := s1.trans (Same.new (o := .dK kvs0) nf)
    have nf0 := s1.free nf
    (repeat (first | refine ⟨_, rfl, ?_⟩ | refine ⟨rfl, ?_⟩ | refine ⟨_, _, rfl, rfl, ?_⟩ | refine iteT ?_ | refine iteF ?_ | refine ⟨(by show (0 : Int) < _; omega), ?_⟩ | refine ⟨(⟨by omega, by omega⟩ : CDiv _ _), ?_⟩ | refine ⟨(⟨by decide, by decide, by decide⟩ : CPow _ _), ?_⟩ | refine ⟨(.inl ⟨by omega, by omega⟩ : CMul _ _), ?_⟩ | refine ⟨(.inr ⟨by omega, by omega⟩ : CMul _ _), ?_⟩ | refine Or.inl ⟨_, rfl, ?_⟩ | refine Or.inr ⟨_, rfl, ?_⟩ | refine ⟨_, _, _, _, true, rfl, .ty _, .base (.str _), kit_ty (by decide +kernel), ?_⟩ | refine ⟨_, _, rfl, ⟨by rw [sizeLine_eq]; omega, rfl⟩, ?_⟩ | refine ⟨_, _, rfl, .inl ⟨_, SqL.of (by assumption), rfl⟩, ?_⟩ | refine ⟨_, _, rfl, .inr ⟨_, SqT.of (by assumption), rfl⟩, ?_⟩))
    refine ⟨(by show 0 ≤ sizeLine; rw [sizeLine_eq]; omega), fun b nb => ?_⟩
    have s3 := s2.trans (Same.new (o := .lst []) nb)
    have nb0 := s2.free nb
    have bf : b ≠ f := fun e => by rw [e, upd_same] at nb; cases nb
    have k3 := KpS.same (w := wl) (c := c) s3
    have lkw := hS.ne nlk
    have lkb : lk ≠ b := ne_of_none ((Same.new nf) _ _ upd_same) nb
    have lkf : lk ≠ f := ne_of_none upd_same nf
    have fw := hS.ne nf0
    have bw := hS.ne nb0
    have hlk3 : upd (upd (upd H lk (.lst ((rs.map (·.1)).map V.str))) f (.dK kvs0)) b (.lst []) lk = some (.lst ((rs.map (·.1)).map V.str)) := (Same.new nb) _ _ ((Same.new nf) _ _ upd_same)
    have hf3 : upd (upd (upd H lk (.lst ((rs.map (·.1)).map V.str))) f (.dK kvs0)) b (.lst []) f = some (.dK kvs0) := (Same.new nb) _ _ upd_same
    have hb3 : upd (upd (upd H lk (.lst ((rs.map (·.1)).map V.str))) f (.dK kvs0)) b (.lst []) b = some (.lst (([] : List Str).map V.str)) := upd_same
    have hE3 := hE.same s3
    generalize upd (upd (upd H lk (.lst ((rs.map (·.1)).map V.str))) f (.dK kvs0)) b (.lst []) = H3 at *
    (repeat (first | refine ⟨_, rfl, ?_⟩ | refine ⟨rfl, ?_⟩ | refine ⟨_, _, rfl, rfl, ?_⟩ | refine iteT ?_ | refine iteF ?_ | refine ⟨(by show (0 : Int) < _; omega), ?_⟩ | refine ⟨(⟨by omega, by omega⟩ : CDiv _ _), ?_⟩ | refine ⟨(⟨by decide, by decide, by decide⟩ : CPow _ _), ?_⟩ | refine ⟨(.inl ⟨by omega, by omega⟩ : CMul _ _), ?_⟩ | refine ⟨(.inr ⟨by omega, by omega⟩ : CMul _ _), ?_⟩ | refine Or.inl ⟨_, rfl, ?_⟩ | refine Or.inr ⟨_, rfl, ?_⟩ | refine ⟨_, _, _, _, true, rfl, .ty _, .base (.str _), kit_ty (by decide +kernel), ?_⟩ | refine ⟨_, _, rfl, ⟨by rw [sizeLine_eq]; omega, rfl⟩, ?_⟩ | refine ⟨_, _, rfl, .inl ⟨_, SqL.of (by assumption), rfl⟩, ?_⟩ | refine ⟨_, _, rfl, .inr ⟨_, SqT.of (by assumption), rfl⟩, ?_⟩))
    refine ⟨wl, c, 2, rfl, k3.st hS, by omega, by omega, fun n1 H4 a1 b1 k4 => ?_⟩
    have k34 := k3.trans k4
    obtain ⟨r0, rt, ers⟩ : ∃ r0 rt, rs = r0 :: rt := by
      cases rs with
      | nil => exact absurd h2 (by show ¬ 2 ≤ 0; omega)
      | cons r0 rt => exact ⟨r0, rt, rfl⟩
    have hh : r0.1 ∈ rs.map (·.1) := by rw [ers]; exact List.mem_cons_self
    have hle : ∀ n ∈ rs.map (·.1), leS r0.1 n = true := fun n hn => head_le (h := r0.1) (t := rt.map (·.1)) (by rw [hso, ers]; rfl) hn
    have hkl : (rs.map (·.1)).length = rs.length := List.length_map _
    have g0 : ∀ n ∈ rs.map (·.1), ∃ r, lkR (rs.map rvOf) n = some r ∧ goodR two r = true ∧ rvLen r = m.toNat := fun n hn => by
      obtain ⟨r, hr, rfl⟩ := List.mem_map.mp hn
      refine ⟨_, lk_rv hnd hr, good_row (by have := hw r hr; omega) (fun t => htw t r hr), ?_⟩
      show (r.2.map some).length = m.toNat
      rw [List.length_map]
      have := hw r hr
      omega
    have hp3 : Paired (RvK K H3) kvs0 (rs.map rvOf) := by
      obtain ⟨⟨kvs, e, p⟩, _⟩ := hE
      rw [hd0] at e
      cases e
      exact Paired.imp (fun _ _ q => ⟨q.1, q.2.same s3⟩) p
    have hnb0 : ∀ kv ∈ kvs0, kv.2 ≠ .ref b := fun kv hkv e => by
      obtain ⟨j, hj, ej⟩ := List.mem_iff_getElem.mp hkv
      obtain ⟨r, _, e1, q, e2, _, hq⟩ := paired_at hp0 (List.getElem?_eq_getElem hj)
      rw [ej, e] at e2
      cases e2
      rw [hq] at nb0
      cases nb0
    (repeat (first | refine ⟨_, rfl, ?_⟩ | refine ⟨rfl, ?_⟩ | refine ⟨_, _, rfl, rfl, ?_⟩ | refine iteT ?_ | refine iteF ?_ | refine ⟨(by show (0 : Int) < _; omega), ?_⟩ | refine ⟨(⟨by omega, by omega⟩ : CDiv _ _), ?_⟩ | refine ⟨(⟨by decide, by decide, by decide⟩ : CPow _ _), ?_⟩ | refine ⟨(.inl ⟨by omega, by omega⟩ : CMul _ _), ?_⟩ | refine ⟨(.inr ⟨by omega, by omega⟩ : CMul _ _), ?_⟩ | refine Or.inl ⟨_, rfl, ?_⟩ | refine Or.inr ⟨_, rfl, ?_⟩ | refine ⟨_, _, _, _, true, rfl, .ty _, .base (.str _), kit_ty (by decide +kernel), ?_⟩ | refine ⟨_, _, rfl, ⟨by rw [sizeLine_eq]; omega, rfl⟩, ?_⟩ | refine ⟨_, _, rfl, .inl ⟨_, SqL.of (by assumption), rfl⟩, ?_⟩ | refine ⟨_, _, rfl, .inr ⟨_, SqT.of (by assumption), rfl⟩, ?_⟩))
    refine ⟨by omega, by omega, for_it walk_range (fun i σ H' => ∃ (v7 v8 v9 : Option V) (es : List (Str × RV)) (bs : List Str) (kvs : List (Key × V)), σ = [some (.ref wl), some (.ref d), some (.int m), some (.str (ovS two)), some (.ref lk), some (.ref f), some (.ref b), v7, v8, v9] ∧ KpS wl c H H' ∧
        H' lk = some (.lst ((rs.map (·.1)).map V.str)) ∧ H' f = some (.dK kvs) ∧ Paired (RvK K H') kvs es ∧ (∀ kv ∈ kvs, kv.2 ≠ .ref b) ∧ es.map (·.1) = rs.map (·.1) ∧ H' b = some (.lst (bs.map V.str)) ∧ bs.length = i ∧
        (∀ n ∈ rs.map (·.1), n ∉ bs → ∃ r, lkR es n = some r ∧ goodR two r = true ∧ rvLen r = m.toNat) ∧ (∀ n ∈ bs, n ∈ rs.map (·.1) ∧ n ≠ r0.1 ∧ ∃ r, lkR es n = some r ∧ (goodR two r && decide (rvLen r = m.toNat)) = false))
      ⟨_, _, _, rs.map rvOf, [], kvs0, rfl, k34, k4.keep _ _ lkw hlk3, k4.keep _ _ fw hf3, Paired.imp (fun _ _ q => ⟨q.1, q.2.kp k4 (k3.st hS)⟩) hp3, hnb0, rvOf_keys rs, k4.keep _ _ bw hb3, rfl, fun n hn _ => g0 n hn, fun n hn => by cases hn⟩ (fun _ _ _ _ _ => True.intro) ?_ ?_⟩
    · rintro i v σ H5 H6 hi ⟨v7, v8, v9, es, bs, kvs, rfl, k5, hlk, hf, hp, hnb, hke, hb, hbl, hg, hbd⟩ ⟨rfl, rfl⟩
      (repeat (first | refine ⟨_, rfl, ?_⟩ | refine ⟨rfl, ?_⟩ | refine ⟨_, _, rfl, rfl, ?_⟩ | refine iteT ?_ | refine iteF ?_ | refine ⟨(by show (0 : Int) < _; omega), ?_⟩ | refine ⟨(⟨by omega, by omega⟩ : CDiv _ _), ?_⟩ | refine ⟨(⟨by decide, by decide, by decide⟩ : CPow _ _), ?_⟩ | refine ⟨(.inl ⟨by omega, by omega⟩ : CMul _ _), ?_⟩ | refine ⟨(.inr ⟨by omega, by omega⟩ : CMul _ _), ?_⟩ | refine Or.inl ⟨_, rfl, ?_⟩ | refine Or.inr ⟨_, rfl, ?_⟩ | refine ⟨_, _, _, _, true, rfl, .ty _, .base (.str _), kit_ty (by decide +kernel), ?_⟩ | refine ⟨_, _, rfl, ⟨by rw [sizeLine_eq]; omega, rfl⟩, ?_⟩ | refine ⟨_, _, rfl, .inl ⟨_, SqL.of (by assumption), rfl⟩, ?_⟩ | refine ⟨_, _, rfl, .inr ⟨_, SqT.of (by assumption), rfl⟩, ?_⟩))
      refine ⟨wl, c, _, rfl, k5.st hS, by rw [List.length_map]; omega, by rw [List.length_map]; omega, fun n2 H7 a2 b2 k7 => ?_⟩
      rw [List.length_map] at b2
      have k57 := k5.trans k7
      have hlk7 := k7.keep _ _ lkw hlk
      have hat : (1 + n2).toNat < (rs.map (·.1)).length := by omega
      have hix : atI ((rs.map (·.1)).map V.str) (1 + n2) = some (V.str (rs.map (·.1))[(1 + n2).toNat]) := by
        have hat2 : (1 + n2).toNat < ((rs.map (·.1)).map V.str).length := by rw [List.length_map]; exact hat
        rw [atI_of (by omega) hat2, List.getElem_map]
      have hnk := List.getElem_mem hat
      have hne : (rs.map (·.1))[(1 + n2).toNat] ≠ r0.1 := fun e => by
        have e0 : (rs.map (·.1))[0]'(by omega) = r0.1 := by
          simp only [ers]
          rfl
        have := (List.getElem_inj hnd).mp (e.trans e0.symm)
        omega
      generalize (rs.map (·.1))[(1 + n2).toNat] = n at *
      (repeat (first | refine ⟨_, rfl, ?_⟩ | refine ⟨rfl, ?_⟩ | refine ⟨_, _, rfl, rfl, ?_⟩ | refine iteT ?_ | refine iteF ?_ | refine ⟨(by show (0 : Int) < _; omega), ?_⟩ | refine ⟨(⟨by omega, by omega⟩ : CDiv _ _), ?_⟩ | refine ⟨(⟨by decide, by decide, by decide⟩ : CPow _ _), ?_⟩ | refine ⟨(.inl ⟨by omega, by omega⟩ : CMul _ _), ?_⟩ | refine ⟨(.inr ⟨by omega, by omega⟩ : CMul _ _), ?_⟩ | refine Or.inl ⟨_, rfl, ?_⟩ | refine Or.inr ⟨_, rfl, ?_⟩ | refine ⟨_, _, _, _, true, rfl, .ty _, .base (.str _), kit_ty (by decide +kernel), ?_⟩ | refine ⟨_, _, rfl, ⟨by rw [sizeLine_eq]; omega, rfl⟩, ?_⟩ | refine ⟨_, _, rfl, .inl ⟨_, SqL.of (by assumption), rfl⟩, ?_⟩ | refine ⟨_, _, rfl, .inr ⟨_, SqT.of (by assumption), rfl⟩, ?_⟩))
      refine ⟨wl, c, m, two, rfl, k57.st hS, hm0, hm, fun v H8 k8 hv => ?_⟩
      have k58 := k57.trans k8
      have hlk8 := k8.keep _ _ lkw hlk7
      have hf8 := k8.keep _ _ fw (k7.keep _ _ fw hf)
      have hb8 := k8.keep _ _ bw (k7.keep _ _ bw hb)
      have hp8 : Paired (RvK K H8) kvs es := Paired.imp (fun _ _ q => ⟨q.1, (q.2.kp k7 (k5.st hS)).kp k8 (k57.st hS)⟩) hp
      obtain ⟨⟨r, hr, hbad⟩, hfr⟩ := hv
      have hvb : v ≠ .ref b := fun e => by
        have := hfr b e
        rw [k7.keep _ _ bw hb] at this
        cases this
      refine ⟨_, rfl, _, rfl, _, rfl, lk, _, _, _, rfl, rfl, SqL.of hlk8, hix, f, _, rfl, DPut.k (k := .inr n) hf8 (small1000 (by
        rw [hp8.length]
        have := congrArg List.length hke
        rw [List.length_map, List.length_map] at this
        omega)), ?_⟩
      have fb : b ≠ f := bf
      have hb9 : upd H8 f (.dK (putK kvs (.inr n) v)) b = some (.lst (bs.map V.str)) := by rw [upd_ne fb]; exact hb8
      have hlk9 : upd H8 f (.dK (putK kvs (.inr n) v)) lk = some (.lst ((rs.map (·.1)).map V.str)) := by rw [upd_ne lkf]; exact hlk8
      have hf9 := upd_same (H := H8) (a := f) (o := .dK (putK kvs (.inr n) v))
      have hp9 : Paired (RvK K (upd H8 f (.dK (putK kvs (.inr n) v)))) (putK kvs (.inr n) v) (putR es n r) := Paired.imp (fun _ _ q => ⟨q.1, q.2.dk hf8⟩) (rv_put hr hp8)
      have hnb9 : ∀ kv ∈ putK kvs (.inr n) v, kv.2 ≠ .ref b := fun kv h => by
        rcases mem_putK h with h | h
        · exact hnb kv h
        · rw [h]
          exact hvb
      have k9 : KpS wl c H (upd H8 f (.dK (putK kvs (.inr n) v))) := k58.put hS nf0
      generalize upd H8 f (.dK (putK kvs (.inr n) v)) = H9 at *
      refine ⟨_, rfl, .inl ⟨rfl, _, SqL.of hb9⟩, _, rfl, _, rfl, lk, _, _, _, rfl, rfl, SqL.of hlk9, hix, b, _, _, rfl, rfl, hb9, small1000 (by rw [List.length_map]; omega), ?_⟩
      have hnk2 : n ∈ es.map (·.1) := by rw [hke]; exact hnk
      refine ⟨_, _, _, putR es n r, bs ++ [n], _, rfl, k9.put hS nb0, by rw [upd_ne lkb]; exact hlk9, by rw [upd_ne fb.symm]; exact hf9, ?_, hnb9, by rw [putR_keys, if_pos hnk2, hke], by rw [upd_same, List.map_append]; rfl, by simp [hbl], fun x hx hxb => ?_, fun x hx => ?_⟩
      · exact paired_mem hp9 fun x hx y q => ⟨q.1, q.2.chg hb9 (hnb9 x hx)⟩
      · have hxn : x ≠ n := fun e => hxb (by rw [e]; simp)
        obtain ⟨r1, e1, e2⟩ := hg x hx fun h => hxb (List.mem_append_left _ h)
        exact ⟨r1, by rw [lkR_put, if_neg hxn]; exact e1, e2⟩
      · by_cases e : x = n
        · subst e
          exact ⟨hnk, hne, r, by rw [lkR_put, if_pos rfl], hbad⟩
        · have hx2 : x ∈ bs := by
            rcases List.mem_append.mp hx with h | h
            · exact h
            · exact absurd (List.mem_singleton.mp h) e
          obtain ⟨q1, q2, r1, e1, e2⟩ := hbd x hx2
          exact ⟨q1, q2, r1, by rw [lkR_put, if_neg e]; exact e1, e2⟩
    · rintro σ H5 ⟨v7, v8, v9, es, bs, kvs, rfl, k5, hlk, hf, hp, hnb, hke, hb, hbl, hg, hbd⟩
      have B0 : Bads two m.toNat es bs := by
        refine ⟨by rw [hke]; exact hnd, fun n hn => by rw [hke]; exact (hbd n hn).1, fun n hn hnb => ?_, fun n hn => .inr ?_⟩
        · rw [hke] at hn
          obtain ⟨r, hr, e⟩ := List.mem_map.mp hn
          refine ⟨by rw [← e]; exact hnm r hr, hg n hn hnb⟩
        · obtain ⟨q1, q2, q3⟩ := hbd n hn
          refine ⟨⟨r0.1, by rw [hke]; exact hh, fun h => (hbd _ h).2.1 rfl, hle n q1⟩, q3⟩
      have hel : es.length ≤ 9 := by
        have := congrArg List.length hke
        rw [List.length_map, List.length_map] at this
        omega
      have hez : ∀ e ∈ es, e.1.length ≤ 1000 := fun e he => by
        have : e.1 ∈ rs.map (·.1) := by rw [← hke]; exact List.mem_map.mpr ⟨e, he, rfl⟩
        obtain ⟨r, hr, q⟩ := List.mem_map.mp this
        have h1 := hnm r hr
        rw [← q]
        unfold isNm at h1
        simp only [Bool.and_eq_true, decide_eq_true_eq] at h1
        omega
      have hbl1 : 1 ≤ bs.length := by omega
      have hso6 : ∀ n ∈ bs, PyData.strOk n = true := fun n hn => by
        obtain ⟨r, hr, e⟩ := List.mem_map.mp (hbd n hn).1
        rw [← e]
        exact isNm_ok (hnm r hr)
      (repeat (first | refine ⟨_, rfl, ?_⟩ | refine ⟨rfl, ?_⟩ | refine ⟨_, _, rfl, rfl, ?_⟩ | refine iteT ?_ | refine iteF ?_ | refine ⟨(by show (0 : Int) < _; omega), ?_⟩ | refine ⟨(⟨by omega, by omega⟩ : CDiv _ _), ?_⟩ | refine ⟨(⟨by decide, by decide, by decide⟩ : CPow _ _), ?_⟩ | refine ⟨(.inl ⟨by omega, by omega⟩ : CMul _ _), ?_⟩ | refine ⟨(.inr ⟨by omega, by omega⟩ : CMul _ _), ?_⟩ | refine Or.inl ⟨_, rfl, ?_⟩ | refine Or.inr ⟨_, rfl, ?_⟩ | refine ⟨_, _, _, _, true, rfl, .ty _, .base (.str _), kit_ty (by decide +kernel), ?_⟩ | refine ⟨_, _, rfl, ⟨by rw [sizeLine_eq]; omega, rfl⟩, ?_⟩ | refine ⟨_, _, rfl, .inl ⟨_, SqL.of (by assumption), rfl⟩, ?_⟩ | refine ⟨_, _, rfl, .inr ⟨_, SqT.of (by assumption), rfl⟩, ?_⟩))
      refine ⟨wl, c, 2, rfl, k5.st hS, by omega, by omega, fun n3 H6 a3 b3 k6 => ?_⟩
      have k56 := k5.trans k6
      have hf6 := k6.keep _ _ fw hf
      have hb6 := k6.keep _ _ bw hb
      have hp6 : Paired (RvK K H6) kvs es := Paired.imp (fun _ _ q => ⟨q.1, q.2.kp k6 (k5.st hS)⟩) hp
      (repeat (first | refine ⟨_, rfl, ?_⟩ | refine ⟨rfl, ?_⟩ | refine ⟨_, _, rfl, rfl, ?_⟩ | refine iteT ?_ | refine iteF ?_ | refine ⟨(by show (0 : Int) < _; omega), ?_⟩ | refine ⟨(⟨by omega, by omega⟩ : CDiv _ _), ?_⟩ | refine ⟨(⟨by decide, by decide, by decide⟩ : CPow _ _), ?_⟩ | refine ⟨(.inl ⟨by omega, by omega⟩ : CMul _ _), ?_⟩ | refine ⟨(.inr ⟨by omega, by omega⟩ : CMul _ _), ?_⟩ | refine Or.inl ⟨_, rfl, ?_⟩ | refine Or.inr ⟨_, rfl, ?_⟩ | refine ⟨_, _, _, _, true, rfl, .ty _, .base (.str _), kit_ty (by decide +kernel), ?_⟩ | refine ⟨_, _, rfl, ⟨by rw [sizeLine_eq]; omega, rfl⟩, ?_⟩ | refine ⟨_, _, rfl, .inl ⟨_, SqL.of (by assumption), rfl⟩, ?_⟩ | refine ⟨_, _, rfl, .inr ⟨_, SqT.of (by assumption), rfl⟩, ?_⟩))
      refine ite2 (fun c3 => ?_) (fun c3 => ?_)
      · (repeat (first | refine ⟨_, rfl, ?_⟩ | refine ⟨rfl, ?_⟩ | refine ⟨_, _, rfl, rfl, ?_⟩ | refine iteT ?_ | refine iteF ?_ | refine ⟨(by show (0 : Int) < _; omega), ?_⟩ | refine ⟨(⟨by omega, by omega⟩ : CDiv _ _), ?_⟩ | refine ⟨(⟨by decide, by decide, by decide⟩ : CPow _ _), ?_⟩ | refine ⟨(.inl ⟨by omega, by omega⟩ : CMul _ _), ?_⟩ | refine ⟨(.inr ⟨by omega, by omega⟩ : CMul _ _), ?_⟩ | refine Or.inl ⟨_, rfl, ?_⟩ | refine Or.inr ⟨_, rfl, ?_⟩ | refine ⟨_, _, _, _, true, rfl, .ty _, .base (.str _), kit_ty (by decide +kernel), ?_⟩ | refine ⟨_, _, rfl, ⟨by rw [sizeLine_eq]; omega, rfl⟩, ?_⟩ | refine ⟨_, _, rfl, .inl ⟨_, SqL.of (by assumption), rfl⟩, ?_⟩ | refine ⟨_, _, rfl, .inr ⟨_, SqT.of (by assumption), rfl⟩, ?_⟩))
        refine ⟨by omega, by omega, (by decide +kernel), ?_⟩
        refine ⟨(by show 7 ≤ sizeLine; rw [sizeLine_eq]; omega), fun z nz => ?_⟩
        have nz0 := k56.free hS nz
        have kz := k56.put (o := .lst [V.str "", V.str "A", V.str "a1", V.str "a b", V.str "toolongna", V.str (Txt.mul (Str.ofString "z") 9), V.str "zz-"]) hS nz0
        have zf : f ≠ z := fun e => by rw [← e, hf6] at nz; cases nz
        have zb : b ≠ z := fun e => by rw [← e, hb6] at nz; cases nz
        refine ⟨_, rfl, wl, c, 7, rfl, kz.st hS, by omega, by omega, fun n4 H8 a4 b4 k8 => ?_⟩
        obtain ⟨x, hx, hxn, hxl, hxo⟩ : ∃ x : Str, atI [V.str "", V.str "A", V.str "a1", V.str "a b", V.str "toolongna", V.str (Txt.mul (Str.ofString "z") 9), V.str "zz-"] n4 = some (V.str x) ∧ isNm x = false ∧ x.length ≤ 1000 ∧ PyData.strOk x = true := by
          have : n4 = 0 ∨ n4 = 1 ∨ n4 = 2 ∨ n4 = 3 ∨ n4 = 4 ∨ n4 = 5 ∨ n4 = 6 := by omega
          rcases this with rfl | rfl | rfl | rfl | rfl | rfl | rfl
          all_goals exact ⟨_, rfl, by decide +kernel, by decide +kernel, by decide +kernel⟩
        refine ⟨z, _, n4, _, rfl, rfl, SqL.of (k8.keep _ _ (hS.ne nz0) upd_same), hx, ?_⟩
        have k18 := kz.trans k8
        have hf8 : H8 f = some (.dK kvs) := k8.keep _ _ fw (by rw [upd_ne zf]; exact hf6)
        have hb8 : H8 b = some (.lst (bs.map V.str)) := k8.keep _ _ bw (by rw [upd_ne zb]; exact hb6)
        have hp8 : Paired (RvK K H8) kvs es := Paired.imp (fun _ _ q => ⟨q.1, (q.2.same (Same.new nz)).kp k8 (kz.st hS)⟩) hp6
        refine g_name ?_
        try dsimp only
        refine seq_put ?_
        refine ev_repC (H0 := H8) (.int 0) (fun H Q q => ⟨_, rfl, q⟩) hm0 (by omega) H8 (Same.refl H8) _ fun v H9 s9 hv => ?_
        obtain ⟨q, rfl, nq, hq⟩ := hv
        have hr : RVr K H9 (.ref q) (.row (List.replicate m.toNat (some 0))) := .lst hq (ev_replicate (.int 0) _) (by rw [List.length_replicate]; omega) (isSt_len (by rw [List.length_replicate]; omega))
        have hf9 := s9 _ _ hf8
        have hb9 := s9 _ _ hb8
        have hp9 : Paired (RvK K H9) kvs es := Paired.imp (fun _ _ q => ⟨q.1, q.2.same s9⟩) hp8
        have hxk : x ∉ es.map (·.1) := fun h => by
          rw [hke] at h
          obtain ⟨r, hr, e⟩ := List.mem_map.mp h
          have := hnm r hr
          rw [e, hxn] at this
          cases this
        refine ⟨_, rfl, _, rfl, f, _, rfl, DPut.k (k := .inr x) hf9 (small1000 (by rw [hp9.length]; omega)), ?_⟩
        have hb10 : upd H9 f (.dK (putK kvs (.inr x) (.ref q))) b = some (.lst (bs.map V.str)) := by rw [upd_ne bf]; exact hb9
        have hf10 := upd_same (H := H9) (a := f) (o := .dK (putK kvs (.inr x) (.ref q)))
        have hp10 : Paired (RvK K (upd H9 f (.dK (putK kvs (.inr x) (.ref q))))) (putK kvs (.inr x) (.ref q)) (putR es x (.row (List.replicate m.toNat (some 0)))) := Paired.imp (fun _ _ q => ⟨q.1, q.2.dk hf9⟩) (rv_put hr hp9)
        have hnb10 : ∀ kv ∈ putK kvs (.inr x) (.ref q), kv.2 ≠ .ref b := fun kv h => by
          rcases mem_putK h with h | h
          · exact hnb kv h
          · rw [h]
            exact fun e => by
              cases e
              rw [hb8] at nq
              cases nq
        have k10 : KpS wl c H (upd H9 f (.dK (putK kvs (.inr x) (.ref q)))) := (k18.trans (KpS.same s9)).put hS nf0
        generalize upd H9 f (.dK (putK kvs (.inr x) (.ref q))) = H10 at *
        refine ⟨_, rfl, .inl ⟨rfl, _, SqL.of hb10⟩, _, rfl, b, _, _, rfl, rfl, hb10, small1000 (by rw [List.length_map]; omega), ?_⟩
        have kG := k10.put (o := .lst (bs.map V.str ++ [V.str x])) hS nb0
        have hb6 : upd H10 b (.lst (bs.map V.str ++ [V.str x])) b = some (.lst ((bs ++ [x]).map V.str)) := by rw [upd_same, List.map_append]; rfl
        have hf6 : upd H10 b (.lst (bs.map V.str ++ [V.str x])) f = some (.dK (putK kvs (.inr x) (.ref q))) := by rw [upd_ne bf.symm]; exact hf10
        have hp6 : Paired (RvK K (upd H10 b (.lst (bs.map V.str ++ [V.str x])))) (putK kvs (.inr x) (.ref q)) (putR es x (.row (List.replicate m.toNat (some 0)))) := paired_mem hp10 fun y hy u q => ⟨q.1, q.2.chg hb10 (hnb10 y hy)⟩
        have hke2 : (putR es x (.row (List.replicate m.toNat (some 0)))).map (·.1) = es.map (·.1) ++ [x] := by rw [putR_keys, if_neg hxk]
        have B : Bads two m.toNat (putR es x (.row (List.replicate m.toNat (some 0)))) (bs ++ [x]) := by
          refine ⟨putR_nodup B0.nd, fun n hn => ?_, fun n hn hnb => ?_, fun n hn => ?_⟩
          · rw [hke2]
            rcases List.mem_append.mp hn with h | h
            · exact List.mem_append_left _ (B0.sub n h)
            · exact List.mem_append_right _ h
          · have hnx : n ≠ x := fun e => hnb (by rw [e]; simp)
            rw [hke2] at hn
            have hn2 : n ∈ es.map (·.1) := by
              rcases List.mem_append.mp hn with h | h
              · exact h
              · exact absurd (List.mem_singleton.mp h) hnx
            obtain ⟨q1, r, e1, e2⟩ := B0.good n hn2 fun h => hnb (List.mem_append_left _ h)
            exact ⟨q1, r, by rw [lkR_put, if_neg hnx]; exact e1, e2⟩
          · by_cases e : n = x
            · subst e
              refine .inl ⟨hxn, _, by rw [lkR_put, if_pos rfl], ?_⟩
              show (List.replicate m.toNat (some (0 : Int))).length = m.toNat
              rw [List.length_replicate]
            · have hn2 : n ∈ bs := by
                rcases List.mem_append.mp hn with h | h
                · exact h
                · exact absurd (List.mem_singleton.mp h) e
              obtain ⟨q1, q2, r1, e1, e2⟩ := hbd n hn2
              refine .inr ⟨⟨r0.1, by rw [hke2, hke]; exact List.mem_append_left _ hh, fun h => ?_, hle n q1⟩, r1, by rw [lkR_put, if_neg e]; exact e1, e2⟩
              rcases List.mem_append.mp h with h | h
              · exact (hbd _ h).2.1 rfl
              · have := List.mem_singleton.mp h
                rw [← this] at hxn
                have h0 := hnm r0 (by rw [ers]; exact List.mem_cons_self)
                rw [h0] at hxn
                cases hxn
        have hez : ∀ e ∈ putR es x (.row (List.replicate m.toNat (some 0))), e.1.length ≤ 1000 := fun e he => by
          have : e.1 ∈ es.map (·.1) ++ [x] := by rw [← hke2]; exact List.mem_map.mpr ⟨e, he, rfl⟩
          rcases List.mem_append.mp this with h | h
          · obtain ⟨e2, h2, h3⟩ := List.mem_map.mp h
            rw [← h3]
            exact hez e2 h2
          · rw [List.mem_singleton.mp h]
            exact hxl
        have hel : (putR es x (.row (List.replicate m.toNat (some 0)))).length ≤ 10 := by
          have := congrArg List.length hke2
          rw [List.length_append, List.length_map, List.length_map] at this
          have h1 : ([x] : List Str).length = 1 := rfl
          omega
        have hbl1 : 1 ≤ (bs ++ [x]).length := by rw [List.length_append]; omega
        have hso6 : ∀ n ∈ bs ++ [x], PyData.strOk n = true := fun n hn => by
          rcases List.mem_append.mp hn with h | h
          · exact hso6 n h
          · rw [List.mem_singleton.mp h]
            exact hxo
        generalize upd H10 b (.lst (bs.map V.str ++ [V.str x])) = G at *
        generalize putR es x (.row (List.replicate m.toNat (some 0))) = es at *
        generalize bs ++ [x] = bs at *
        generalize putK kvs (.inr x) (.ref q) = kvs at *
        (repeat (first | refine ⟨_, rfl, ?_⟩ | refine ⟨rfl, ?_⟩ | refine ⟨_, _, rfl, rfl, ?_⟩ | refine iteT ?_ | refine iteF ?_ | refine ⟨(by show (0 : Int) < _; omega), ?_⟩ | refine ⟨(⟨by omega, by omega⟩ : CDiv _ _), ?_⟩ | refine ⟨(⟨by decide, by decide, by decide⟩ : CPow _ _), ?_⟩ | refine ⟨(.inl ⟨by omega, by omega⟩ : CMul _ _), ?_⟩ | refine ⟨(.inr ⟨by omega, by omega⟩ : CMul _ _), ?_⟩ | refine Or.inl ⟨_, rfl, ?_⟩ | refine Or.inr ⟨_, rfl, ?_⟩ | refine ⟨_, _, _, _, true, rfl, .ty _, .base (.str _), kit_ty (by decide +kernel), ?_⟩ | refine ⟨_, _, rfl, ⟨by rw [sizeLine_eq]; omega, rfl⟩, ?_⟩ | refine ⟨_, _, rfl, .inl ⟨_, SqL.of (by assumption), rfl⟩, ?_⟩ | refine ⟨_, _, rfl, .inr ⟨_, SqT.of (by assumption), rfl⟩, ?_⟩))
        obtain ⟨z, zs, ebs⟩ : ∃ z zs, bs = z :: zs := by
          cases bs with
          | nil => exact absurd hbl1 (by show ¬ 1 ≤ 0; omega)
          | cons z zs => exact ⟨z, zs, rfl⟩
        rw [ebs] at B hb6 hso6
        have hT := B.told
        have hok6 := hso6 _ (leastS_mem zs z)
        refine ⟨f, two, es, rfl, ⟨⟨kvs, hf6, hp6⟩, B.nd⟩, by omega, hez, fun h => absurd h (by omega), fun _ n hn p G1 np sG hp1 => ?_, fun _ hn => by rw [hT] at hn; cases hn⟩
        rw [hT] at hn
        cases hn
        (repeat (first | refine ⟨_, rfl, ?_⟩ | refine ⟨rfl, ?_⟩ | refine ⟨_, _, rfl, rfl, ?_⟩ | refine iteT ?_ | refine iteF ?_ | refine ⟨(by show (0 : Int) < _; omega), ?_⟩ | refine ⟨(⟨by omega, by omega⟩ : CDiv _ _), ?_⟩ | refine ⟨(⟨by decide, by decide, by decide⟩ : CPow _ _), ?_⟩ | refine ⟨(.inl ⟨by omega, by omega⟩ : CMul _ _), ?_⟩ | refine ⟨(.inr ⟨by omega, by omega⟩ : CMul _ _), ?_⟩ | refine Or.inl ⟨_, rfl, ?_⟩ | refine Or.inr ⟨_, rfl, ?_⟩ | refine ⟨_, _, _, _, true, rfl, .ty _, .base (.str _), kit_ty (by decide +kernel), ?_⟩ | refine ⟨_, _, rfl, ⟨by rw [sizeLine_eq]; omega, rfl⟩, ?_⟩ | refine ⟨_, _, rfl, .inl ⟨_, SqL.of (by assumption), rfl⟩, ?_⟩ | refine ⟨_, _, rfl, .inr ⟨_, SqT.of (by assumption), rfl⟩, ?_⟩))
        refine ⟨b, z, zs, rfl, SqL.of (sG _ _ hb6), ?_⟩
        refine ⟨(by show 3 ≤ sizeLine; rw [sizeLine_eq]; omega), fun t nt => ?_⟩
        have sT := Same.new (o := .tup [V.str "rows", V.str (leastS z zs), V.bl true]) nt
        refine ⟨_, _, .tup (SqT.of (sT _ _ hp1)) (.cons (.str _) (.cons (.str _) (.cons (.bl _) .nil))), .tup (SqT.of upd_same) (.cons (.str _) (.cons (.str _) (.cons (.bl _) .nil))), shaped_ssb hok6, shaped_ssb hok6, ?_⟩
        rw [eqv_ssb]
        exact k _ (kG.trans (KpS.same (sG.trans sT)))
      · (repeat (first | refine ⟨_, rfl, ?_⟩ | refine ⟨rfl, ?_⟩ | refine ⟨_, _, rfl, rfl, ?_⟩ | refine iteT ?_ | refine iteF ?_ | refine ⟨(by show (0 : Int) < _; omega), ?_⟩ | refine ⟨(⟨by omega, by omega⟩ : CDiv _ _), ?_⟩ | refine ⟨(⟨by decide, by decide, by decide⟩ : CPow _ _), ?_⟩ | refine ⟨(.inl ⟨by omega, by omega⟩ : CMul _ _), ?_⟩ | refine ⟨(.inr ⟨by omega, by omega⟩ : CMul _ _), ?_⟩ | refine Or.inl ⟨_, rfl, ?_⟩ | refine Or.inr ⟨_, rfl, ?_⟩ | refine ⟨_, _, _, _, true, rfl, .ty _, .base (.str _), kit_ty (by decide +kernel), ?_⟩ | refine ⟨_, _, rfl, ⟨by rw [sizeLine_eq]; omega, rfl⟩, ?_⟩ | refine ⟨_, _, rfl, .inl ⟨_, SqL.of (by assumption), rfl⟩, ?_⟩ | refine ⟨_, _, rfl, .inr ⟨_, SqT.of (by assumption), rfl⟩, ?_⟩))
        have B := B0
        have kG := k56
        obtain ⟨z, zs, ebs⟩ : ∃ z zs, bs = z :: zs := by
          cases bs with
          | nil => exact absurd hbl1 (by show ¬ 1 ≤ 0; omega)
          | cons z zs => exact ⟨z, zs, rfl⟩
        rw [ebs] at B hb6 hso6
        have hT := B.told
        have hok6 := hso6 _ (leastS_mem zs z)
        refine ⟨f, two, es, rfl, ⟨⟨kvs, hf6, hp6⟩, B.nd⟩, by omega, hez, fun h => absurd h (by omega), fun _ n hn p G1 np sG hp1 => ?_, fun _ hn => by rw [hT] at hn; cases hn⟩
        rw [hT] at hn
        cases hn
        (repeat (first | refine ⟨_, rfl, ?_⟩ | refine ⟨rfl, ?_⟩ | refine ⟨_, _, rfl, rfl, ?_⟩ | refine iteT ?_ | refine iteF ?_ | refine ⟨(by show (0 : Int) < _; omega), ?_⟩ | refine ⟨(⟨by omega, by omega⟩ : CDiv _ _), ?_⟩ | refine ⟨(⟨by decide, by decide, by decide⟩ : CPow _ _), ?_⟩ | refine ⟨(.inl ⟨by omega, by omega⟩ : CMul _ _), ?_⟩ | refine ⟨(.inr ⟨by omega, by omega⟩ : CMul _ _), ?_⟩ | refine Or.inl ⟨_, rfl, ?_⟩ | refine Or.inr ⟨_, rfl, ?_⟩ | refine ⟨_, _, _, _, true, rfl, .ty _, .base (.str _), kit_ty (by decide +kernel), ?_⟩ | refine ⟨_, _, rfl, ⟨by rw [sizeLine_eq]; omega, rfl⟩, ?_⟩ | refine ⟨_, _, rfl, .inl ⟨_, SqL.of (by assumption), rfl⟩, ?_⟩ | refine ⟨_, _, rfl, .inr ⟨_, SqT.of (by assumption), rfl⟩, ?_⟩))
        refine ⟨b, z, zs, rfl, SqL.of (sG _ _ hb6), ?_⟩
        refine ⟨(by show 3 ≤ sizeLine; rw [sizeLine_eq]; omega), fun t nt => ?_⟩
        have sT := Same.new (o := .tup [V.str "rows", V.str (leastS z zs), V.bl true]) nt
        refine ⟨_, _, .tup (SqT.of (sT _ _ hp1)) (.cons (.str _) (.cons (.str _) (.cons (.bl _) .nil))), .tup (SqT.of upd_same) (.cons (.str _) (.cons (.str _) (.cons (.bl _) .nil))), shaped_ssb hok6, shaped_ssb hok6, ?_⟩
        rw [eqv_ssb]
        exact k _ (kG.trans (KpS.same (sG.trans sT)))
end
end BF43
set_option Elab.async false
set_option linter.all false
set_option maxRecDepth 100000
set_option maxHeartbeats 1000000
namespace BF43
open BF
open PySem PySem.Spec PyProof.Rows L2
open C8 (Cal CalAt Met Mak cal0 met0 mak0 fn0 pe_c pe_mk pe_mt pe_mt0 pe_gc fnScope fnBody fnArgs fnScope_by)
open SX
section
variable {P : Program} {w : World} {K : PySem.W.Frag} {mg : Str → Option Value} {base : Heap} {A : Ad}
theorem nm_len {x : Str} (h : isNm x = true) : x.length ≤ 1000 := by
  unfold isNm at h
  simp only [Bool.and_eq_true, decide_eq_true_eq] at h
  omega
/-- right rows are made -/
theorem mk_rows {H : Hp} {d : Addr} {rs : List BF.Row} {N : Addr → Prop} {two : Bool} {m : Nat} (hD : RowsD N H d rs) (nd : (rs.map (·.1)).Nodup) (nm : ∀ r ∈ rs, isNm r.1 = true) (hl : rs.length ≤ 24) (hw : ∀ r ∈ rs, r.2.length = m) (hm : m ≤ 24) (ht : TwoOk two rs) {R : Addr → Hp → Prop}
    (k : ∀ x H', Same H H' → RowsO A.C_Rows (fun a => H a = none) H' x two (rowsOf (rs.map rvOf)) → R x H') :
    ∀ x dx, H x = none → H dx = none → dx ≠ x → spRI K A ((.ref x :: [.ref d]) ++ [.str (ovS two)]) (upd (upd H dx (.own x)) x (.ins A.C_Rows dx [])) (fun v H2 => v = .non ∧ R x H2) (fun _ _ _ => False) := by
  intro x dx nx ndx ne
  have s1 : Same H (upd (upd H dx (.own x)) x (.ins A.C_Rows dx [])) := fun b o e => by
    rw [upd_ne (ne_of_none e nx), upd_ne (ne_of_none e ndx)]
    exact e
  have hb := bad_none (two := two) nd nm hm hw ht
  have hll : (rs.map rvOf).length = rs.length := List.length_map _
  refine ⟨x, dx, d, two, rs.map rvOf, rfl, upd_same, (hD.rv nd fun r hr => by rw [hw r hr]; omega).same s1, by omega, fun e he => ?_, fun h => absurd h (by omega), (fun _ n hn => by rw [hb] at hn; cases hn), fun _ _ H' f hR => ⟨rfl, k x H' (fun b o e => f b o (ne_of_none e nx) (s1 _ _ e)) (hR.wk fun a ha => ?_)⟩⟩
  · obtain ⟨r, hr, rfl⟩ := List.mem_map.mp he
    exact nm_len (nm r hr)
  · rcases ha with rfl | ha
    · exact nx
    · by_cases e1 : a = x
      · rw [e1]
        exact nx
      · rw [upd_ne e1] at ha
        by_cases e2 : a = dx
        · rw [e2]
          exact ndx
        · rw [upd_ne e2] at ha
          exact ha
/-- dict(pairs) -/
theorem dict_of (K : PySem.W.Frag) {H : Hp} {qs : List Addr} {rs : List BF.Row} {N : Addr → Prop} (p : Paired (PTR N H) qs rs) (nd : (rs.map (·.1)).Nodup) :
    ∃ kvs : List (Key × V), Paired (fun p kv => SqT K H p [kV kv.1, kv.2]) qs kvs ∧ mergeK [] kvs = kvs ∧ Paired (RowK N H) kvs rs := by
  obtain ⟨kvs, h1, h2⟩ := ptr_kvs (K := K) p
  exact ⟨kvs, h1, mergeR_nd h2 nd, h2⟩
theorem dict_at {H : Hp} {d : Addr} {kvs : List (Key × V)} {rs : List BF.Row} {N : Addr → Prop} (h : Paired (RowK N H) kvs rs) (nd : H d = none) : RowsD (fun a => N a ∨ a = d) (upd H d (.dK kvs)) d rs :=
  ⟨.inr rfl, kvs, upd_same, Paired.imp (fun _ _ ⟨e1, q, e2, nq, e3⟩ => ⟨e1, q, e2, .inl nq, (Same.new nd) _ _ e3⟩) h⟩
theorem names_split {xs : List Str} (h : 2 ≤ xs.length) : ∃ n0 xl nz, xs[0]? = some n0 ∧ xs = xl ++ [nz] ∧ n0 ∈ xs ∧ nz ∈ xs := by
  have hne : xs ≠ [] := fun e => by rw [e] at h; exact absurd h (by decide)
  exact ⟨xs[0]'(by omega), xs.dropLast, xs.getLast hne, List.getElem?_eq_getElem (by omega), (List.dropLast_concat_getLast hne).symm, List.getElem_mem _, List.getLast_mem hne⟩
end
end BF43
set_option Elab.async false
set_option linter.all false
set_option maxRecDepth 100000
set_option maxHeartbeats 1000000
namespace BF43
open BF
open PySem PySem.Spec PyProof.Rows L2
open C8 (Cal CalAt Met Mak cal0 met0 mak0 fn0 pe_c pe_mk pe_mt pe_mt0 pe_gc fnScope fnBody fnArgs fnScope_by)
open SX
section
variable {P : Program} {w : World} {K : PySem.W.Frag} {mg : Str → Option Value} {base : Heap} {A : Ad}
def spLaw (K : PySem.W.Frag) : Sp := fun vs H Q _ => ∃ (a : Addr) (ns : List Int), vs = [.ref a] ∧ SqL K H a (ns.map V.int) ∧ ns.length ≤ 63 ∧ ∀ H', Q (.bl true) H'
theorem ok_law (T : Txt K mg A) : FnOk P w K mg base C8.CX0 8 A.f_law A.fd_law ["script"] (spLaw K) := by
  refine C8.fn0 T.d_law.fn sc_law (fun vs H Q E h => ?_) (fun cdv B outer s H vs Q E hr h => ?_)
  · obtain ⟨a, ns, rfl, _⟩ := h
    rfl
  · obtain ⟨sc, ns, rfl, ha, hn, k⟩ := h
    refine ⟨_, (pss_cons (ps_set (i := 1) sc_law.nd rfl (by first | exact Or.inl rfl | exact Or.inr rfl) (pe_c (cal_law_state T) hr (by decide) rfl (pa_cons (pv 0) pa_nil)))
 (pss_cons (ps_for PassesOwn.never rfl (pi_range1 (by rfl) T.z_range (pa_cons pe_int pa_nil)) (pg_name (i := 2) sc_law.nd rfl (by first | exact Or.inl rfl | exact Or.inr rfl)) (pss_cons (ps_set (i := 3) sc_law.nd rfl (by first | exact Or.inl rfl | exact Or.inr rfl) (pe_c (cal_law_field T) hr (by decide) rfl (pa_cons (pv 1) pa_nil)))
 (pss_cons (ps_set (i := 4) sc_law.nd rfl (by first | exact Or.inl rfl | exact Or.inr rfl) (pe_c (cal_law_names T) hr (by decide) rfl (pa_cons (pv 1) (pa_cons (pe_op op_add pe_int (pe_c (cal_law_draw T) hr (by decide) rfl (pa_cons (pv 1) (pa_cons pe_int pa_nil)))) pa_nil))))
 (pss_cons (ps_set (i := 5) sc_law.nd rfl (by first | exact Or.inl rfl | exact Or.inr rfl) (pe_c (cal_law_draw T) hr (by decide) rfl (pa_cons (pv 1) (pa_cons pe_int pa_nil))))
 (pss_cons (ps_set (i := 6) sc_law.nd rfl (by first | exact Or.inl rfl | exact Or.inr rfl) (pe_c (cal_law_rows T) hr (by decide) rfl (pa_cons (pv 1) (pa_cons (pv 4) (pa_cons (pv 5) (pa_cons (pv 3) pa_nil))))))
 (pss_cons (ps_set (i := 7) sc_law.nd rfl (by first | exact Or.inl rfl | exact Or.inr rfl) (pe_callTy (dictPK K rfl) (by rfl) T.z_dict (by decide +kernel) (pa_cons (pe_lc (own := [("thing", 18)]) (g := gName 18) rfl sc_law.nd (pi_list (pv 4)) (blkOk_by (own := [("thing", 18)]) (N := N_law) (sc := fnScope s_law) (by decide +kernel)) (fun _ _ _ _ _ => (pg_name (i := 18) sc_law.nd rfl (by first | exact Or.inl rfl | exact Or.inr rfl))) (fun _ _ _ _ _ => pts_nil) (fun _ _ _ _ _ => (pe_tup (pa_cons (pv 18) (pa_cons (pe_callTy (listK K) (by rfl) T.z_list (by decide +kernel) (pa_cons (pe_dget (hu_of hr) (pv 6) (pv 18) (fun _ _ => rfl)) pa_nil)) pa_nil))))) pa_nil)))
 (pss_cons (ps_set (i := 8) sc_law.nd rfl (by first | exact Or.inl rfl | exact Or.inr rfl) (by exact (pe_mkKN (mak_Rows T) hr (by decide) (pa_cons (pv 7) pa_nil) (pk_cons (pv 3) pk_nil))))
 (pss_cons (ps_expr (pe_bm PySem.F.plainAttrs_list PySem.F.slot_list_append PySem.F.type_list_append mt_append (pe_dget (hu_of hr) (pv 7) (pe_ix (ixLK K) (pv 4) pe_int (fun _ _ => rfl)) (fun _ _ => rfl)) (pa_cons pe_int pa_nil)))
 (pss_cons (ps_expr (pe_dpop1 (pv 7) (pe_ix (ixLK K) (pv 4) (pe_un un_neg pe_int) (fun _ _ => rfl)) (by exact ⟨rfl, rfl, rfl, rfl⟩)))
 (pss_cons (ps_for PassesOwn.never rfl (pi_range1 (by rfl) T.z_range (pa_cons pe_int pa_nil)) (pg_name (i := 9) sc_law.nd rfl (by first | exact Or.inl rfl | exact Or.inr rfl)) (pss_cons (ps_if (PW.pt (pw_or (pt_cmpR (neDK K hr) (pe_mt0 (met_Rows_things T) hr (by decide) (pv 8)) (pv 4) (nomark _)) (pw_or (pt_cmpR (neDDK K hr) (pe_mt0 (met_Rows_rows T) hr (by decide) (pv 8)) (pv 6) (nomark _)) (pw_or (pt_cmpR op_ne (pe_mt0 (met_Rows_width T) hr (by decide) (pv 8)) (pv 5) (nomark _)) (pw_or1 (pt_cmpR op_ne (pe_mt0 (met_Rows_over T) hr (by decide) (pv 8)) (pv 3) (nomark _))))))) (pss_one (ps_ret pe_bl)) pss_nil)
 (pss_cons (ps_set (i := 10) sc_law.nd rfl (by first | exact Or.inl rfl | exact Or.inr rfl) (pe_mt0 (met_Rows_things T) hr (by decide) (pv 8)))
 (pss_cons (ps_expr (pe_bm0 PySem.F.plainAttrs_list PySem.F.slot_list_clear PySem.F.type_list_clear mt_clear (pv 10)))
 (pss_cons (ps_set (i := 10) sc_law.nd rfl (by first | exact Or.inl rfl | exact Or.inr rfl) (pe_mt0 (met_Rows_rows T) hr (by decide) (pv 8)))
 (pss_cons (ps_expr (pe_bm PySem.F.plainAttrs_list PySem.F.slot_list_append PySem.F.type_list_append mt_append (pe_dget (hu_of hr) (pv 10) (pe_ix (ixLK K) (pv 4) pe_int (fun _ _ => rfl)) (fun _ _ => rfl)) (pa_cons pe_int pa_nil)))
 (pss_cons (ps_expr (pe_dpop1 (pv 10) (pe_ix (ixLK K) (pv 4) (pe_un un_neg pe_int) (fun _ _ => rfl)) (by exact ⟨rfl, rfl, rfl, rfl⟩)))
 (pss_cons (ps_set (i := 10) sc_law.nd rfl (by first | exact Or.inl rfl | exact Or.inr rfl) (pe_mtN (met_Rows_row T) hr (by decide) (pv 8) (pa_cons (pe_ix (ixLK K) (pv 4) pe_int (fun _ _ => rfl)) pa_nil)))
 (pss_cons (ps_expr (pe_bm PySem.F.plainAttrs_list PySem.F.slot_list_append PySem.F.type_list_append mt_append (pv 10) (pa_cons pe_int pa_nil)))
 (pss_one (ps_if (pt_cmpR (neDK K hr) (pe_lc (own := [("thing", 18)]) (g := gName 18) rfl sc_law.nd (pi_list (pv 4)) (blkOk_by (own := [("thing", 18)]) (N := N_law) (sc := fnScope s_law) (by decide +kernel)) (fun _ _ _ _ _ => (pg_name (i := 18) sc_law.nd rfl (by first | exact Or.inl rfl | exact Or.inr rfl))) (fun _ _ _ _ _ => pts_nil) (fun _ _ _ _ _ => (pe_mtN (met_Rows_row T) hr (by decide) (pv 8) (pa_cons (pv 18) pa_nil)))) (pe_lc (own := [("thing", 18)]) (g := gName 18) rfl sc_law.nd (pi_list (pv 4)) (blkOk_by (own := [("thing", 18)]) (N := N_law) (sc := fnScope s_law) (by decide +kernel)) (fun _ _ _ _ _ => (pg_name (i := 18) sc_law.nd rfl (by first | exact Or.inl rfl | exact Or.inr rfl))) (fun _ _ _ _ _ => pts_nil) (fun _ _ _ _ _ => (pe_dget (hu_of hr) (pv 6) (pv 18) (fun _ _ => rfl)))) (nomark _)) (pss_one (ps_ret pe_bl)) pss_nil)))))))))))
 (pss_cons (ps_set (i := 11) sc_law.nd rfl (by first | exact Or.inl rfl | exact Or.inr rfl) (by exact (pe_mkKN (mak_Rows T) hr (by decide) (pa_cons (pe_callTy (dictPK K rfl) (by rfl) T.z_dict (by decide +kernel) (pa_cons (pe_lc (own := [("thing", 18)]) (g := gName 18) rfl sc_law.nd (pi_list (pe_revL (pv 4))) (blkOk_by (own := [("thing", 18)]) (N := N_law) (sc := fnScope s_law) (by decide +kernel)) (fun _ _ _ _ _ => (pg_name (i := 18) sc_law.nd rfl (by first | exact Or.inl rfl | exact Or.inr rfl))) (fun _ _ _ _ _ => pts_nil) (fun _ _ _ _ _ => (pe_tup (pa_cons (pv 18) (pa_cons (pe_callTy (listK K) (by rfl) T.z_list (by decide +kernel) (pa_cons (pe_dget (hu_of hr) (pv 6) (pv 18) (fun _ _ => rfl)) pa_nil)) pa_nil))))) pa_nil)) pa_nil) (pk_cons (pv 3) pk_nil))))
 (pss_cons (ps_set (i := 12) sc_law.nd rfl (by first | exact Or.inl rfl | exact Or.inr rfl) (by exact (pe_mkKN (mak_Rows T) hr (by decide) (pa_cons (pe_callTy (dictPK K rfl) (by rfl) T.z_dict (by decide +kernel) (pa_cons (pe_lc (own := [("thing", 18)]) (g := gName 18) rfl sc_law.nd (pi_list (pe_slice (slLK K) (pv 4) (po_some pe_int) po_none)) (blkOk_by (own := [("thing", 18)]) (N := N_law) (sc := fnScope s_law) (by decide +kernel)) (fun _ _ _ _ _ => (pg_name (i := 18) sc_law.nd rfl (by first | exact Or.inl rfl | exact Or.inr rfl))) (fun _ _ _ _ _ => pts_nil) (fun _ _ _ _ _ => (pe_tup (pa_cons (pv 18) (pa_cons (pe_dget (hu_of hr) (pv 6) (pv 18) (fun _ _ => rfl)) pa_nil))))) pa_nil)) pa_nil) (pk_cons (pv 3) pk_nil))))
 (pss_cons (ps_if (PW.pt (pw_or (pt_not (pt_cmpR (op_eq_Rows T hr) (pv 8) (pv 11) (nomark _))) (pw_or (pt_cmpR (op_ne_Rows T hr) (pv 8) (pv 11) (nomark _)) (pw_or (pt_cmpR (op_eq_Rows T hr) (pv 8) (pv 12) (nomark _)) (pw_or (pt_not (pt_cmpR (op_ne_Rows T hr) (pv 8) (pv 12) (nomark _))) (pw_or (pt_cmpR (op_eqX_Rows T hr) (pv 8) (pv 6) (nomark _)) (pw_or1 (pt_cmpR (op_eqX_Rows T hr) (pv 8) pe_int (nomark _))))))))) (pss_one (ps_ret pe_bl)) pss_nil)
 (pss_cons (ps_if (PW.pt (pw_and (pt_cmpR op_eq (pv 3) pe_str (nomark _)) (pw_and1 (pt_cmpR (op_eq_Rows T hr) (pv 8) (by exact (pe_mkKN (mak_Rows T) hr (by decide) (pa_cons (pv 6) pa_nil) (pk_cons pe_str pk_nil))) (nomark _))))) (pss_one (ps_ret pe_bl)) pss_nil)
 (pss_cons (ps_for PassesOwn.never rfl (pi_list (pe_lst (pa_cons pe_str (pa_cons pe_str (pa_cons pe_str (pa_cons (pe_op op_add_str (pe_ix (ixLK K) (pv 4) pe_int (fun _ _ => rfl)) pe_str) pa_nil)))))) (pg_name (i := 13) sc_law.nd rfl (by first | exact Or.inl rfl | exact Or.inr rfl)) (pss_cons (ps_set (i := 10) sc_law.nd rfl (by first | exact Or.inl rfl | exact Or.inr rfl) pe_non)
 (pss_cons (ps_try_manyA sc_law.nd rfl rfl takes0 (fun W pn xe tk _ => (pss_one (ps_expr (by exact (pe_mtS (met_Rows_row (K := K) T) hr (by decide) (fun σ => passAt tk σ) (pv 8) (pa_cons (pv 13) pa_nil))))))
  (HdsA.cons (i := 14) rfl rfl ⟨rfl, by decide, Or.inl T.gC_NoThing⟩ (fun a oe cls d pn hz hf => (pss_one (ps_set (i := 10) sc_law.nd rfl (by first | exact Or.inl rfl | exact Or.inr rfl) (pe_xf T.xf_NoThing T.nx_NoThing_thing hz hf (pv 14)))))
  HdsA.nil))
 (pss_one (ps_if (pt_cmpR op_ne (pv 10) (pv 13) (nomark _)) (pss_one (ps_ret pe_bl)) pss_nil)))))
 (pss_one (ps_if (pt_not (pt_val (pe_c (cal_law_refused T) hr (by decide) rfl (pa_cons (pv 1) (pa_cons (pv 6) (pa_cons (pv 5) (pa_cons (pv 3) pa_nil))))))) (pss_one (ps_ret pe_bl)) pss_nil)))))))))))))))))
 (pss_cons (ps_set (i := 15) sc_law.nd rfl (by first | exact Or.inl rfl | exact Or.inr rfl) (pe_op op_add pe_int (pe_c (cal_law_draw T) hr (by decide) rfl (pa_cons (pv 1) (pa_cons pe_int pa_nil)))))
 (pss_cons (ps_set (i := 16) sc_law.nd rfl (by first | exact Or.inl rfl | exact Or.inr rfl) (pe_callTy (dictPK K rfl) (by rfl) T.z_dict (by decide +kernel) (pa_cons (pe_lc (own := [("k", 9)]) (g := gName 9) rfl sc_law.nd (pi_range1 (by rfl) T.z_range (pa_cons (pv 15) pa_nil)) (blkOk_by (own := [("k", 9)]) (N := N_law) (sc := fnScope s_law) (by decide +kernel)) (fun _ _ _ _ _ => (pg_name (i := 9) sc_law.nd rfl (by first | exact Or.inl rfl | exact Or.inr rfl))) (fun _ _ _ _ _ => pts_nil) (fun _ _ _ _ _ => (pe_tup (pa_cons (pe_ix ix_str pe_str (pv 9) (fun _ _ => rfl)) (pa_cons (pe_op op_rep (pe_lst (pa_cons pe_int pa_nil)) pe_int) pa_nil))))) pa_nil)))
 (pss_cons (ps_set (i := 10) sc_law.nd rfl (by first | exact Or.inl rfl | exact Or.inr rfl) (pe_c (cal_law_told T) hr (by decide) rfl (pa_cons (pv 16) (pa_cons pe_str pa_nil))))
 (pss_cons (ps_if (pt_cmpR op_gt (pv 15) pe_int (nomark _)) (pss_one (ps_ret (pe_cmpR (eqDK K hr) (pv 10) (pe_tup (pa_cons pe_str (pa_cons pe_int pa_nil))) (nomark _)))) pss_nil)
 (pss_cons (ps_set (i := 17) sc_law.nd rfl (by first | exact Or.inl rfl | exact Or.inr rfl) (by exact (pe_mkKN (mak_Rows T) hr (by decide) (pa_cons pe_dnewK pa_nil) (pk_cons (pe_c (cal_law_field T) hr (by decide) rfl (pa_cons (pv 1) pa_nil)) pk_nil))))
 (pss_one (ps_ret (pe_and (pe_cmpR op_eq (pe_ix (ixTK K) (pv 10) pe_int (fun _ _ => rfl)) pe_str (nomark _)) (pe_and (pe_cmpR op_eq (pe_mt0 (met_Rows_width T) hr (by decide) (pe_ix (ixTK K) (pv 10) pe_int (fun _ _ => rfl))) pe_int (nomark _)) (pe_and (pe_cmpR op_eq (pe_mt0 (met_Rows_width T) hr (by decide) (pv 17)) pe_int (nomark _)) (pe_one (pe_cmpR (eqDK K hr) (pe_mt0 (met_Rows_things T) hr (by decide) (pv 17)) (pe_lst pa_nil) (nomark _))))))))))))))), ?_⟩
    (repeat (first | refine ⟨_, rfl, ?_⟩ | refine ⟨rfl, ?_⟩ | refine ⟨_, _, rfl, rfl, ?_⟩ | refine iteT ?_ | refine iteF ?_ | refine ⟨(by show (0 : Int) < _; omega), ?_⟩ | refine ⟨(⟨by omega, by omega⟩ : CDiv _ _), ?_⟩ | refine ⟨(⟨by decide, by decide, by decide⟩ : CPow _ _), ?_⟩ | refine ⟨(.inl ⟨by omega, by omega⟩ : CMul _ _), ?_⟩ | refine ⟨(.inr ⟨by omega, by omega⟩ : CMul _ _), ?_⟩ | refine Or.inl ⟨_, rfl, ?_⟩ | refine Or.inr ⟨_, rfl, ?_⟩ | refine ⟨_, _, _, _, true, rfl, .ty _, .base (.str _), kit_ty (by decide +kernel), ?_⟩ | refine ⟨_, _, rfl, ⟨by rw [sizeLine_eq]; omega, rfl⟩, ?_⟩ | refine ⟨_, _, rfl, .inl ⟨_, SqL.of (by assumption), rfl⟩, ?_⟩ | refine ⟨_, _, rfl, .inr ⟨_, SqT.of (by assumption), rfl⟩, ?_⟩))
    refine ⟨sc, ns, rfl, ha, hn, fun wl c H1 nw nc s1 hS => ?_⟩
    (repeat (first | refine ⟨_, rfl, ?_⟩ | refine ⟨rfl, ?_⟩ | refine ⟨_, _, rfl, rfl, ?_⟩ | refine iteT ?_ | refine iteF ?_ | refine ⟨(by show (0 : Int) < _; omega), ?_⟩ | refine ⟨(⟨by omega, by omega⟩ : CDiv _ _), ?_⟩ | refine ⟨(⟨by decide, by decide, by decide⟩ : CPow _ _), ?_⟩ | refine ⟨(.inl ⟨by omega, by omega⟩ : CMul _ _), ?_⟩ | refine ⟨(.inr ⟨by omega, by omega⟩ : CMul _ _), ?_⟩ | refine Or.inl ⟨_, rfl, ?_⟩ | refine Or.inr ⟨_, rfl, ?_⟩ | refine ⟨_, _, _, _, true, rfl, .ty _, .base (.str _), kit_ty (by decide +kernel), ?_⟩ | refine ⟨_, _, rfl, ⟨by rw [sizeLine_eq]; omega, rfl⟩, ?_⟩ | refine ⟨_, _, rfl, .inl ⟨_, SqL.of (by assumption), rfl⟩, ?_⟩ | refine ⟨_, _, rfl, .inr ⟨_, SqT.of (by assumption), rfl⟩, ?_⟩))
    refine ⟨by omega, by omega, for_it walk_range (fun i σ H' => ∃ (v2 v3 v4 v5 v6 v7 v8 v9 v10 v11 v12 v13 v14 v15 v16 v17 v18 : Option V), σ = [some (.ref sc), some (.ref wl), v2, v3, v4, v5, v6, v7, v8, v9, v10, v11, v12, v13, v14, v15, v16, v17, v18] ∧ StAt H' wl c)
      ⟨_, _, _, _, _, _, _, _, _, _, _, _, _, _, _, _, _, rfl, hS⟩ (fun _ _ _ _ _ => True.intro) ?_ ?_⟩
    · rintro i v σ H2 H3 hi ⟨v2, v3, v4, v5, v6, v7, v8, v9, v10, v11, v12, v13, v14, v15, v16, v17, v18, rfl, hS⟩ ⟨rfl, rfl⟩
      refine g_name ?_
      try dsimp only
      refine seq_asg ?_
      refine ⟨_, rfl, wl, c, rfl, hS, fun two H4 k4 => ?_⟩
      have hS4 := k4.st hS
      refine g_name ?_
      try dsimp only
      refine seq_asg ?_
      refine ⟨_, rfl, _, rfl, wl, c, 4, rfl, hS4, by omega, by omega, fun n5 H5 a5 b5 k5 => ?_⟩
      have hS5 := k5.st hS4
      refine ⟨_, _, rfl, rfl, ?_⟩
      refine ⟨wl, c, 2 + n5, rfl, hS5, by omega, by omega, fun tl xs H6 ntl k6 htl hxl hxn hxs hxk => ?_⟩
      have hS6 := k6.st hS5
      refine g_name ?_
      try dsimp only
      refine seq_asg ?_
      refine ⟨_, rfl, wl, c, 5, rfl, hS6, by omega, by omega, fun m H7 a7 b7 k7 => ?_⟩
      have hS7 := k7.st hS6
      have tlw : tl ≠ wl := hS5.ne ntl
      have htl7 := k7.keep _ _ tlw htl
      refine g_name ?_
      try dsimp only
      refine seq_asg ?_
      refine ⟨_, rfl, _, rfl, _, rfl, _, rfl, wl, c, tl, m, two, xs, rfl, hS7, htl7, hxn, by omega, by omega, by omega, fun rd rs H8 k8 hrd hrk hrw hrt => ?_⟩
      have hS8 := k8.st hS7
      have htl8 := k8.keep _ _ tlw htl7
      have hrl : rs.length = xs.length := by rw [← hrk, List.length_map]
      have ndr : (rs.map (·.1)).Nodup := by rw [hrk]; exact hxn
      have nmr : ∀ r ∈ rs, isNm r.1 = true := fun r hr => (hxk r.1 (by rw [← hrk]; exact List.mem_map.mpr ⟨r, hr, rfl⟩)).1
      have sor : sortS (rs.map (·.1)) = rs.map (·.1) := by rw [hrk]; exact hxs
      have hrw' : ∀ r ∈ rs, r.2.length = m.toNat := fun r hr => by
        have := hrw r hr
        omega
      refine g_name ?_
      try dsimp only
      refine seq_asg ?_
      refine ⟨_, rfl, tl, rfl, ⟨_, SqL.of htl8⟩, copy_lc htl8 hrd ndr (fun n hn => by rw [hrk]; exact hn) (by omega) fun D qs H9 s9 hD9 hP9 => ?_⟩
      rw [← hrk, map_rowAt ndr] at hP9
      obtain ⟨kvs1, q1, q2, q3⟩ := dict_of K hP9 ndr
      refine ⟨D, qs, kvs1, rfl, SqL.of hD9, q1, fun pd npd => ?_⟩
      rw [q2]
      have s10 := Same.new (o := .dK kvs1) npd
      have hpd := dict_at q3 npd
      have hpe := upd_same (H := H9) (a := pd) (o := .dK kvs1)
      have q3 : Paired (RowK (fun a => H8 a = none) (upd H9 pd (.dK kvs1))) kvs1 rs := Paired.imp (fun _ _ ⟨e1, q, e2, nq, e3⟩ => ⟨e1, q, e2, nq, s10 _ _ e3⟩) q3
      generalize upd H9 pd (.dK kvs1) = H10 at *
      refine g_name ?_
      try dsimp only
      refine seq_asg ?_
      refine ⟨_, rfl, _, rfl, rfl, rfl, mk_rows hpd ndr nmr (by omega) hrw' (by omega) hrt fun mx H11 s11 hmx => ?_⟩
      rw [rowsOf_rv ndr sor] at hmx
      refine g_name ?_
      try dsimp only
      obtain ⟨n0, xl, nz, hn0, hnz, hm0, hmz⟩ := names_split (xs := xs) (by omega)
      have ix0 : atI (xs.map V.str) 0 = some (V.str n0) := atI_nat (j := 0) (by rw [List.getElem?_map, hn0]; rfl)
      have ixz : atI (xs.map V.str) (-1) = some (V.str nz) := by
        rw [hnz, List.map_append]
        exact atI_last _ _
      obtain ⟨r0, hr0, er0⟩ : ∃ r ∈ rs, r.1 = n0 := by
        rw [← hrk] at hm0
        obtain ⟨r, h1, h2⟩ := List.mem_map.mp hm0
        exact ⟨r, h1, h2⟩
      obtain ⟨rz, hrz, erz⟩ : ∃ r ∈ rs, r.1 = nz := by
        rw [← hrk] at hmz
        obtain ⟨r, h1, h2⟩ := List.mem_map.mp hmz
        exact ⟨r, h1, h2⟩
      obtain ⟨q0, hv0, nq0, hq0⟩ := rowk_get q3 ndr hr0
      obtain ⟨qz, hvz, _, _⟩ := rowk_get q3 ndr hrz
      rw [er0] at hv0
      rw [erz] at hvz
      have htl11 := s11 _ _ (s10 _ _ (s9 _ _ htl8))
      refine ⟨_, rfl, _, rfl, tl, _, 0, V.str n0, rfl, rfl, SqL.of htl11, ix0, pd, .ref q0, rfl, dget_s (.inl (s11 _ _ hpe)) hv0, .inl ⟨rfl, _, SqL.of (s11 _ _ hq0)⟩, q0, _, _, rfl, rfl, s11 _ _ hq0, small1000 (by rw [List.length_map, hrw' _ hr0]; omega), ?_⟩
      have pq : pd ≠ q0 := fun e => by
        rw [← e] at nq0 hq0
        rw [hpe] at hq0
        cases hq0
      have tq : tl ≠ q0 := fun e => by rw [← e, htl8] at nq0; cases nq0
      have tp : tl ≠ pd := fun e => by rw [← e, s9 _ _ htl8] at npd; cases npd
      have hpd12 : upd H11 q0 (.lst (r0.2.map V.int ++ [V.int 1])) pd = some (.dK kvs1) := by
        rw [upd_ne pq]
        exact s11 _ _ hpe
      refine ⟨_, rfl, pd, rfl, .inl ⟨kvs1, .inl hpd12⟩, _, rfl, 1, rfl, tl, _, -1, V.str nz, rfl, rfl, SqL.of (by rw [upd_ne tq]; exact htl11), ixz, kvs1, .inr nz, _, hpd12, rfl, hvz, ?_⟩
      have fr : ∀ b o, b ≠ q0 → b ≠ pd → H11 b = some o → upd (upd H11 q0 (.lst (r0.2.map V.int ++ [V.int 1]))) pd (.dK (dropK kvs1 (.inr nz))) b = some o := fun b o e1 e2 e => by
        rw [upd_ne e2, upd_ne e1]
        exact e
      generalize upd (upd H11 q0 (.lst (r0.2.map V.int ++ [V.int 1]))) pd (.dK (dropK kvs1 (.inr nz))) = G at *
      have hS9 := hS8.same s9
      have hStG : StAt G wl c := by
        obtain ⟨⟨j, y1, y2, y3, y4, e1⟩, ms, e2, e3⟩ := (hS9.same s10).same s11
        exact ⟨⟨j, y1, y2, y3, y4, fr _ _ (hS8.ne nq0).symm (hS9.ne npd).symm e1⟩, ms, fr _ _ (hS8.nc nq0).symm (hS9.nc npd).symm e2, e3⟩
      have htlG := fr _ _ tq tp htl11
      have hrdG : RowsD (fun a => a ≠ wl) G rd rs := by
        refine (((hrd.live.same ((s9.trans s10).trans s11)).mv fun a o na e => fr a o (fun z => ?_) (fun z => ?_) e).wk fun a na => hS7.ne na.1)
        · rw [z] at na
          exact na.2 nq0
        · rw [z] at na
          cases e8 : H8 pd with
          | none => exact na.2 e8
          | some o8 => rw [s9 _ _ e8] at npd; cases npd
      have hmxG : RowsO A.C_Rows (fun a => a ≠ wl) G mx two rs := by
        refine (hmx.mv fun a o na e => fr a o (fun z => ?_) (fun z => ?_) e).wk fun a na => (hS9.same s10).ne na
        · rw [z, hq0] at na
          cases na
        · rw [z, hpe] at na
          cases na
      clear fr hpd12 hmx hrd hpd hpe q3 hP9 q1 q2 s11 s10 s9 hD9
      obtain ⟨dx, dd, hxG, _⟩ := id hmxG.ex
      have mxw := hmxG.at_
      have tlK : ∀ {H' : Hp}, KpS wl c G H' → H' tl = some (.lst (xs.map V.str)) := fun k => k.keep _ _ tlw htlG
      have rdK : ∀ {H' : Hp}, KpS wl c G H' → RowsD (fun a => a ≠ wl) H' rd rs := fun k => hrdG.mv fun a o na e => k.keep a o na e
      have mxK : ∀ {H' : Hp}, KpS wl c G H' → RowsO A.C_Rows (fun a => a ≠ wl) H' mx two rs := fun k => hmxG.mv fun a o na e => k.keep a o na e
      have hxK : ∀ {H' : Hp}, KpS wl c G H' → H' mx = some (.ins A.C_Rows dx (rwf dd two)) := fun k => k.keep _ _ mxw hxG
      have okx : ∀ x ∈ xs, PyData.strOk x = true := fun x hx => isNm_ok (hxk x hx).1
      have hr0n : rs.length ≠ 0 := by omega
      have wdt : (if rs.length = 0 then (0 : Int) else ((m.toNat : Nat) : Int)) = m := by
        rw [if_neg hr0n]
        omega
      refine ⟨2, rfl, by omega, by omega, for_it walk_range (fun j σ H' => ∃ (v9 v10 : Option V), σ = [some (.ref sc), some (.ref wl), some (.int (0 + (i : Nat))), some (.str (ovS two)), some (.ref tl), some (.int m), some (.ref rd), some (.ref pd), some (.ref mx), v9, v10, v11, v12, v13, v14, v15, v16, v17, v18] ∧ KpS wl c G H')
        ⟨_, _, rfl, KpS.refl wl c G⟩ (fun _ _ _ _ _ => True.intro) ?_ ?_⟩
      · rintro j v σ G1 G2 hj ⟨v9, v10, rfl, kk⟩ ⟨rfl, rfl⟩
        (repeat (first | refine ⟨_, rfl, ?_⟩ | refine ⟨rfl, ?_⟩ | refine ⟨_, _, rfl, rfl, ?_⟩ | refine iteT ?_ | refine iteF ?_ | refine ⟨(by show (0 : Int) < _; omega), ?_⟩ | refine ⟨(⟨by omega, by omega⟩ : CDiv _ _), ?_⟩ | refine ⟨(⟨by decide, by decide, by decide⟩ : CPow _ _), ?_⟩ | refine ⟨(.inl ⟨by omega, by omega⟩ : CMul _ _), ?_⟩ | refine ⟨(.inr ⟨by omega, by omega⟩ : CMul _ _), ?_⟩ | refine Or.inl ⟨_, rfl, ?_⟩ | refine Or.inr ⟨_, rfl, ?_⟩ | refine ⟨_, _, _, _, true, rfl, .ty _, .base (.str _), kit_ty (by decide +kernel), ?_⟩ | refine ⟨_, _, rfl, ⟨by rw [sizeLine_eq]; omega, rfl⟩, ?_⟩ | refine ⟨_, _, rfl, .inl ⟨_, SqL.of (by assumption), rfl⟩, ?_⟩ | refine ⟨_, _, rfl, .inr ⟨_, SqT.of (by assumption), rfl⟩, ?_⟩))
        refine ⟨mx, dx, _, rfl, hxK kk, rwf_no _ _ (by decide +kernel) (by decide +kernel), ?_⟩
        refine ⟨mx, two, rs, _, rfl, mxK kk, fun p1 G3 np1 t1 hp1 => ?_⟩
        rw [hrk] at hp1
        have kk3 := kk.trans (KpS.same (w := wl) (c := c) t1)
        refine ⟨_, rfl, _, _, dp_strs hp1, dp_strs (tlK kk3), shaped_strs okx, shaped_strs okx, ?_⟩
        rw [eqv_strs, decide_eq_true rfl]
        (repeat (first | refine ⟨_, rfl, ?_⟩ | refine ⟨rfl, ?_⟩ | refine ⟨_, _, rfl, rfl, ?_⟩ | refine iteT ?_ | refine iteF ?_ | refine ⟨(by show (0 : Int) < _; omega), ?_⟩ | refine ⟨(⟨by omega, by omega⟩ : CDiv _ _), ?_⟩ | refine ⟨(⟨by decide, by decide, by decide⟩ : CPow _ _), ?_⟩ | refine ⟨(.inl ⟨by omega, by omega⟩ : CMul _ _), ?_⟩ | refine ⟨(.inr ⟨by omega, by omega⟩ : CMul _ _), ?_⟩ | refine Or.inl ⟨_, rfl, ?_⟩ | refine Or.inr ⟨_, rfl, ?_⟩ | refine ⟨_, _, _, _, true, rfl, .ty _, .base (.str _), kit_ty (by decide +kernel), ?_⟩ | refine ⟨_, _, rfl, ⟨by rw [sizeLine_eq]; omega, rfl⟩, ?_⟩ | refine ⟨_, _, rfl, .inl ⟨_, SqL.of (by assumption), rfl⟩, ?_⟩ | refine ⟨_, _, rfl, .inr ⟨_, SqT.of (by assumption), rfl⟩, ?_⟩))
        refine ⟨mx, dx, _, rfl, hxK kk3, rwf_no _ _ (by decide +kernel) (by decide +kernel), ?_⟩
        refine ⟨mx, two, rs, _, rfl, mxK kk3, ndr, by omega, fun p2 G4 t2 hp2 => ?_⟩
        have kk4 := kk3.trans (KpS.same (w := wl) (c := c) t2)
        refine ⟨_, rfl, _, _, dkr_of hp2, dkr_of (rdK kk4), ?_⟩
        rw [eqR_mem rfl ndr fun r hr => hr]
        (repeat (first | refine ⟨_, rfl, ?_⟩ | refine ⟨rfl, ?_⟩ | refine ⟨_, _, rfl, rfl, ?_⟩ | refine iteT ?_ | refine iteF ?_ | refine ⟨(by show (0 : Int) < _; omega), ?_⟩ | refine ⟨(⟨by omega, by omega⟩ : CDiv _ _), ?_⟩ | refine ⟨(⟨by decide, by decide, by decide⟩ : CPow _ _), ?_⟩ | refine ⟨(.inl ⟨by omega, by omega⟩ : CMul _ _), ?_⟩ | refine ⟨(.inr ⟨by omega, by omega⟩ : CMul _ _), ?_⟩ | refine Or.inl ⟨_, rfl, ?_⟩ | refine Or.inr ⟨_, rfl, ?_⟩ | refine ⟨_, _, _, _, true, rfl, .ty _, .base (.str _), kit_ty (by decide +kernel), ?_⟩ | refine ⟨_, _, rfl, ⟨by rw [sizeLine_eq]; omega, rfl⟩, ?_⟩ | refine ⟨_, _, rfl, .inl ⟨_, SqL.of (by assumption), rfl⟩, ?_⟩ | refine ⟨_, _, rfl, .inr ⟨_, SqT.of (by assumption), rfl⟩, ?_⟩))
        refine ⟨mx, dx, _, rfl, hxK kk4, rwf_no _ _ (by decide +kernel) (by decide +kernel), ?_⟩
        refine ⟨mx, two, rs, _, m.toNat, rfl, mxK kk4, by omega, hrw', by omega, fun G5 t3 => ?_⟩
        have kk5 := kk4.trans (KpS.same (w := wl) (c := c) t3)
        rw [wdt]
        (repeat (first | refine ⟨_, rfl, ?_⟩ | refine ⟨rfl, ?_⟩ | refine ⟨_, _, rfl, rfl, ?_⟩ | refine iteT ?_ | refine iteF ?_ | refine ⟨(by show (0 : Int) < _; omega), ?_⟩ | refine ⟨(⟨by omega, by omega⟩ : CDiv _ _), ?_⟩ | refine ⟨(⟨by decide, by decide, by decide⟩ : CPow _ _), ?_⟩ | refine ⟨(.inl ⟨by omega, by omega⟩ : CMul _ _), ?_⟩ | refine ⟨(.inr ⟨by omega, by omega⟩ : CMul _ _), ?_⟩ | refine Or.inl ⟨_, rfl, ?_⟩ | refine Or.inr ⟨_, rfl, ?_⟩ | refine ⟨_, _, _, _, true, rfl, .ty _, .base (.str _), kit_ty (by decide +kernel), ?_⟩ | refine ⟨_, _, rfl, ⟨by rw [sizeLine_eq]; omega, rfl⟩, ?_⟩ | refine ⟨_, _, rfl, .inl ⟨_, SqL.of (by assumption), rfl⟩, ?_⟩ | refine ⟨_, _, rfl, .inr ⟨_, SqT.of (by assumption), rfl⟩, ?_⟩))
        refine ite2 (fun hb => absurd hb (by simp)) (fun _ => ?_)
        (repeat (first | refine ⟨_, rfl, ?_⟩ | refine ⟨rfl, ?_⟩ | refine ⟨_, _, rfl, rfl, ?_⟩ | refine iteT ?_ | refine iteF ?_ | refine ⟨(by show (0 : Int) < _; omega), ?_⟩ | refine ⟨(⟨by omega, by omega⟩ : CDiv _ _), ?_⟩ | refine ⟨(⟨by decide, by decide, by decide⟩ : CPow _ _), ?_⟩ | refine ⟨(.inl ⟨by omega, by omega⟩ : CMul _ _), ?_⟩ | refine ⟨(.inr ⟨by omega, by omega⟩ : CMul _ _), ?_⟩ | refine Or.inl ⟨_, rfl, ?_⟩ | refine Or.inr ⟨_, rfl, ?_⟩ | refine ⟨_, _, _, _, true, rfl, .ty _, .base (.str _), kit_ty (by decide +kernel), ?_⟩ | refine ⟨_, _, rfl, ⟨by rw [sizeLine_eq]; omega, rfl⟩, ?_⟩ | refine ⟨_, _, rfl, .inl ⟨_, SqL.of (by assumption), rfl⟩, ?_⟩ | refine ⟨_, _, rfl, .inr ⟨_, SqT.of (by assumption), rfl⟩, ?_⟩))
        refine ⟨mx, dx, _, rfl, hxK kk5, rwf_no _ _ (by decide +kernel) (by decide +kernel), ?_⟩
        refine ⟨mx, two, rs, _, rfl, mxK kk5, ?_⟩
        (repeat (first | refine ⟨_, rfl, ?_⟩ | refine ⟨rfl, ?_⟩ | refine ⟨_, _, rfl, rfl, ?_⟩ | refine iteT ?_ | refine iteF ?_ | refine ⟨(by show (0 : Int) < _; omega), ?_⟩ | refine ⟨(⟨by omega, by omega⟩ : CDiv _ _), ?_⟩ | refine ⟨(⟨by decide, by decide, by decide⟩ : CPow _ _), ?_⟩ | refine ⟨(.inl ⟨by omega, by omega⟩ : CMul _ _), ?_⟩ | refine ⟨(.inr ⟨by omega, by omega⟩ : CMul _ _), ?_⟩ | refine Or.inl ⟨_, rfl, ?_⟩ | refine Or.inr ⟨_, rfl, ?_⟩ | refine ⟨_, _, _, _, true, rfl, .ty _, .base (.str _), kit_ty (by decide +kernel), ?_⟩ | refine ⟨_, _, rfl, ⟨by rw [sizeLine_eq]; omega, rfl⟩, ?_⟩ | refine ⟨_, _, rfl, .inl ⟨_, SqL.of (by assumption), rfl⟩, ?_⟩ | refine ⟨_, _, rfl, .inr ⟨_, SqT.of (by assumption), rfl⟩, ?_⟩))
        refine ite2 (fun hb => absurd hb (by simp)) (fun _ => ?_)
        (repeat (first | refine ⟨_, rfl, ?_⟩ | refine ⟨rfl, ?_⟩ | refine ⟨_, _, rfl, rfl, ?_⟩ | refine iteT ?_ | refine iteF ?_ | refine ⟨(by show (0 : Int) < _; omega), ?_⟩ | refine ⟨(⟨by omega, by omega⟩ : CDiv _ _), ?_⟩ | refine ⟨(⟨by decide, by decide, by decide⟩ : CPow _ _), ?_⟩ | refine ⟨(.inl ⟨by omega, by omega⟩ : CMul _ _), ?_⟩ | refine ⟨(.inr ⟨by omega, by omega⟩ : CMul _ _), ?_⟩ | refine Or.inl ⟨_, rfl, ?_⟩ | refine Or.inr ⟨_, rfl, ?_⟩ | refine ⟨_, _, _, _, true, rfl, .ty _, .base (.str _), kit_ty (by decide +kernel), ?_⟩ | refine ⟨_, _, rfl, ⟨by rw [sizeLine_eq]; omega, rfl⟩, ?_⟩ | refine ⟨_, _, rfl, .inl ⟨_, SqL.of (by assumption), rfl⟩, ?_⟩ | refine ⟨_, _, rfl, .inr ⟨_, SqT.of (by assumption), rfl⟩, ?_⟩))
        refine ⟨mx, dx, _, rfl, hxK kk5, rwf_no _ _ (by decide +kernel) (by decide +kernel), ?_⟩
        refine ⟨mx, two, rs, _, rfl, mxK kk5, fun p6 G6 np6 t6 hp6 => ?_⟩
        have kk6 := kk5.trans (KpS.same (w := wl) (c := c) t6)
        refine g_name ?_
        try dsimp only
        refine ⟨_, rfl, .inl ⟨rfl, _, SqL.of hp6⟩, p6, _, rfl, rfl, hp6, ?_⟩
        have kk7 : KpS wl c G (upd G6 p6 (.lst [])) := kk6.put hStG (kk5.free hStG np6)
        generalize upd G6 p6 (.lst []) = G7 at *
        try dsimp only
        refine seq_asg ?_
        refine ⟨_, rfl, mx, dx, _, rfl, hxK kk7, rwf_no _ _ (by decide +kernel) (by decide +kernel), ?_⟩
        refine ⟨mx, two, rs, _, rfl, mxK kk7, ndr, by omega, fun p8 G8 t8 hp8 => ?_⟩
        have kk8 := kk7.trans (KpS.same (w := wl) (c := c) t8)
        refine g_name ?_
        try dsimp only
        obtain ⟨np8, kv8, he8, hk8⟩ := hp8
        obtain ⟨u0, hu0, nu0, hu1⟩ := rowk_get hk8 ndr hr0
        obtain ⟨uz, huz, _, _⟩ := rowk_get hk8 ndr hrz
        rw [er0] at hu0
        rw [erz] at huz
        refine ⟨_, rfl, _, rfl, tl, _, 0, V.str n0, rfl, rfl, SqL.of (tlK kk8), ix0, p8, .ref u0, rfl, dget_s (.inl he8) hu0, .inl ⟨rfl, _, SqL.of hu1⟩, u0, _, _, rfl, rfl, hu1, small1000 (by rw [List.length_map, hrw' _ hr0]; omega), ?_⟩
        have pu : p8 ≠ u0 := fun e => by rw [← e, he8] at hu1; cases hu1
        have he9 : upd G8 u0 (.lst (r0.2.map V.int ++ [V.int 1])) p8 = some (.dK kv8) := by rw [upd_ne pu]; exact he8
        have kk9 : KpS wl c G (upd G8 u0 (.lst (r0.2.map V.int ++ [V.int 1]))) := kk8.put hStG (kk7.free hStG nu0)
        generalize upd G8 u0 (.lst (r0.2.map V.int ++ [V.int 1])) = G9 at *
        refine ⟨_, rfl, p8, rfl, .inl ⟨kv8, .inl he9⟩, _, rfl, 1, rfl, tl, _, -1, V.str nz, rfl, rfl, SqL.of (tlK kk9), ixz, kv8, .inr nz, _, he9, rfl, huz, ?_⟩
        have kk10 : KpS wl c G (upd G9 p8 (.dK (dropK kv8 (.inr nz)))) := kk9.put hStG (kk7.free hStG np8)
        generalize upd G9 p8 (.dK (dropK kv8 (.inr nz))) = G10 at *
        try dsimp only
        refine seq_asg ?_
        refine ⟨_, rfl, mx, dx, _, rfl, hxK kk10, rwf_no _ _ (by decide +kernel) (by decide +kernel), ?_⟩
        refine ⟨_, rfl, tl, _, 0, V.str n0, rfl, rfl, SqL.of (tlK kk10), ix0, ?_⟩
        have hm0r : n0 ∈ rs.map (·.1) := by rw [hrk]; exact hm0
        refine ⟨mx, n0, two, rs, _, rfl, mxK kk10, ndr, fun r hr er p11 G11 np11 t11 hp11 => ?_, fun hno => absurd hm0r hno⟩
        have kk11 := kk10.trans (KpS.same (w := wl) (c := c) t11)
        refine g_name ?_
        try dsimp only
        refine ⟨_, rfl, .inl ⟨rfl, _, SqL.of hp11⟩, p11, _, _, rfl, rfl, hp11, small1000 (by rw [List.length_map, hrw' _ hr]; omega), ?_⟩
        have kk12 : KpS wl c G (upd G11 p11 (.lst (r.2.map V.int ++ [V.int 1]))) := kk11.put hStG (kk10.free hStG np11)
        generalize upd G11 p11 (.lst (r.2.map V.int ++ [V.int 1])) = G12 at *
        try dsimp only
        refine ⟨_, rfl, tl, rfl, ⟨_, SqL.of (tlK kk12)⟩, fun D1 nD1 => ?_⟩
        have nD1G := kk12.free hStG nD1
        refine lc_it walk_list (fun u H' => ∃ ps : List Addr, KpS wl c G H' ∧ H' D1 = some (.lst (ps.map V.ref)) ∧ Paired (fun p (r : BF.Row) => p ≠ D1 ∧ H' p = some (.lst (r.2.map V.int))) ps (rs.take u))
          ⟨[], kk12.put hStG nD1G, upd_same, .nil⟩ (fun _ H' _ ⟨_, q, _⟩ => SqL.of (tlK q)) ?_ ?_
        · rintro u v F1 F2 hu ⟨ps, ku, hD1, hPs⟩ ⟨rfl, hv⟩
          rw [List.length_map, ← hrl] at hu
          have hru : rs[u]? = some rs[u] := List.getElem?_eq_getElem hu
          have ev : v = V.str rs[u].1 := by
            rw [← hrk, List.getElem?_map, List.getElem?_map, hru] at hv
            exact (Option.some.inj hv).symm
          subst ev
          refine ⟨rfl, ?_⟩
          try dsimp only
          refine ⟨_, rfl, mx, dx, _, rfl, hxK ku, rwf_no _ _ (by decide +kernel) (by decide +kernel), ?_⟩
          have hmu : rs[u].1 ∈ rs.map (·.1) := List.mem_map.mpr ⟨_, List.getElem_mem hu, rfl⟩
          refine ⟨_, rfl, mx, rs[u].1, two, rs, _, rfl, mxK ku, ndr, fun r hr er p F3 np t3 hp => ?_, fun hno => absurd hmu hno⟩
          have hre : r = rs[u] := by
            obtain ⟨y, hy, ey⟩ := List.mem_iff_getElem.mp hr
            have hy1 : y < (rs.map (·.1)).length := by rw [List.length_map]; exact hy
            have hu1 : u < (rs.map (·.1)).length := by rw [List.length_map]; exact hu
            have := (List.getElem_inj ndr (h₀ := hy1) (h₁ := hu1)).mp (by rw [List.getElem_map, List.getElem_map, ey]; exact er)
            subst this
            exact ey.symm
          subst hre
          have plen : ps.length = u := by rw [hPs.length, List.length_take]; omega
          have hD3 := t3 _ _ hD1
          have pD : p ≠ D1 := fun e => by rw [e, hD1] at np; cases np
          refine ⟨_, hD3, small1000 (by rw [List.length_map]; omega), ps ++ [p], (ku.trans (KpS.same t3)).put hStG nD1G, by rw [upd_same, List.map_append]; rfl, ?_⟩
          rw [List.take_succ, hru]
          exact Paired.snoc ⟨pD, by rw [upd_ne pD]; exact hp⟩ (Paired.imp (fun _ _ ⟨e1, e2⟩ => ⟨e1, by rw [upd_ne e1]; exact t3 _ _ e2⟩) hPs)
        · rintro F1 ⟨ps, ku, hD1, hPs⟩
          rw [List.length_map, ← hrl, List.take_of_length_le (Nat.le_refl _)] at hPs
          refine ⟨_, rfl, tl, rfl, ⟨_, SqL.of (tlK ku)⟩, fun D2 nD2 => ?_⟩
          have nD2G := ku.free hStG nD2
          have live : ∀ {b : Addr} {o : HO}, F1 b = some o → b ≠ D2 := fun h e => by rw [e, nD2] at h; cases h
          obtain ⟨_, kvr, hrde, hrdp⟩ := hrdG
          refine lc_it walk_list (fun u H' => ∃ qs : List Addr, Same F1 H' ∧ H' D2 = some (.lst (qs.map V.ref)) ∧ Paired (fun p (r : BF.Row) => p ≠ D2 ∧ H' p = some (.lst (r.2.map V.int))) qs (rs.take u))
            ⟨[], Same.new nD2, upd_same, .nil⟩ (fun _ H' _ ⟨_, q, _⟩ => SqL.of (q _ _ (tlK ku))) ?_ ?_
          · rintro u v F2 F3 hu ⟨qs, su, hD2, hQs⟩ ⟨rfl, hv⟩
            rw [List.length_map, ← hrl] at hu
            have hru : rs[u]? = some rs[u] := List.getElem?_eq_getElem hu
            have ev : v = V.str rs[u].1 := by
              rw [← hrk, List.getElem?_map, List.getElem?_map, hru] at hv
              exact (Option.some.inj hv).symm
            subst ev
            obtain ⟨q, hq1, nq, hq2⟩ := rowk_get hrdp ndr (List.getElem_mem hu)
            have hqF := ku.keep _ _ nq hq2
            have rdw : rd ≠ wl := ‹rd ≠ wl›
            refine ⟨rfl, ?_⟩
            try dsimp only
            refine ⟨_, rfl, _, rfl, rd, .ref q, rfl, dget_s (.inl (su _ _ (ku.keep _ _ rdw hrde))) hq1, ?_⟩
            have qlen : qs.length = u := by rw [hQs.length, List.length_take]; omega
            refine ⟨_, hD2, small1000 (by rw [List.length_map]; omega), qs ++ [q], Same.put su nD2, by rw [upd_same, List.map_append]; rfl, ?_⟩
            rw [List.take_succ, hru]
            exact Paired.snoc ⟨live hqF, by rw [upd_ne (live hqF)]; exact su _ _ hqF⟩ (Paired.imp (fun _ _ ⟨e1, e2⟩ => ⟨e1, by rw [upd_ne e1]; exact e2⟩) hQs)
          · rintro F2 ⟨qs, su, hD2, hQs⟩
            rw [List.length_map, ← hrl, List.take_of_length_le (Nat.le_refl _)] at hQs
            refine ⟨_, _, .lst (SqL.of (su _ _ hD1)) (dp_rows (Paired.imp (fun _ _ ⟨_, e2⟩ => su _ _ e2) hPs)), .lst (SqL.of hD2) (dp_rows (Paired.imp (fun _ _ ⟨_, e2⟩ => e2) hQs)), shaped_rows rs, shaped_rows rs, ?_⟩
            rw [eqv_rows]
            (repeat (first | refine ⟨_, rfl, ?_⟩ | refine ⟨rfl, ?_⟩ | refine ⟨_, _, rfl, rfl, ?_⟩ | refine iteT ?_ | refine iteF ?_ | refine ⟨(by show (0 : Int) < _; omega), ?_⟩ | refine ⟨(⟨by omega, by omega⟩ : CDiv _ _), ?_⟩ | refine ⟨(⟨by decide, by decide, by decide⟩ : CPow _ _), ?_⟩ | refine ⟨(.inl ⟨by omega, by omega⟩ : CMul _ _), ?_⟩ | refine ⟨(.inr ⟨by omega, by omega⟩ : CMul _ _), ?_⟩ | refine Or.inl ⟨_, rfl, ?_⟩ | refine Or.inr ⟨_, rfl, ?_⟩ | refine ⟨_, _, _, _, true, rfl, .ty _, .base (.str _), kit_ty (by decide +kernel), ?_⟩ | refine ⟨_, _, rfl, ⟨by rw [sizeLine_eq]; omega, rfl⟩, ?_⟩ | refine ⟨_, _, rfl, .inl ⟨_, SqL.of (by assumption), rfl⟩, ?_⟩ | refine ⟨_, _, rfl, .inr ⟨_, SqT.of (by assumption), rfl⟩, ?_⟩))
            exact ⟨_, _, rfl, ku.trans (KpS.same su)⟩
      · rintro σ G1 ⟨v9, v10, rfl, kk⟩
        try dsimp only
        have hxr : xs.reverse.map (fun n => ((n, rowAt rs n) : BF.Row)) = rs.reverse := by rw [List.map_reverse, ← hrk, map_rowAt ndr]
        have ndv : (rs.reverse.map (·.1)).Nodup := by
          rw [List.map_reverse]
          exact (List.reverse_perm _).nodup_iff.mpr ndr
        refine seq_asg ?_
        refine ⟨_, rfl, tl, _, rfl, SqL.of (tlK kk), fun rl nrl => ?_⟩
        have e1 : upd G1 rl (.lst (xs.map V.str).reverse) rl = some (.lst (xs.reverse.map V.str)) := by rw [upd_same, List.map_reverse]
        have kk1 := kk.trans (KpS.same (w := wl) (c := c) (Same.new (o := .lst (xs.map V.str).reverse) nrl))
        generalize upd G1 rl (.lst (xs.map V.str).reverse) = G2 at *
        refine ⟨rl, rfl, ⟨_, SqL.of e1⟩, copy_lc e1 (rdK kk1) ndr (fun n hn => by rw [hrk]; exact List.mem_reverse.mp hn) (by rw [List.length_reverse]; omega) fun D qs G3 t3 hD3 hP3 => ?_⟩
        rw [hxr] at hP3
        have kk3 := kk1.trans (KpS.same (w := wl) (c := c) t3)
        obtain ⟨kv3, q1, q2, q3⟩ := dict_of K hP3 ndv
        refine ⟨D, qs, kv3, rfl, SqL.of hD3, q1, fun d3 nd3 => ?_⟩
        rw [q2]
        have hd4 := dict_at q3 nd3
        have kk4 := kk3.trans (KpS.same (w := wl) (c := c) (Same.new (o := .dK kv3) nd3))
        generalize upd G3 d3 (.dK kv3) = G4 at *
        refine ⟨_, rfl, rfl, rfl, mk_rows hd4 ndv (fun r hr => nmr r (List.mem_reverse.mp hr)) (by rw [List.length_reverse]; omega) (fun r hr => hrw' r (List.mem_reverse.mp hr)) (by omega) (fun t r hr => hrt t r (List.mem_reverse.mp hr)) fun ax G5 t5 hax => ?_⟩
        rw [rowsOf_perm (List.reverse_perm rs) ndr sor] at hax
        have kk5 := kk4.trans (KpS.same (w := wl) (c := c) t5)
        refine g_name ?_
        try dsimp only
        refine seq_asg ?_
        have hxd : (xs.drop 1).map (fun n => ((n, rowAt rs n) : BF.Row)) = rs.drop 1 := by rw [List.map_drop, ← hrk, map_rowAt ndr]
        have ndd : ((rs.drop 1).map (·.1)).Nodup := by
          rw [List.map_drop]
          exact (List.drop_sublist 1 _).nodup ndr
        refine ⟨_, rfl, 1, rfl, tl, _, rfl, SqL.of (tlK kk5), fun l6 nl6 => ?_⟩
        rw [cut_one, ← List.map_drop]
        have e6 := upd_same (H := G5) (a := l6) (o := .lst ((xs.drop 1).map V.str))
        have s6 := Same.new (o := .lst ((xs.drop 1).map V.str)) nl6
        generalize upd G5 l6 (.lst ((xs.drop 1).map V.str)) = G6 at *
        have kk6 := kk5.trans (KpS.same (w := wl) (c := c) s6)
        refine ⟨l6, rfl, ⟨_, SqL.of e6⟩, same_lc e6 (rdK kk6) ndr (fun n hn => by rw [hrk]; exact List.mem_of_mem_drop hn) (by rw [List.length_drop]; omega) fun D qs G7 s7 hD7 hP7 => ?_⟩
        rw [hxd] at hP7
        have kk7 := kk6.trans (KpS.same (w := wl) (c := c) s7)
        obtain ⟨kv7, q1, q2, q3⟩ := dict_of K hP7 ndd
        refine ⟨D, qs, kv7, rfl, SqL.of hD7, q1, fun d8 nd8 => ?_⟩
        rw [q2]
        have hd8 := dict_at q3 nd8
        have s8 := Same.new (o := .dK kv7) nd8
        have kk8 := kk7.trans (KpS.same (w := wl) (c := c) s8)
        generalize upd G7 d8 (.dK kv7) = G8 at *
        refine ⟨_, rfl, rfl, rfl, mk_rows hd8 ndd (fun r hr => nmr r (List.mem_of_mem_drop hr)) (by rw [List.length_drop]; omega) (fun r hr => hrw' r (List.mem_of_mem_drop hr)) (by omega) (fun t r hr => hrt t r (List.mem_of_mem_drop hr)) fun lx G9 s9 hlx => ?_⟩
        rw [rowsOf_rv ndd (by rw [List.map_drop]; exact sortS_drop sor 1)] at hlx
        have kk9 := kk8.trans (KpS.same (w := wl) (c := c) s9)
        have hax9 := hax.same (((s6.trans s7).trans s8).trans s9)
        obtain ⟨_, dax, dda, hxA, _⟩ := id hax9
        obtain ⟨_, dlx, ddl, hxL, _⟩ := id hlx
        have lne : rs.length ≠ (rs.drop 1).length := by rw [List.length_drop]; omega
        refine g_name ?_
        try dsimp only
        apply fork (w := wl) (c := c) (G := G)
        rotate_left
        · intro kont
          refine ⟨_, rfl, _, rfl, mx, ax, dx, dax, _, _, rfl, rfl, hxK kk9, hxA, mx, .ref ax, two, rs, _, rfl, mxK kk9, .inl ⟨ax, two, rs, _, rfl, hax9, ndr, fun b _ he => ⟨b, rfl, _, rfl, ?_⟩⟩⟩
          obtain rfl : b = true := by rw [he rfl, decide_eq_true rfl]
          refine ite2 (fun hb => absurd hb (by simp)) (fun _ => ?_)
          refine ⟨_, rfl, _, rfl, mx, ax, dx, dax, _, _, rfl, rfl, hxK kk9, hxA, mx, .ref ax, two, rs, _, rfl, mxK kk9, .inl ⟨ax, two, rs, _, rfl, hax9, ndr, fun b _ he => ⟨b, rfl, _, rfl, ?_⟩⟩⟩
          obtain rfl : b = true := by rw [he rfl, decide_eq_true rfl]
          refine ite2 (fun hb => absurd hb (by simp)) (fun _ => ?_)
          refine ⟨_, rfl, _, rfl, mx, lx, dx, dlx, _, _, rfl, rfl, hxK kk9, hxL, mx, .ref lx, two, rs, _, rfl, mxK kk9, .inl ⟨lx, two, rs.drop 1, _, rfl, hlx, ndd, fun b hl _ => ⟨b, rfl, _, rfl, ?_⟩⟩⟩
          obtain rfl : b = false := hl lne
          refine ite2 (fun hb => absurd hb (by simp)) (fun _ => ?_)
          refine ⟨_, rfl, _, rfl, mx, lx, dx, dlx, _, _, rfl, rfl, hxK kk9, hxL, mx, .ref lx, two, rs, _, rfl, mxK kk9, .inl ⟨lx, two, rs.drop 1, _, rfl, hlx, ndd, fun b hl _ => ⟨b, rfl, _, rfl, ?_⟩⟩⟩
          obtain rfl : b = false := hl lne
          refine ite2 (fun hb => absurd hb (by simp)) (fun _ => ?_)
          obtain ⟨_, kvd, hrdd, _⟩ := id (rdK kk9)
          refine ⟨_, rfl, _, rfl, mx, dx, _, .type "dict", rfl, hxK kk9, .base (.dK hrdd), T.nf_dict_Rows, mx, .ref rd, two, rs, _, rfl, mxK kk9, .inr ⟨.type "dict", .base (.dK hrdd), T.ky_dict_Rows, false, rfl, _, rfl, ?_⟩⟩
          refine ite2 (fun hb => absurd hb (by simp)) (fun _ => ?_)
          refine ⟨_, rfl, mx, dx, _, .type "int", rfl, hxK kk9, .base (.int 5), T.nf_int_Rows, mx, .int 5, two, rs, _, rfl, mxK kk9, .inr ⟨.type "int", .base (.int 5), T.ky_int_Rows, false, rfl, _, rfl, ?_⟩⟩
          refine ite2 (fun hb => absurd hb (by simp)) (fun _ => ?_)
          try dsimp only
          refine ⟨_, rfl, rfl, _, rfl, ?_⟩
          refine ite2 (fun h2 => ?_) (fun _ => ite2 (fun hb => absurd hb (by simp)) (fun _ => kont _ kk9))
          refine ⟨_, rfl, _, rfl, rfl, rfl, mk_rows (two := false) (rdK kk9) ndr nmr (by omega) hrw' (by omega) (fun h => by cases h) fun wx G10 s10 hwx => ?_⟩
          rw [rowsOf_rv ndr sor] at hwx
          have kk10 := kk9.trans (KpS.same (w := wl) (c := c) s10)
          have et : two = true := by
            cases two with
            | true => rfl
            | false => exact absurd h2 (by decide +kernel)
          obtain ⟨_, dwx, ddw, hxW, _⟩ := id hwx
          refine ⟨mx, wx, dx, dwx, _, _, rfl, rfl, hxK kk10, hxW, mx, .ref wx, two, rs, _, rfl, mxK kk10, .inl ⟨wx, false, rs, _, rfl, hwx, ndr, fun b _ he => ⟨b, rfl, _, rfl, ?_⟩⟩⟩
          obtain rfl : b = false := by rw [he rfl, et]; rfl
          exact ite2 (fun hb => absurd hb (by simp)) (fun _ => kont _ kk10)
        · intro G10 kk10
          try dsimp only
          have n0l := nm_len (hxk n0 hm0).1
          refine ⟨_, rfl, tl, _, 0, V.str n0, rfl, rfl, SqL.of (tlK kk10), ix0, n0, _, rfl, rfl, (by rw [sizeLine_eq]; show _ + 1 ≤ _; omega), (by show 4 ≤ sizeLine; rw [sizeLine_eq]; omega), fun p np => ?_⟩
          have hp0 : G p = none := kk10.free hStG np
          have pw : p ≠ wl := hStG.ne hp0
          have e11 := upd_same (H := G10) (a := p) (o := .lst [V.str (Str.ofString ""), V.str (Str.ofString "zzzzzzzz"), V.str (Str.ofString "A"), V.str (n0 ++ Str.ofString " ")])
          have kk11 : KpS wl c G (upd G10 p (.lst [V.str (Str.ofString ""), V.str (Str.ofString "zzzzzzzz"), V.str (Str.ofString "A"), V.str (n0 ++ Str.ofString " ")])) := kk10.put hStG hp0
          generalize upd G10 p (.lst [V.str (Str.ofString ""), V.str (Str.ofString "zzzzzzzz"), V.str (Str.ofString "A"), V.str (n0 ++ Str.ofString " ")]) = G11 at *
          refine ⟨p, rfl, ⟨_, SqL.of e11⟩, for_it walk_list (fun j σ H' => ∃ (v10 v13 v14 : Option V), σ = [some (.ref sc), some (.ref wl), some (.int (0 + (i : Nat))), some (.str (ovS two)), some (.ref tl), some (.int m), some (.ref rd), some (.ref pd), some (.ref mx), v9, v10, some (.ref ax), some (.ref lx), v13, v14, v15, v16, v17, v18] ∧ KpS wl c G11 H')
            ⟨_, _, _, rfl, KpS.refl _ _ _⟩ (fun _ σ H' _ ⟨_, _, _, _, q⟩ => SqL.of (q.keep _ _ pw e11)) ?_ ?_⟩
          · rintro j v σ G12 G13 hj ⟨v10, v13, v14, rfl, k12⟩ ⟨rfl, hv⟩
            obtain ⟨x, rfl, hx⟩ : ∃ x, v = V.str x ∧ x ∉ rs.map (·.1) := by
              have h4 : j = 0 ∨ j = 1 ∨ j = 2 ∨ j = 3 := by
                have : j < 4 := hj
                omega
              rcases h4 with rfl | rfl | rfl | rfl
              · exact ⟨_, (Option.some.inj hv).symm, not_nm nmr (by decide +kernel)⟩
              · exact ⟨_, (Option.some.inj hv).symm, fun hm => (hxk _ (by rw [← hrk]; exact hm)).2 (by decide +kernel)⟩
              · exact ⟨_, (Option.some.inj hv).symm, not_nm nmr (by decide +kernel)⟩
              · exact ⟨_, (Option.some.inj hv).symm, not_nm nmr (nm_blank n0)⟩
            have k13 := kk11.trans k12
            refine g_name ?_
            try dsimp only
            refine seq_asg ?_
            refine g_name ?_
            try dsimp only
            refine ⟨_, rfl, mx, dx, _, rfl, hxK k13, rwf_no _ _ (by decide +kernel) (by decide +kernel), ?_⟩
            refine ⟨_, rfl, mx, x, two, rs, _, rfl, mxK k13, ndr, fun r hr er => absurd (List.mem_map.mpr ⟨r, hr, er⟩) hx, fun hno dxx G14 s14 hx14 => ⟨true, T.xm_NoThing_NoThing, fun _ e ne => ?_, fun h => by cases h⟩⟩
            (repeat (first | refine ⟨_, rfl, ?_⟩ | refine ⟨rfl, ?_⟩ | refine ⟨_, _, rfl, rfl, ?_⟩ | refine iteT ?_ | refine iteF ?_ | refine ⟨(by show (0 : Int) < _; omega), ?_⟩ | refine ⟨(⟨by omega, by omega⟩ : CDiv _ _), ?_⟩ | refine ⟨(⟨by decide, by decide, by decide⟩ : CPow _ _), ?_⟩ | refine ⟨(.inl ⟨by omega, by omega⟩ : CMul _ _), ?_⟩ | refine ⟨(.inr ⟨by omega, by omega⟩ : CMul _ _), ?_⟩ | refine Or.inl ⟨_, rfl, ?_⟩ | refine Or.inr ⟨_, rfl, ?_⟩ | refine ⟨_, _, _, _, true, rfl, .ty _, .base (.str _), kit_ty (by decide +kernel), ?_⟩ | refine ⟨_, _, rfl, ⟨by rw [sizeLine_eq]; omega, rfl⟩, ?_⟩ | refine ⟨_, _, rfl, .inl ⟨_, SqL.of (by assumption), rfl⟩, ?_⟩ | refine ⟨_, _, rfl, .inr ⟨_, SqT.of (by assumption), rfl⟩, ?_⟩))
            refine ⟨_, _, _, rfl, hx14, rfl, ?_⟩
            (repeat (first | refine ⟨_, rfl, ?_⟩ | refine ⟨rfl, ?_⟩ | refine ⟨_, _, rfl, rfl, ?_⟩ | refine iteT ?_ | refine iteF ?_ | refine ⟨(by show (0 : Int) < _; omega), ?_⟩ | refine ⟨(⟨by omega, by omega⟩ : CDiv _ _), ?_⟩ | refine ⟨(⟨by decide, by decide, by decide⟩ : CPow _ _), ?_⟩ | refine ⟨(.inl ⟨by omega, by omega⟩ : CMul _ _), ?_⟩ | refine ⟨(.inr ⟨by omega, by omega⟩ : CMul _ _), ?_⟩ | refine Or.inl ⟨_, rfl, ?_⟩ | refine Or.inr ⟨_, rfl, ?_⟩ | refine ⟨_, _, _, _, true, rfl, .ty _, .base (.str _), kit_ty (by decide +kernel), ?_⟩ | refine ⟨_, _, rfl, ⟨by rw [sizeLine_eq]; omega, rfl⟩, ?_⟩ | refine ⟨_, _, rfl, .inl ⟨_, SqL.of (by assumption), rfl⟩, ?_⟩ | refine ⟨_, _, rfl, .inr ⟨_, SqT.of (by assumption), rfl⟩, ?_⟩))
            refine ite2 (fun hb => absurd hb (by simp)) (fun _ => ?_)
            exact ⟨_, _, _, rfl, k12.trans (KpS.same s14)⟩
          · rintro σ G12 ⟨v10, v13, v14, rfl, k12⟩
            have k13 := kk11.trans k12
            try dsimp only
            refine ⟨_, rfl, _, rfl, _, rfl, _, rfl, wl, c, rd, m, two, rs, _, rfl, k13.st hStG, by omega, by omega, rdK k13, ndr, sor, nmr, by omega, by omega, hrw, hrt, fun G14 k14 => ?_⟩
            refine ⟨_, rfl, ?_⟩
            refine ite2 (fun hb => absurd hb (by simp)) (fun _ => ?_)
            exact ⟨_, _, _, _, _, _, _, _, _, _, _, _, _, _, _, _, _, rfl, k14.st (k13.st hStG)⟩
    · rintro σ H2 ⟨v2, v3, v4, v5, v6, v7, v8, v9, v10, v11, v12, v13, v14, v15, v16, v17, v18, rfl, hS⟩
      try dsimp only
      refine seq_asg ?_
      refine ⟨_, rfl, wl, c, 3, rfl, hS, by omega, by omega, fun n3 H3 a3 b3 k3 => ⟨_, _, rfl, rfl, ?_⟩⟩
      have hS3 := k3.st hS
      refine g_name ?_
      try dsimp only
      refine seq_asg ?_
      refine ⟨_, rfl, 23 + n3, rfl, by omega, by omega, wide_lc (by omega) fun D qs H4 s4 hD4 hP4 => ?_⟩
      obtain ⟨N, hNe⟩ : ∃ N, N = Int.toNat (23 + n3) := ⟨_, rfl⟩
      rw [← hNe] at hP4
      have ndw : ((wide N).map (·.1)).Nodup := by rw [wide_keys]; exact wide_nd N (by omega)
      obtain ⟨kv4, q1, q2, q3⟩ := dict_of K hP4 ndw
      refine ⟨D, qs, kv4, rfl, SqL.of hD4, q1, fun d5 nd5 => ?_⟩
      rw [q2]
      have hd5 := dict_at q3 nd5
      have hS5 : StAt (upd H4 d5 (.dK kv4)) wl c := (hS3.same s4).same (Same.new nd5)
      generalize upd H4 d5 (.dK kv4) = H5 at *
      refine g_name ?_
      try dsimp only
      refine seq_asg ?_
      have hww : ∀ r ∈ wide N, r.2.length = 24 := fun r hr => by rw [wide_rows r hr]; rfl
      have hll : ((wide N).map rvOf).length = N := by rw [List.length_map, wide_len]
      have hb : badF true ((wide N).map rvOf) = none := bad_none (k := 24) ndw (wide_names (by omega)) (by omega) hww (fun _ r hr n hn => by
        rw [wide_rows r hr] at hn
        exact .inr (List.eq_of_mem_replicate hn))
      have hro : rowsOf ((wide N).map rvOf) = wide N := rowsOf_rv ndw (by rw [wide_keys]; exact sortS_of_pw (wide_pw N (by omega)))
      refine ⟨_, rfl, d5, true, _, rfl, hd5.rv ndw (fun r hr => by rw [hww r hr]; omega), by omega, fun e he => ?_, fun h24 p H6 np s6 hp => ?_, fun h24 nn hn => (by rw [hb] at hn; cases hn), fun h24 _ p x H6 np s6 hp hx => ?_⟩
      · obtain ⟨r, hr, rfl⟩ := List.mem_map.mp he
        exact nm_len (wide_names (by omega) r hr)
      · refine g_name ?_
        try dsimp only
        refine ⟨_, rfl, _, _, rfl, rfl, _, rfl, ite2 (fun _ => ?_) (fun hc => absurd (decide_eq_true (by omega)) hc)⟩
        refine ⟨_, rfl, (by show 2 ≤ sizeLine; rw [sizeLine_eq]; omega), fun p2 np2 => ⟨.tuple [.str (Str.ofString "many"), .int 24], .tuple [.str (Str.ofString "many"), .int 24], .tup (SqT.of (Same.new np2 _ _ hp)) (.cons (.str _) (.cons (.int _) .nil)), .tup (SqT.of upd_same) (.cons (.str _) (.cons (.int _) .nil)), ?_, ?_, ?_⟩⟩
        · decide +kernel
        · decide +kernel
        · have ev : PyData.eqv (.tuple [.str (Str.ofString "many"), .int 24]) (.tuple [.str (Str.ofString "many"), .int 24]) = true := by simp [PyData.eqv, PyData.eqvAll]
          rw [ev]
          exact k _
      · rw [hro] at hx
        refine g_name ?_
        try dsimp only
        refine ⟨_, rfl, _, _, rfl, rfl, _, rfl, ite2 (fun hc => absurd (of_decide_eq_true hc) (by omega)) (fun _ => ?_)⟩
        unfold tNext
        try dsimp only
        refine seq_asg ?_
        refine fun pe npe => ?_
        have hS6 := hS5.same s6
        have s7 := Same.new (o := .dK []) npe
        have hS7 := hS6.same s7
        have hpe := upd_same (H := H6) (a := pe) (o := .dK [])
        have hp7 := s7 _ _ hp
        have hx7 := hx.same s7
        have pew := hS6.ne npe
        have pw := hS5.ne np
        generalize upd H6 pe (.dK []) = H7 at *
        refine ⟨_, rfl, wl, c, rfl, hS7, fun two2 H8 k8 => ?_⟩
        have hpe8 := k8.keep _ _ pew hpe
        have hp8 := k8.keep _ _ pw hp7
        have hx8 : RowsO A.C_Rows (fun a => H5 a = none) H8 x true (wide N) := hx7.mv fun a o na e => k8.keep _ _ (hS5.ne na) e
        have hnil : RowsD (fun _ => True) H8 pe [] := ⟨True.intro, [], hpe8, .nil⟩
        refine ⟨rfl, rfl, mk_rows (two := two2) (m := 0) hnil .nil (fun r hr => by cases hr) (by show 0 ≤ 24; omega) (fun r hr => by cases hr) (by omega) (fun _ r hr => by cases hr) fun ex H9 s9 hex => ?_⟩
        have e0 : rowsOf (([] : List BF.Row).map rvOf) = [] := rowsOf_rv .nil (by simp [sortS])
        rw [e0] at hex
        have hp9 := s9 _ _ hp8
        have hx9 := hx8.same s9
        obtain ⟨_, dxx, ddx, hxX, _⟩ := id hx9
        obtain ⟨_, dex, dde, hxE, _⟩ := id hex
        refine g_name ?_
        try dsimp only
        refine ⟨_, rfl, p, _, 0, V.str (Str.ofString "made"), rfl, rfl, SqT.of hp9, rfl, rfl, _, rfl, ite2 (fun _ => ?_) (fun hc => absurd (decide_eq_true rfl) hc)⟩
        refine ⟨_, rfl, p, _, 1, V.ref x, rfl, rfl, SqT.of hp9, rfl, x, dxx, _, rfl, hxX, rwf_no _ _ (by decide +kernel) (by decide +kernel), x, true, wide N, _, 24, rfl, hx9, by rw [wide_len]; omega, hww, by omega, fun H10 s10 => ?_⟩
        rw [wide_len, if_neg (show ¬ N = 0 by omega)]
        refine ⟨rfl, _, rfl, ite2 (fun _ => ?_) (fun hc => absurd (decide_eq_true rfl) hc)⟩
        refine ⟨_, rfl, ex, dex, _, rfl, s10 _ _ hxE, rwf_no _ _ (by decide +kernel) (by decide +kernel), ex, two2, [], _, 0, rfl, hex.same s10, by show 0 ≤ 63; omega, (fun r hr => by cases hr), by omega, fun H11 s11 => ?_⟩
        have s11' := s10.trans s11
        refine ⟨rfl, _, rfl, ite2 (fun _ => ?_) (fun hc => absurd (decide_eq_true rfl) hc)⟩
        refine ⟨_, rfl, ex, dex, _, rfl, s11' _ _ hxE, rwf_no _ _ (by decide +kernel) (by decide +kernel), ex, two2, [], _, rfl, hex.same s11', fun p12 H12 np12 s12 hp12 => ?_⟩
        refine ⟨(by show 0 ≤ sizeLine; omega), fun p13 np13 => ?_⟩
        refine ⟨_, _, dp_strs (ps := []) (Same.new np13 _ _ hp12), dp_strs (ps := []) upd_same, shaped_strs (fun _ h => by cases h), shaped_strs (fun _ h => by cases h), ?_⟩
        rw [eqv_strs, decide_eq_true rfl]
        exact k _
end
end BF43
set_option Elab.async false
set_option linter.all false
set_option maxRecDepth 100000
set_option maxHeartbeats 4000000
namespace BF43
open BF
open PySem PySem.Spec PyProof.Rows L2
open C8 (Cal CalAt Met Mak cal0 met0 mak0 fn0 pe_c pe_mk pe_mt pe_mt0 pe_gc fnScope fnBody fnArgs fnScope_by)
theorem all_mk {K : PySem.W.Frag} {h : Heap} {mg : Str → Option Value} {C_LotError C_NoThing C_TooMany C_BadRows C_Rows f_NoThing__init f_TooMany__init f_BadRows__init f_is_integer f_is_name f_Rows__init f_Rows_things f_Rows_rows f_Rows_row f_Rows_width f_Rows_over f_Rows__eq f_checked_rows f_is_row f_law_state f_law_draw f_law_names f_law_field f_law_rows f_law_told f_law_wrong_row f_law_refused f_law : Addr} (X : K.In h) (G : h.Ns mainGlobals mg)
    {od_NoThing__init an_NoThing__init od_TooMany__init an_TooMany__init od_BadRows__init an_BadRows__init od_is_integer an_is_integer od_is_name an_is_name od_Rows__init an_Rows__init od_Rows_things an_Rows_things od_Rows_rows an_Rows_rows od_Rows_row an_Rows_row od_Rows_width an_Rows_width od_Rows_over an_Rows_over od_Rows__eq an_Rows__eq od_checked_rows an_checked_rows od_is_row an_is_row od_law_state an_law_state od_law_draw an_law_draw od_law_names an_law_names od_law_field an_law_field od_law_rows an_law_rows od_law_told an_law_told od_law_wrong_row an_law_wrong_row od_law_refused an_law_refused od_law an_law : Option Addr} {sl_NoThing__init sl_TooMany__init sl_BadRows__init sl_is_integer sl_is_name sl_Rows__init sl_Rows_things sl_Rows_rows sl_Rows_row sl_Rows_width sl_Rows_over sl_Rows__eq sl_checked_rows sl_is_row sl_law_state sl_law_draw sl_law_names sl_law_field sl_law_rows sl_law_told sl_law_wrong_row sl_law_refused sl_law : Array (Option Value)} {oc_NoThing__init kV_NoThing__init dc_NoThing__init pm_NoThing__init cd_NoThing__init ct_NoThing__init oc_TooMany__init kV_TooMany__init dc_TooMany__init pm_TooMany__init cd_TooMany__init ct_TooMany__init oc_BadRows__init kV_BadRows__init dc_BadRows__init pm_BadRows__init cd_BadRows__init ct_BadRows__init oc_is_integer kV_is_integer dc_is_integer pm_is_integer cd_is_integer ct_is_integer oc_is_name kV_is_name dc_is_name pm_is_name cd_is_name ct_is_name oc_Rows__init kV_Rows__init dc_Rows__init pm_Rows__init cd_Rows__init ct_Rows__init oc_Rows_things kV_Rows_things dc_Rows_things pm_Rows_things cd_Rows_things ct_Rows_things oc_Rows_rows kV_Rows_rows dc_Rows_rows pm_Rows_rows cd_Rows_rows ct_Rows_rows oc_Rows_row kV_Rows_row dc_Rows_row pm_Rows_row cd_Rows_row ct_Rows_row oc_Rows_width kV_Rows_width dc_Rows_width pm_Rows_width cd_Rows_width ct_Rows_width oc_Rows_over kV_Rows_over dc_Rows_over pm_Rows_over cd_Rows_over ct_Rows_over oc_Rows__eq kV_Rows__eq dc_Rows__eq pm_Rows__eq cd_Rows__eq ct_Rows__eq oc_checked_rows kV_checked_rows dc_checked_rows pm_checked_rows cd_checked_rows ct_checked_rows oc_is_row kV_is_row dc_is_row pm_is_row cd_is_row ct_is_row oc_law_state kV_law_state dc_law_state pm_law_state cd_law_state ct_law_state oc_law_draw kV_law_draw dc_law_draw pm_law_draw cd_law_draw ct_law_draw oc_law_names kV_law_names dc_law_names pm_law_names cd_law_names ct_law_names oc_law_field kV_law_field dc_law_field pm_law_field cd_law_field ct_law_field oc_law_rows kV_law_rows dc_law_rows pm_law_rows cd_law_rows ct_law_rows oc_law_told kV_law_told dc_law_told pm_law_told cd_law_told ct_law_told oc_law_wrong_row kV_law_wrong_row dc_law_wrong_row pm_law_wrong_row cd_law_wrong_row ct_law_wrong_row oc_law_refused kV_law_refused dc_law_refused pm_law_refused cd_law_refused ct_law_refused oc_law kV_law dc_law pm_law cd_law ct_law : Value} {tk_LONGEST_NAME tk_MOST_THINGS tk_GREATEST_WIDTH : Tok}
    {hd2_Rows : Bool} {ni_Rows : String}
    {nm_NoThing qn_NoThing : Str} {NS_NoThing : Addr} {bs_NoThing : List Value} {sn_NoThing : List Str} {sub_NoThing : List Value} {ab_NoThing : Bool} {col_NoThing : Option Bool} {dd_NoThing : Option Addr} {k0_NoThing k1_NoThing k2_NoThing k3_NoThing k5_NoThing : Option Value}
    {nm_TooMany qn_TooMany : Str} {NS_TooMany : Addr} {bs_TooMany : List Value} {sn_TooMany : List Str} {sub_TooMany : List Value} {ab_TooMany : Bool} {col_TooMany : Option Bool} {dd_TooMany : Option Addr} {k0_TooMany k1_TooMany k2_TooMany k3_TooMany k5_TooMany : Option Value}
    {nm_BadRows qn_BadRows : Str} {NS_BadRows : Addr} {bs_BadRows : List Value} {sn_BadRows : List Str} {sub_BadRows : List Value} {ab_BadRows : Bool} {col_BadRows : Option Bool} {dd_BadRows : Option Addr} {k0_BadRows k1_BadRows k2_BadRows k3_BadRows k5_BadRows : Option Value}
    {nm_Rows qn_Rows : Str} {NS_Rows : Addr} {bs_Rows : List Value} {sn_Rows : List Str} {sub_Rows : List Value} {ab_Rows : Bool} {col_Rows : Option Bool} {dd_Rows : Option Addr} {k0_Rows k1_Rows k2_Rows k3_Rows k5_Rows : Option Value}
    (hgC_LotError : PySem.W.nsIn K mainGlobals "LotError" = some (some (.ref C_LotError)))
    (hgC_NoThing : PySem.W.nsIn K mainGlobals "NoThing" = some (some (.ref C_NoThing)))
    (hgC_TooMany : PySem.W.nsIn K mainGlobals "TooMany" = some (some (.ref C_TooMany)))
    (hgC_BadRows : PySem.W.nsIn K mainGlobals "BadRows" = some (some (.ref C_BadRows)))
    (hgC_Rows : PySem.W.nsIn K mainGlobals "Rows" = some (some (.ref C_Rows)))
    (ha_NoThing__init : PySem.W.findIn K (.ref C_NoThing) "__init__" = some (some (.ref f_NoThing__init)))
    (hi_NoThing__init : PySem.W.isFn K (.ref f_NoThing__init) = true)
    (hl_NoThing__init : K.lookup f_NoThing__init = some ⟨oc_NoThing__init, od_NoThing__init, .func (PySem.W.fnOf "__init__" "NoThing.__init__" (fnArgs s_NoThing__init) (fnBody s_NoThing__init) (fnScope s_NoThing__init) .none kV_NoThing__init dc_NoThing__init pm_NoThing__init an_NoThing__init cd_NoThing__init ct_NoThing__init), sl_NoThing__init⟩)
    (hc_NoThing__init : PySem.W.codeIn K cd_NoThing__init "NoThing.__init__" = true)
    (hk_NoThing__init : PySem.W.keepIn K (.ref f_NoThing__init) = true)
    (ha_TooMany__init : PySem.W.findIn K (.ref C_TooMany) "__init__" = some (some (.ref f_TooMany__init)))
    (hi_TooMany__init : PySem.W.isFn K (.ref f_TooMany__init) = true)
    (hl_TooMany__init : K.lookup f_TooMany__init = some ⟨oc_TooMany__init, od_TooMany__init, .func (PySem.W.fnOf "__init__" "TooMany.__init__" (fnArgs s_TooMany__init) (fnBody s_TooMany__init) (fnScope s_TooMany__init) .none kV_TooMany__init dc_TooMany__init pm_TooMany__init an_TooMany__init cd_TooMany__init ct_TooMany__init), sl_TooMany__init⟩)
    (hc_TooMany__init : PySem.W.codeIn K cd_TooMany__init "TooMany.__init__" = true)
    (hk_TooMany__init : PySem.W.keepIn K (.ref f_TooMany__init) = true)
    (ha_BadRows__init : PySem.W.findIn K (.ref C_BadRows) "__init__" = some (some (.ref f_BadRows__init)))
    (hi_BadRows__init : PySem.W.isFn K (.ref f_BadRows__init) = true)
    (hl_BadRows__init : K.lookup f_BadRows__init = some ⟨oc_BadRows__init, od_BadRows__init, .func (PySem.W.fnOf "__init__" "BadRows.__init__" (fnArgs s_BadRows__init) (fnBody s_BadRows__init) (fnScope s_BadRows__init) .none kV_BadRows__init dc_BadRows__init pm_BadRows__init an_BadRows__init cd_BadRows__init ct_BadRows__init), sl_BadRows__init⟩)
    (hc_BadRows__init : PySem.W.codeIn K cd_BadRows__init "BadRows.__init__" = true)
    (hk_BadRows__init : PySem.W.keepIn K (.ref f_BadRows__init) = true)
    (ha_is_integer : PySem.W.nsIn K mainGlobals "is_integer" = some (some (.ref f_is_integer)))
    (hl_is_integer : K.lookup f_is_integer = some ⟨oc_is_integer, od_is_integer, .func (PySem.W.fnOf "is_integer" "is_integer" (fnArgs s_is_integer) (fnBody s_is_integer) (fnScope s_is_integer) .none kV_is_integer dc_is_integer pm_is_integer an_is_integer cd_is_integer ct_is_integer), sl_is_integer⟩)
    (hc_is_integer : PySem.W.codeIn K cd_is_integer "is_integer" = true)
    (hk_is_integer : PySem.W.keepIn K (.ref f_is_integer) = true)
    (ha_is_name : PySem.W.nsIn K mainGlobals "is_name" = some (some (.ref f_is_name)))
    (hl_is_name : K.lookup f_is_name = some ⟨oc_is_name, od_is_name, .func (PySem.W.fnOf "is_name" "is_name" (fnArgs s_is_name) (fnBody s_is_name) (fnScope s_is_name) .none kV_is_name dc_is_name pm_is_name an_is_name cd_is_name ct_is_name), sl_is_name⟩)
    (hc_is_name : PySem.W.codeIn K cd_is_name "is_name" = true)
    (hk_is_name : PySem.W.keepIn K (.ref f_is_name) = true)
    (ha_Rows__init : PySem.W.findIn K (.ref C_Rows) "__init__" = some (some (.ref f_Rows__init)))
    (hi_Rows__init : PySem.W.isFn K (.ref f_Rows__init) = true)
    (hl_Rows__init : K.lookup f_Rows__init = some ⟨oc_Rows__init, od_Rows__init, .func (PySem.W.fnOf "__init__" "Rows.__init__" (fnArgs s_Rows__init) (fnBody s_Rows__init) (fnScope s_Rows__init) .none kV_Rows__init dc_Rows__init pm_Rows__init an_Rows__init cd_Rows__init ct_Rows__init), sl_Rows__init⟩)
    (hc_Rows__init : PySem.W.codeIn K cd_Rows__init "Rows.__init__" = true)
    (hk_Rows__init : PySem.W.keepIn K (.ref f_Rows__init) = true)
    (ha_Rows_things : PySem.W.findIn K (.ref C_Rows) "things" = some (some (.ref f_Rows_things)))
    (hi_Rows_things : PySem.W.isFn K (.ref f_Rows_things) = true)
    (hl_Rows_things : K.lookup f_Rows_things = some ⟨oc_Rows_things, od_Rows_things, .func (PySem.W.fnOf "things" "Rows.things" (fnArgs s_Rows_things) (fnBody s_Rows_things) (fnScope s_Rows_things) .none kV_Rows_things dc_Rows_things pm_Rows_things an_Rows_things cd_Rows_things ct_Rows_things), sl_Rows_things⟩)
    (hc_Rows_things : PySem.W.codeIn K cd_Rows_things "Rows.things" = true)
    (hk_Rows_things : PySem.W.keepIn K (.ref f_Rows_things) = true)
    (ha_Rows_rows : PySem.W.findIn K (.ref C_Rows) "rows" = some (some (.ref f_Rows_rows)))
    (hi_Rows_rows : PySem.W.isFn K (.ref f_Rows_rows) = true)
    (hl_Rows_rows : K.lookup f_Rows_rows = some ⟨oc_Rows_rows, od_Rows_rows, .func (PySem.W.fnOf "rows" "Rows.rows" (fnArgs s_Rows_rows) (fnBody s_Rows_rows) (fnScope s_Rows_rows) .none kV_Rows_rows dc_Rows_rows pm_Rows_rows an_Rows_rows cd_Rows_rows ct_Rows_rows), sl_Rows_rows⟩)
    (hc_Rows_rows : PySem.W.codeIn K cd_Rows_rows "Rows.rows" = true)
    (hk_Rows_rows : PySem.W.keepIn K (.ref f_Rows_rows) = true)
    (ha_Rows_row : PySem.W.findIn K (.ref C_Rows) "row" = some (some (.ref f_Rows_row)))
    (hi_Rows_row : PySem.W.isFn K (.ref f_Rows_row) = true)
    (hl_Rows_row : K.lookup f_Rows_row = some ⟨oc_Rows_row, od_Rows_row, .func (PySem.W.fnOf "row" "Rows.row" (fnArgs s_Rows_row) (fnBody s_Rows_row) (fnScope s_Rows_row) .none kV_Rows_row dc_Rows_row pm_Rows_row an_Rows_row cd_Rows_row ct_Rows_row), sl_Rows_row⟩)
    (hc_Rows_row : PySem.W.codeIn K cd_Rows_row "Rows.row" = true)
    (hk_Rows_row : PySem.W.keepIn K (.ref f_Rows_row) = true)
    (ha_Rows_width : PySem.W.findIn K (.ref C_Rows) "width" = some (some (.ref f_Rows_width)))
    (hi_Rows_width : PySem.W.isFn K (.ref f_Rows_width) = true)
    (hl_Rows_width : K.lookup f_Rows_width = some ⟨oc_Rows_width, od_Rows_width, .func (PySem.W.fnOf "width" "Rows.width" (fnArgs s_Rows_width) (fnBody s_Rows_width) (fnScope s_Rows_width) .none kV_Rows_width dc_Rows_width pm_Rows_width an_Rows_width cd_Rows_width ct_Rows_width), sl_Rows_width⟩)
    (hc_Rows_width : PySem.W.codeIn K cd_Rows_width "Rows.width" = true)
    (hk_Rows_width : PySem.W.keepIn K (.ref f_Rows_width) = true)
    (ha_Rows_over : PySem.W.findIn K (.ref C_Rows) "over" = some (some (.ref f_Rows_over)))
    (hi_Rows_over : PySem.W.isFn K (.ref f_Rows_over) = true)
    (hl_Rows_over : K.lookup f_Rows_over = some ⟨oc_Rows_over, od_Rows_over, .func (PySem.W.fnOf "over" "Rows.over" (fnArgs s_Rows_over) (fnBody s_Rows_over) (fnScope s_Rows_over) .none kV_Rows_over dc_Rows_over pm_Rows_over an_Rows_over cd_Rows_over ct_Rows_over), sl_Rows_over⟩)
    (hc_Rows_over : PySem.W.codeIn K cd_Rows_over "Rows.over" = true)
    (hk_Rows_over : PySem.W.keepIn K (.ref f_Rows_over) = true)
    (ha_Rows__eq : PySem.W.findIn K (.ref C_Rows) "__eq__" = some (some (.ref f_Rows__eq)))
    (hi_Rows__eq : PySem.W.isFn K (.ref f_Rows__eq) = true)
    (hl_Rows__eq : K.lookup f_Rows__eq = some ⟨oc_Rows__eq, od_Rows__eq, .func (PySem.W.fnOf "__eq__" "Rows.__eq__" (fnArgs s_Rows__eq) (fnBody s_Rows__eq) (fnScope s_Rows__eq) .none kV_Rows__eq dc_Rows__eq pm_Rows__eq an_Rows__eq cd_Rows__eq ct_Rows__eq), sl_Rows__eq⟩)
    (hc_Rows__eq : PySem.W.codeIn K cd_Rows__eq "Rows.__eq__" = true)
    (hk_Rows__eq : PySem.W.keepIn K (.ref f_Rows__eq) = true)
    (ha_checked_rows : PySem.W.nsIn K mainGlobals "_checked_rows" = some (some (.ref f_checked_rows)))
    (hl_checked_rows : K.lookup f_checked_rows = some ⟨oc_checked_rows, od_checked_rows, .func (PySem.W.fnOf "_checked_rows" "_checked_rows" (fnArgs s_checked_rows) (fnBody s_checked_rows) (fnScope s_checked_rows) .none kV_checked_rows dc_checked_rows pm_checked_rows an_checked_rows cd_checked_rows ct_checked_rows), sl_checked_rows⟩)
    (hc_checked_rows : PySem.W.codeIn K cd_checked_rows "_checked_rows" = true)
    (hk_checked_rows : PySem.W.keepIn K (.ref f_checked_rows) = true)
    (ha_is_row : PySem.W.nsIn K mainGlobals "is_row" = some (some (.ref f_is_row)))
    (hl_is_row : K.lookup f_is_row = some ⟨oc_is_row, od_is_row, .func (PySem.W.fnOf "is_row" "is_row" (fnArgs s_is_row) (fnBody s_is_row) (fnScope s_is_row) .none kV_is_row dc_is_row pm_is_row an_is_row cd_is_row ct_is_row), sl_is_row⟩)
    (hc_is_row : PySem.W.codeIn K cd_is_row "is_row" = true)
    (hk_is_row : PySem.W.keepIn K (.ref f_is_row) = true)
    (ha_law_state : PySem.W.nsIn K mainGlobals "_law_state" = some (some (.ref f_law_state)))
    (hl_law_state : K.lookup f_law_state = some ⟨oc_law_state, od_law_state, .func (PySem.W.fnOf "_law_state" "_law_state" (fnArgs s_law_state) (fnBody s_law_state) (fnScope s_law_state) .none kV_law_state dc_law_state pm_law_state an_law_state cd_law_state ct_law_state), sl_law_state⟩)
    (hc_law_state : PySem.W.codeIn K cd_law_state "_law_state" = true)
    (hk_law_state : PySem.W.keepIn K (.ref f_law_state) = true)
    (ha_law_draw : PySem.W.nsIn K mainGlobals "_law_draw" = some (some (.ref f_law_draw)))
    (hl_law_draw : K.lookup f_law_draw = some ⟨oc_law_draw, od_law_draw, .func (PySem.W.fnOf "_law_draw" "_law_draw" (fnArgs s_law_draw) (fnBody s_law_draw) (fnScope s_law_draw) .none kV_law_draw dc_law_draw pm_law_draw an_law_draw cd_law_draw ct_law_draw), sl_law_draw⟩)
    (hc_law_draw : PySem.W.codeIn K cd_law_draw "_law_draw" = true)
    (hk_law_draw : PySem.W.keepIn K (.ref f_law_draw) = true)
    (ha_law_names : PySem.W.nsIn K mainGlobals "_law_names" = some (some (.ref f_law_names)))
    (hl_law_names : K.lookup f_law_names = some ⟨oc_law_names, od_law_names, .func (PySem.W.fnOf "_law_names" "_law_names" (fnArgs s_law_names) (fnBody s_law_names) (fnScope s_law_names) .none kV_law_names dc_law_names pm_law_names an_law_names cd_law_names ct_law_names), sl_law_names⟩)
    (hc_law_names : PySem.W.codeIn K cd_law_names "_law_names" = true)
    (hk_law_names : PySem.W.keepIn K (.ref f_law_names) = true)
    (ha_law_field : PySem.W.nsIn K mainGlobals "_law_field" = some (some (.ref f_law_field)))
    (hl_law_field : K.lookup f_law_field = some ⟨oc_law_field, od_law_field, .func (PySem.W.fnOf "_law_field" "_law_field" (fnArgs s_law_field) (fnBody s_law_field) (fnScope s_law_field) .none kV_law_field dc_law_field pm_law_field an_law_field cd_law_field ct_law_field), sl_law_field⟩)
    (hc_law_field : PySem.W.codeIn K cd_law_field "_law_field" = true)
    (hk_law_field : PySem.W.keepIn K (.ref f_law_field) = true)
    (ha_law_rows : PySem.W.nsIn K mainGlobals "_law_rows" = some (some (.ref f_law_rows)))
    (hl_law_rows : K.lookup f_law_rows = some ⟨oc_law_rows, od_law_rows, .func (PySem.W.fnOf "_law_rows" "_law_rows" (fnArgs s_law_rows) (fnBody s_law_rows) (fnScope s_law_rows) .none kV_law_rows dc_law_rows pm_law_rows an_law_rows cd_law_rows ct_law_rows), sl_law_rows⟩)
    (hc_law_rows : PySem.W.codeIn K cd_law_rows "_law_rows" = true)
    (hk_law_rows : PySem.W.keepIn K (.ref f_law_rows) = true)
    (ha_law_told : PySem.W.nsIn K mainGlobals "_law_told" = some (some (.ref f_law_told)))
    (hl_law_told : K.lookup f_law_told = some ⟨oc_law_told, od_law_told, .func (PySem.W.fnOf "_law_told" "_law_told" (fnArgs s_law_told) (fnBody s_law_told) (fnScope s_law_told) .none kV_law_told dc_law_told pm_law_told an_law_told cd_law_told ct_law_told), sl_law_told⟩)
    (hc_law_told : PySem.W.codeIn K cd_law_told "_law_told" = true)
    (hk_law_told : PySem.W.keepIn K (.ref f_law_told) = true)
    (ha_law_wrong_row : PySem.W.nsIn K mainGlobals "_law_wrong_row" = some (some (.ref f_law_wrong_row)))
    (hl_law_wrong_row : K.lookup f_law_wrong_row = some ⟨oc_law_wrong_row, od_law_wrong_row, .func (PySem.W.fnOf "_law_wrong_row" "_law_wrong_row" (fnArgs s_law_wrong_row) (fnBody s_law_wrong_row) (fnScope s_law_wrong_row) .none kV_law_wrong_row dc_law_wrong_row pm_law_wrong_row an_law_wrong_row cd_law_wrong_row ct_law_wrong_row), sl_law_wrong_row⟩)
    (hc_law_wrong_row : PySem.W.codeIn K cd_law_wrong_row "_law_wrong_row" = true)
    (hk_law_wrong_row : PySem.W.keepIn K (.ref f_law_wrong_row) = true)
    (ha_law_refused : PySem.W.nsIn K mainGlobals "_law_refused" = some (some (.ref f_law_refused)))
    (hl_law_refused : K.lookup f_law_refused = some ⟨oc_law_refused, od_law_refused, .func (PySem.W.fnOf "_law_refused" "_law_refused" (fnArgs s_law_refused) (fnBody s_law_refused) (fnScope s_law_refused) .none kV_law_refused dc_law_refused pm_law_refused an_law_refused cd_law_refused ct_law_refused), sl_law_refused⟩)
    (hc_law_refused : PySem.W.codeIn K cd_law_refused "_law_refused" = true)
    (hk_law_refused : PySem.W.keepIn K (.ref f_law_refused) = true)
    (ha_law : PySem.W.nsIn K mainGlobals "law" = some (some (.ref f_law)))
    (hl_law : K.lookup f_law = some ⟨oc_law, od_law, .func (PySem.W.fnOf "law" "law" (fnArgs s_law) (fnBody s_law) (fnScope s_law) .none kV_law dc_law pm_law an_law cd_law ct_law), sl_law⟩)
    (hc_law : PySem.W.codeIn K cd_law "law" = true)
    (hk_law : PySem.W.keepIn K (.ref f_law) = true)
    (pg_Rows : PySem.W.plainGet K C_Rows Str.empty = true)
    (hd_Rows : PySem.W.hasDictIn K C_Rows = true)
    (po_Rows : PySem.W.plainOver K C_Rows = true)
    (sa_Rows : PySem.W.findIn K (.ref C_Rows) "__setattr__" = some (some (.builtin "object.__setattr__")))
    (mk_Rows : PySem.W.makesIn K C_Rows = true)
    (kc_Rows : PySem.W.keepIn K (.ref C_Rows) = true)
    (na_Rows__rows : PySem.W.findIn K (.ref C_Rows) "_rows" = some none)
    (na_Rows__over : PySem.W.findIn K (.ref C_Rows) "_over" = some none)
    (wc_Rows : PySem.W.findIn K (.ref C_Rows) "__class__" = some (some (.builtin "object.__class__")))
    (wg_Rows : PySem.W.specialIn K (.builtin "object.__class__") "__get__" = some (some (.builtin "getset_descriptor.__get__")))
    (wt_Rows : PySem.W.takesIn K (.builtin "object.__class__") = some true)
    (wm_Rows : PySem.W.mroIn K C_Rows (.type "object") = some true)
    (xo_Rows : K.lookup C_Rows = some (excClassObj nm_Rows qn_Rows C_Rows NS_Rows bs_Rows [.type "object"] hd2_Rows sn_Rows sub_Rows ab_Rows col_Rows dd_Rows k0_Rows k1_Rows k2_Rows k3_Rows k5_Rows ni_Rows))
    (xe_Rows : PySem.W.findIn K (.ref C_Rows) "__ne__" = some (some (.builtin "object.__ne__")))
    (xL_NoThing : K.lookup C_NoThing = some (excClassObj nm_NoThing qn_NoThing C_NoThing NS_NoThing bs_NoThing [.ref C_LotError, .type "ValueError", .type "Exception", .type "BaseException", .type "object"] true sn_NoThing sub_NoThing ab_NoThing col_NoThing dd_NoThing k0_NoThing k1_NoThing k2_NoThing k3_NoThing k5_NoThing "ValueError.__new__"))
    (xs_NoThing : PySem.W.findIn K (.ref C_NoThing) "__setattr__" = some (some (.builtin "object.__setattr__")))
    (xb_NoThing : PySem.W.subIn K (.ref C_NoThing) (.type "BaseException") = some true)
    (xt_NoThing : PySem.W.typeIn K (.ref C_NoThing) = some (.type "type"))
    (xk_NoThing : PySem.W.keepIn K (.ref C_NoThing) = true)
    (xg_NoThing : PySem.W.findIn K (.ref C_NoThing) "__getattribute__" = some (some (.builtin "BaseException.__getattribute__")))
    (xn_NoThing : PySem.W.findIn K (.ref C_NoThing) "__getattr__" = some none)
    (xd_NoThing : PySem.W.hasDictIn K C_NoThing = true)
    (nx_NoThing_thing : PySem.W.findIn K (.ref C_NoThing) "thing" = some none)
    (xL_TooMany : K.lookup C_TooMany = some (excClassObj nm_TooMany qn_TooMany C_TooMany NS_TooMany bs_TooMany [.ref C_LotError, .type "ValueError", .type "Exception", .type "BaseException", .type "object"] true sn_TooMany sub_TooMany ab_TooMany col_TooMany dd_TooMany k0_TooMany k1_TooMany k2_TooMany k3_TooMany k5_TooMany "ValueError.__new__"))
    (xs_TooMany : PySem.W.findIn K (.ref C_TooMany) "__setattr__" = some (some (.builtin "object.__setattr__")))
    (xb_TooMany : PySem.W.subIn K (.ref C_TooMany) (.type "BaseException") = some true)
    (xt_TooMany : PySem.W.typeIn K (.ref C_TooMany) = some (.type "type"))
    (xk_TooMany : PySem.W.keepIn K (.ref C_TooMany) = true)
    (xg_TooMany : PySem.W.findIn K (.ref C_TooMany) "__getattribute__" = some (some (.builtin "BaseException.__getattribute__")))
    (xn_TooMany : PySem.W.findIn K (.ref C_TooMany) "__getattr__" = some none)
    (xd_TooMany : PySem.W.hasDictIn K C_TooMany = true)
    (nx_TooMany_limit : PySem.W.findIn K (.ref C_TooMany) "limit" = some none)
    (xL_BadRows : K.lookup C_BadRows = some (excClassObj nm_BadRows qn_BadRows C_BadRows NS_BadRows bs_BadRows [.ref C_LotError, .type "ValueError", .type "Exception", .type "BaseException", .type "object"] true sn_BadRows sub_BadRows ab_BadRows col_BadRows dd_BadRows k0_BadRows k1_BadRows k2_BadRows k3_BadRows k5_BadRows "ValueError.__new__"))
    (xs_BadRows : PySem.W.findIn K (.ref C_BadRows) "__setattr__" = some (some (.builtin "object.__setattr__")))
    (xb_BadRows : PySem.W.subIn K (.ref C_BadRows) (.type "BaseException") = some true)
    (xt_BadRows : PySem.W.typeIn K (.ref C_BadRows) = some (.type "type"))
    (xk_BadRows : PySem.W.keepIn K (.ref C_BadRows) = true)
    (xg_BadRows : PySem.W.findIn K (.ref C_BadRows) "__getattribute__" = some (some (.builtin "BaseException.__getattribute__")))
    (xn_BadRows : PySem.W.findIn K (.ref C_BadRows) "__getattr__" = some none)
    (xd_BadRows : PySem.W.hasDictIn K C_BadRows = true)
    (nx_BadRows_thing : PySem.W.findIn K (.ref C_BadRows) "thing" = some none)
    (ic_BadRows : PySem.W.isClsIn K C_BadRows = true)
    (yt_BadRows : PySem.W.typeIn K (.ref C_BadRows) = some (.type "type"))
    (sb_BadRows_BadRows : PySem.W.subIn K (.ref C_BadRows) (.ref C_BadRows) = some true)
    (sb_TooMany_BadRows : PySem.W.subIn K (.ref C_TooMany) (.ref C_BadRows) = some false)
    (ic_TooMany : PySem.W.isClsIn K C_TooMany = true)
    (yt_TooMany : PySem.W.typeIn K (.ref C_TooMany) = some (.type "type"))
    (sb_TooMany_TooMany : PySem.W.subIn K (.ref C_TooMany) (.ref C_TooMany) = some true)
    (ic_NoThing : PySem.W.isClsIn K C_NoThing = true)
    (yt_NoThing : PySem.W.typeIn K (.ref C_NoThing) = some (.type "type"))
    (sb_NoThing_NoThing : PySem.W.subIn K (.ref C_NoThing) (.ref C_NoThing) = some true)
    (xc_BadRows : PySem.W.findIn K (.ref C_BadRows) "__class__" = some (some (.builtin "object.__class__")))
    (wgx : PySem.W.specialIn K (.builtin "object.__class__") "__get__" = some (some (.builtin "getset_descriptor.__get__")))
    (wtx : PySem.W.takesIn K (.builtin "object.__class__") = some true)
    (xr_BadRows : PySem.W.mroIn K C_BadRows (.type "object") = some true)
    (ic_LotError : PySem.W.isClsIn K C_LotError = true)
    (yt_LotError : PySem.W.typeIn K (.ref C_LotError) = some (.type "type"))
    (sb_BadRows_LotError : PySem.W.subIn K (.ref C_BadRows) (.ref C_LotError) = some true)
    (ic_Rows : PySem.W.isClsIn K C_Rows = true)
    (yt_Rows : PySem.W.typeIn K (.ref C_Rows) = some (.type "type"))
    (sb_int_Rows : PySem.W.subIn K (.type "int") (.ref C_Rows) = some false)
    (sb_dict_Rows : PySem.W.subIn K (.type "dict") (.ref C_Rows) = some false)
    (z_all : PySem.W.nsIn K mainGlobals "all" = some none)
    (z_bool : PySem.W.nsIn K mainGlobals "bool" = some none)
    (z_dict : PySem.W.nsIn K mainGlobals "dict" = some none)
    (z_int : PySem.W.nsIn K mainGlobals "int" = some none)
    (z_isinstance : PySem.W.nsIn K mainGlobals "isinstance" = some none)
    (z_len : PySem.W.nsIn K mainGlobals "len" = some none)
    (z_list : PySem.W.nsIn K mainGlobals "list" = some none)
    (z_max : PySem.W.nsIn K mainGlobals "max" = some none)
    (z_min : PySem.W.nsIn K mainGlobals "min" = some none)
    (z_range : PySem.W.nsIn K mainGlobals "range" = some none)
    (z_sorted : PySem.W.nsIn K mainGlobals "sorted" = some none)
    (z_str : PySem.W.nsIn K mainGlobals "str" = some none)
    (g_LONGEST_NAME : PySem.W.nsIn K mainGlobals "LONGEST_NAME" = some (some (.int 8 tk_LONGEST_NAME)))
    (g_MOST_THINGS : PySem.W.nsIn K mainGlobals "MOST_THINGS" = some (some (.int 24 tk_MOST_THINGS)))
    (g_GREATEST_WIDTH : PySem.W.nsIn K mainGlobals "GREATEST_WIDTH" = some (some (.int 24 tk_GREATEST_WIDTH)))
    : ∃ A : Ad, Txt K mg A ∧ ∀ (s : Shared) (u : Value), BindsTo s A.fd_law ⟨[u], []⟩ [("script", u)] :=
  ⟨{ C_LotError := C_LotError, C_NoThing := C_NoThing, C_TooMany := C_TooMany, C_BadRows := C_BadRows, C_Rows := C_Rows, f_NoThing__init := f_NoThing__init, fd_NoThing__init := (PySem.W.fnOf "__init__" "NoThing.__init__" (fnArgs s_NoThing__init) (fnBody s_NoThing__init) (fnScope s_NoThing__init) .none kV_NoThing__init dc_NoThing__init pm_NoThing__init an_NoThing__init cd_NoThing__init ct_NoThing__init), f_TooMany__init := f_TooMany__init, fd_TooMany__init := (PySem.W.fnOf "__init__" "TooMany.__init__" (fnArgs s_TooMany__init) (fnBody s_TooMany__init) (fnScope s_TooMany__init) .none kV_TooMany__init dc_TooMany__init pm_TooMany__init an_TooMany__init cd_TooMany__init ct_TooMany__init), f_BadRows__init := f_BadRows__init, fd_BadRows__init := (PySem.W.fnOf "__init__" "BadRows.__init__" (fnArgs s_BadRows__init) (fnBody s_BadRows__init) (fnScope s_BadRows__init) .none kV_BadRows__init dc_BadRows__init pm_BadRows__init an_BadRows__init cd_BadRows__init ct_BadRows__init), f_is_integer := f_is_integer, fd_is_integer := (PySem.W.fnOf "is_integer" "is_integer" (fnArgs s_is_integer) (fnBody s_is_integer) (fnScope s_is_integer) .none kV_is_integer dc_is_integer pm_is_integer an_is_integer cd_is_integer ct_is_integer), f_is_name := f_is_name, fd_is_name := (PySem.W.fnOf "is_name" "is_name" (fnArgs s_is_name) (fnBody s_is_name) (fnScope s_is_name) .none kV_is_name dc_is_name pm_is_name an_is_name cd_is_name ct_is_name), f_Rows__init := f_Rows__init, fd_Rows__init := (PySem.W.fnOf "__init__" "Rows.__init__" (fnArgs s_Rows__init) (fnBody s_Rows__init) (fnScope s_Rows__init) .none kV_Rows__init dc_Rows__init pm_Rows__init an_Rows__init cd_Rows__init ct_Rows__init), f_Rows_things := f_Rows_things, fd_Rows_things := (PySem.W.fnOf "things" "Rows.things" (fnArgs s_Rows_things) (fnBody s_Rows_things) (fnScope s_Rows_things) .none kV_Rows_things dc_Rows_things pm_Rows_things an_Rows_things cd_Rows_things ct_Rows_things), f_Rows_rows := f_Rows_rows, fd_Rows_rows := (PySem.W.fnOf "rows" "Rows.rows" (fnArgs s_Rows_rows) (fnBody s_Rows_rows) (fnScope s_Rows_rows) .none kV_Rows_rows dc_Rows_rows pm_Rows_rows an_Rows_rows cd_Rows_rows ct_Rows_rows), f_Rows_row := f_Rows_row, fd_Rows_row := (PySem.W.fnOf "row" "Rows.row" (fnArgs s_Rows_row) (fnBody s_Rows_row) (fnScope s_Rows_row) .none kV_Rows_row dc_Rows_row pm_Rows_row an_Rows_row cd_Rows_row ct_Rows_row), f_Rows_width := f_Rows_width, fd_Rows_width := (PySem.W.fnOf "width" "Rows.width" (fnArgs s_Rows_width) (fnBody s_Rows_width) (fnScope s_Rows_width) .none kV_Rows_width dc_Rows_width pm_Rows_width an_Rows_width cd_Rows_width ct_Rows_width), f_Rows_over := f_Rows_over, fd_Rows_over := (PySem.W.fnOf "over" "Rows.over" (fnArgs s_Rows_over) (fnBody s_Rows_over) (fnScope s_Rows_over) .none kV_Rows_over dc_Rows_over pm_Rows_over an_Rows_over cd_Rows_over ct_Rows_over), f_Rows__eq := f_Rows__eq, fd_Rows__eq := (PySem.W.fnOf "__eq__" "Rows.__eq__" (fnArgs s_Rows__eq) (fnBody s_Rows__eq) (fnScope s_Rows__eq) .none kV_Rows__eq dc_Rows__eq pm_Rows__eq an_Rows__eq cd_Rows__eq ct_Rows__eq), f_checked_rows := f_checked_rows, fd_checked_rows := (PySem.W.fnOf "_checked_rows" "_checked_rows" (fnArgs s_checked_rows) (fnBody s_checked_rows) (fnScope s_checked_rows) .none kV_checked_rows dc_checked_rows pm_checked_rows an_checked_rows cd_checked_rows ct_checked_rows), f_is_row := f_is_row, fd_is_row := (PySem.W.fnOf "is_row" "is_row" (fnArgs s_is_row) (fnBody s_is_row) (fnScope s_is_row) .none kV_is_row dc_is_row pm_is_row an_is_row cd_is_row ct_is_row), f_law_state := f_law_state, fd_law_state := (PySem.W.fnOf "_law_state" "_law_state" (fnArgs s_law_state) (fnBody s_law_state) (fnScope s_law_state) .none kV_law_state dc_law_state pm_law_state an_law_state cd_law_state ct_law_state), f_law_draw := f_law_draw, fd_law_draw := (PySem.W.fnOf "_law_draw" "_law_draw" (fnArgs s_law_draw) (fnBody s_law_draw) (fnScope s_law_draw) .none kV_law_draw dc_law_draw pm_law_draw an_law_draw cd_law_draw ct_law_draw), f_law_names := f_law_names, fd_law_names := (PySem.W.fnOf "_law_names" "_law_names" (fnArgs s_law_names) (fnBody s_law_names) (fnScope s_law_names) .none kV_law_names dc_law_names pm_law_names an_law_names cd_law_names ct_law_names), f_law_field := f_law_field, fd_law_field := (PySem.W.fnOf "_law_field" "_law_field" (fnArgs s_law_field) (fnBody s_law_field) (fnScope s_law_field) .none kV_law_field dc_law_field pm_law_field an_law_field cd_law_field ct_law_field), f_law_rows := f_law_rows, fd_law_rows := (PySem.W.fnOf "_law_rows" "_law_rows" (fnArgs s_law_rows) (fnBody s_law_rows) (fnScope s_law_rows) .none kV_law_rows dc_law_rows pm_law_rows an_law_rows cd_law_rows ct_law_rows), f_law_told := f_law_told, fd_law_told := (PySem.W.fnOf "_law_told" "_law_told" (fnArgs s_law_told) (fnBody s_law_told) (fnScope s_law_told) .none kV_law_told dc_law_told pm_law_told an_law_told cd_law_told ct_law_told), f_law_wrong_row := f_law_wrong_row, fd_law_wrong_row := (PySem.W.fnOf "_law_wrong_row" "_law_wrong_row" (fnArgs s_law_wrong_row) (fnBody s_law_wrong_row) (fnScope s_law_wrong_row) .none kV_law_wrong_row dc_law_wrong_row pm_law_wrong_row an_law_wrong_row cd_law_wrong_row ct_law_wrong_row), f_law_refused := f_law_refused, fd_law_refused := (PySem.W.fnOf "_law_refused" "_law_refused" (fnArgs s_law_refused) (fnBody s_law_refused) (fnScope s_law_refused) .none kV_law_refused dc_law_refused pm_law_refused an_law_refused cd_law_refused ct_law_refused), f_law := f_law, fd_law := (PySem.W.fnOf "law" "law" (fnArgs s_law) (fnBody s_law) (fnScope s_law) .none kV_law dc_law pm_law an_law cd_law ct_law) },
  { gC_LotError := PySem.W.mg_of X G hgC_LotError,
    gC_NoThing := PySem.W.mg_of X G hgC_NoThing,
    gC_TooMany := PySem.W.mg_of X G hgC_TooMany,
    gC_BadRows := PySem.W.mg_of X G hgC_BadRows,
    gC_Rows := PySem.W.mg_of X G hgC_Rows,
    u_NoThing__init := ⟨⟨oc_NoThing__init, od_NoThing__init, .none, kV_NoThing__init, dc_NoThing__init, pm_NoThing__init, an_NoThing__init, cd_NoThing__init, ct_NoThing__init, sl_NoThing__init, rfl, hl_NoThing__init, hc_NoThing__init⟩⟩,
    fi_NoThing__init := ha_NoThing__init,
    fn_NoThing__init := hi_NoThing__init,
    kp_NoThing__init := hk_NoThing__init,
    b_NoThing__init := C8.Fun.binds (st := s_NoThing__init) ⟨⟨oc_NoThing__init, od_NoThing__init, .none, kV_NoThing__init, dc_NoThing__init, pm_NoThing__init, an_NoThing__init, cd_NoThing__init, ct_NoThing__init, sl_NoThing__init, rfl, hl_NoThing__init, hc_NoThing__init⟩⟩ rfl (ps := ["self", "thing"]) fun _ _ _ _ _ _ us hl => match us, hl with | [_, _], _ => rfl,
    u_TooMany__init := ⟨⟨oc_TooMany__init, od_TooMany__init, .none, kV_TooMany__init, dc_TooMany__init, pm_TooMany__init, an_TooMany__init, cd_TooMany__init, ct_TooMany__init, sl_TooMany__init, rfl, hl_TooMany__init, hc_TooMany__init⟩⟩,
    fi_TooMany__init := ha_TooMany__init,
    fn_TooMany__init := hi_TooMany__init,
    kp_TooMany__init := hk_TooMany__init,
    b_TooMany__init := C8.Fun.binds (st := s_TooMany__init) ⟨⟨oc_TooMany__init, od_TooMany__init, .none, kV_TooMany__init, dc_TooMany__init, pm_TooMany__init, an_TooMany__init, cd_TooMany__init, ct_TooMany__init, sl_TooMany__init, rfl, hl_TooMany__init, hc_TooMany__init⟩⟩ rfl (ps := ["self", "limit"]) fun _ _ _ _ _ _ us hl => match us, hl with | [_, _], _ => rfl,
    u_BadRows__init := ⟨⟨oc_BadRows__init, od_BadRows__init, .none, kV_BadRows__init, dc_BadRows__init, pm_BadRows__init, an_BadRows__init, cd_BadRows__init, ct_BadRows__init, sl_BadRows__init, rfl, hl_BadRows__init, hc_BadRows__init⟩⟩,
    fi_BadRows__init := ha_BadRows__init,
    fn_BadRows__init := hi_BadRows__init,
    kp_BadRows__init := hk_BadRows__init,
    b_BadRows__init := C8.Fun.binds (st := s_BadRows__init) ⟨⟨oc_BadRows__init, od_BadRows__init, .none, kV_BadRows__init, dc_BadRows__init, pm_BadRows__init, an_BadRows__init, cd_BadRows__init, ct_BadRows__init, sl_BadRows__init, rfl, hl_BadRows__init, hc_BadRows__init⟩⟩ rfl (ps := ["self", "thing"]) fun _ _ _ _ _ _ us hl => match us, hl with | [_, _], _ => rfl,
    d_is_integer := ⟨⟨⟨oc_is_integer, od_is_integer, .none, kV_is_integer, dc_is_integer, pm_is_integer, an_is_integer, cd_is_integer, ct_is_integer, sl_is_integer, rfl, hl_is_integer, hc_is_integer⟩⟩, PySem.W.mg_of X G ha_is_integer, hk_is_integer⟩,
    b_is_integer := C8.Fun.binds (st := s_is_integer) ⟨⟨oc_is_integer, od_is_integer, .none, kV_is_integer, dc_is_integer, pm_is_integer, an_is_integer, cd_is_integer, ct_is_integer, sl_is_integer, rfl, hl_is_integer, hc_is_integer⟩⟩ rfl (ps := ["value"]) fun _ _ _ _ _ _ us hl => match us, hl with | [_], _ => rfl,
    d_is_name := ⟨⟨⟨oc_is_name, od_is_name, .none, kV_is_name, dc_is_name, pm_is_name, an_is_name, cd_is_name, ct_is_name, sl_is_name, rfl, hl_is_name, hc_is_name⟩⟩, PySem.W.mg_of X G ha_is_name, hk_is_name⟩,
    b_is_name := C8.Fun.binds (st := s_is_name) ⟨⟨oc_is_name, od_is_name, .none, kV_is_name, dc_is_name, pm_is_name, an_is_name, cd_is_name, ct_is_name, sl_is_name, rfl, hl_is_name, hc_is_name⟩⟩ rfl (ps := ["value"]) fun _ _ _ _ _ _ us hl => match us, hl with | [_], _ => rfl,
    u_Rows__init := ⟨⟨oc_Rows__init, od_Rows__init, .none, kV_Rows__init, dc_Rows__init, pm_Rows__init, an_Rows__init, cd_Rows__init, ct_Rows__init, sl_Rows__init, rfl, hl_Rows__init, hc_Rows__init⟩⟩,
    fi_Rows__init := ha_Rows__init,
    fn_Rows__init := hi_Rows__init,
    kp_Rows__init := hk_Rows__init,
    kb_Rows__init := ⟨fun s us ws _ l1 l2 => match us, ws, l1, l2 with | [_, _], [_], _, _ => .of_eq rfl, fun r1 r2 => Vals.append r1 r2⟩,
    u_Rows_things := ⟨⟨oc_Rows_things, od_Rows_things, .none, kV_Rows_things, dc_Rows_things, pm_Rows_things, an_Rows_things, cd_Rows_things, ct_Rows_things, sl_Rows_things, rfl, hl_Rows_things, hc_Rows_things⟩⟩,
    fi_Rows_things := ha_Rows_things,
    fn_Rows_things := hi_Rows_things,
    kp_Rows_things := hk_Rows_things,
    b_Rows_things := C8.Fun.binds (st := s_Rows_things) ⟨⟨oc_Rows_things, od_Rows_things, .none, kV_Rows_things, dc_Rows_things, pm_Rows_things, an_Rows_things, cd_Rows_things, ct_Rows_things, sl_Rows_things, rfl, hl_Rows_things, hc_Rows_things⟩⟩ rfl (ps := ["self"]) fun _ _ _ _ _ _ us hl => match us, hl with | [_], _ => rfl,
    u_Rows_rows := ⟨⟨oc_Rows_rows, od_Rows_rows, .none, kV_Rows_rows, dc_Rows_rows, pm_Rows_rows, an_Rows_rows, cd_Rows_rows, ct_Rows_rows, sl_Rows_rows, rfl, hl_Rows_rows, hc_Rows_rows⟩⟩,
    fi_Rows_rows := ha_Rows_rows,
    fn_Rows_rows := hi_Rows_rows,
    kp_Rows_rows := hk_Rows_rows,
    b_Rows_rows := C8.Fun.binds (st := s_Rows_rows) ⟨⟨oc_Rows_rows, od_Rows_rows, .none, kV_Rows_rows, dc_Rows_rows, pm_Rows_rows, an_Rows_rows, cd_Rows_rows, ct_Rows_rows, sl_Rows_rows, rfl, hl_Rows_rows, hc_Rows_rows⟩⟩ rfl (ps := ["self"]) fun _ _ _ _ _ _ us hl => match us, hl with | [_], _ => rfl,
    u_Rows_row := ⟨⟨oc_Rows_row, od_Rows_row, .none, kV_Rows_row, dc_Rows_row, pm_Rows_row, an_Rows_row, cd_Rows_row, ct_Rows_row, sl_Rows_row, rfl, hl_Rows_row, hc_Rows_row⟩⟩,
    fi_Rows_row := ha_Rows_row,
    fn_Rows_row := hi_Rows_row,
    kp_Rows_row := hk_Rows_row,
    b_Rows_row := C8.Fun.binds (st := s_Rows_row) ⟨⟨oc_Rows_row, od_Rows_row, .none, kV_Rows_row, dc_Rows_row, pm_Rows_row, an_Rows_row, cd_Rows_row, ct_Rows_row, sl_Rows_row, rfl, hl_Rows_row, hc_Rows_row⟩⟩ rfl (ps := ["self", "thing"]) fun _ _ _ _ _ _ us hl => match us, hl with | [_, _], _ => rfl,
    u_Rows_width := ⟨⟨oc_Rows_width, od_Rows_width, .none, kV_Rows_width, dc_Rows_width, pm_Rows_width, an_Rows_width, cd_Rows_width, ct_Rows_width, sl_Rows_width, rfl, hl_Rows_width, hc_Rows_width⟩⟩,
    fi_Rows_width := ha_Rows_width,
    fn_Rows_width := hi_Rows_width,
    kp_Rows_width := hk_Rows_width,
    b_Rows_width := C8.Fun.binds (st := s_Rows_width) ⟨⟨oc_Rows_width, od_Rows_width, .none, kV_Rows_width, dc_Rows_width, pm_Rows_width, an_Rows_width, cd_Rows_width, ct_Rows_width, sl_Rows_width, rfl, hl_Rows_width, hc_Rows_width⟩⟩ rfl (ps := ["self"]) fun _ _ _ _ _ _ us hl => match us, hl with | [_], _ => rfl,
    u_Rows_over := ⟨⟨oc_Rows_over, od_Rows_over, .none, kV_Rows_over, dc_Rows_over, pm_Rows_over, an_Rows_over, cd_Rows_over, ct_Rows_over, sl_Rows_over, rfl, hl_Rows_over, hc_Rows_over⟩⟩,
    fi_Rows_over := ha_Rows_over,
    fn_Rows_over := hi_Rows_over,
    kp_Rows_over := hk_Rows_over,
    b_Rows_over := C8.Fun.binds (st := s_Rows_over) ⟨⟨oc_Rows_over, od_Rows_over, .none, kV_Rows_over, dc_Rows_over, pm_Rows_over, an_Rows_over, cd_Rows_over, ct_Rows_over, sl_Rows_over, rfl, hl_Rows_over, hc_Rows_over⟩⟩ rfl (ps := ["self"]) fun _ _ _ _ _ _ us hl => match us, hl with | [_], _ => rfl,
    u_Rows__eq := ⟨⟨oc_Rows__eq, od_Rows__eq, .none, kV_Rows__eq, dc_Rows__eq, pm_Rows__eq, an_Rows__eq, cd_Rows__eq, ct_Rows__eq, sl_Rows__eq, rfl, hl_Rows__eq, hc_Rows__eq⟩⟩,
    fi_Rows__eq := ha_Rows__eq,
    fn_Rows__eq := hi_Rows__eq,
    kp_Rows__eq := hk_Rows__eq,
    b_Rows__eq := C8.Fun.binds (st := s_Rows__eq) ⟨⟨oc_Rows__eq, od_Rows__eq, .none, kV_Rows__eq, dc_Rows__eq, pm_Rows__eq, an_Rows__eq, cd_Rows__eq, ct_Rows__eq, sl_Rows__eq, rfl, hl_Rows__eq, hc_Rows__eq⟩⟩ rfl (ps := ["self", "other"]) fun _ _ _ _ _ _ us hl => match us, hl with | [_, _], _ => rfl,
    d_checked_rows := ⟨⟨⟨oc_checked_rows, od_checked_rows, .none, kV_checked_rows, dc_checked_rows, pm_checked_rows, an_checked_rows, cd_checked_rows, ct_checked_rows, sl_checked_rows, rfl, hl_checked_rows, hc_checked_rows⟩⟩, PySem.W.mg_of X G ha_checked_rows, hk_checked_rows⟩,
    b_checked_rows := C8.Fun.binds (st := s_checked_rows) ⟨⟨oc_checked_rows, od_checked_rows, .none, kV_checked_rows, dc_checked_rows, pm_checked_rows, an_checked_rows, cd_checked_rows, ct_checked_rows, sl_checked_rows, rfl, hl_checked_rows, hc_checked_rows⟩⟩ rfl (ps := ["rows", "over"]) fun _ _ _ _ _ _ us hl => match us, hl with | [_, _], _ => rfl,
    d_is_row := ⟨⟨⟨oc_is_row, od_is_row, .none, kV_is_row, dc_is_row, pm_is_row, an_is_row, cd_is_row, ct_is_row, sl_is_row, rfl, hl_is_row, hc_is_row⟩⟩, PySem.W.mg_of X G ha_is_row, hk_is_row⟩,
    b_is_row := C8.Fun.binds (st := s_is_row) ⟨⟨oc_is_row, od_is_row, .none, kV_is_row, dc_is_row, pm_is_row, an_is_row, cd_is_row, ct_is_row, sl_is_row, rfl, hl_is_row, hc_is_row⟩⟩ rfl (ps := ["value", "over"]) fun _ _ _ _ _ _ us hl => match us, hl with | [_, _], _ => rfl,
    d_law_state := ⟨⟨⟨oc_law_state, od_law_state, .none, kV_law_state, dc_law_state, pm_law_state, an_law_state, cd_law_state, ct_law_state, sl_law_state, rfl, hl_law_state, hc_law_state⟩⟩, PySem.W.mg_of X G ha_law_state, hk_law_state⟩,
    b_law_state := C8.Fun.binds (st := s_law_state) ⟨⟨oc_law_state, od_law_state, .none, kV_law_state, dc_law_state, pm_law_state, an_law_state, cd_law_state, ct_law_state, sl_law_state, rfl, hl_law_state, hc_law_state⟩⟩ rfl (ps := ["script"]) fun _ _ _ _ _ _ us hl => match us, hl with | [_], _ => rfl,
    d_law_draw := ⟨⟨⟨oc_law_draw, od_law_draw, .none, kV_law_draw, dc_law_draw, pm_law_draw, an_law_draw, cd_law_draw, ct_law_draw, sl_law_draw, rfl, hl_law_draw, hc_law_draw⟩⟩, PySem.W.mg_of X G ha_law_draw, hk_law_draw⟩,
    b_law_draw := C8.Fun.binds (st := s_law_draw) ⟨⟨oc_law_draw, od_law_draw, .none, kV_law_draw, dc_law_draw, pm_law_draw, an_law_draw, cd_law_draw, ct_law_draw, sl_law_draw, rfl, hl_law_draw, hc_law_draw⟩⟩ rfl (ps := ["state", "many"]) fun _ _ _ _ _ _ us hl => match us, hl with | [_, _], _ => rfl,
    d_law_names := ⟨⟨⟨oc_law_names, od_law_names, .none, kV_law_names, dc_law_names, pm_law_names, an_law_names, cd_law_names, ct_law_names, sl_law_names, rfl, hl_law_names, hc_law_names⟩⟩, PySem.W.mg_of X G ha_law_names, hk_law_names⟩,
    b_law_names := C8.Fun.binds (st := s_law_names) ⟨⟨oc_law_names, od_law_names, .none, kV_law_names, dc_law_names, pm_law_names, an_law_names, cd_law_names, ct_law_names, sl_law_names, rfl, hl_law_names, hc_law_names⟩⟩ rfl (ps := ["state", "many"]) fun _ _ _ _ _ _ us hl => match us, hl with | [_, _], _ => rfl,
    d_law_field := ⟨⟨⟨oc_law_field, od_law_field, .none, kV_law_field, dc_law_field, pm_law_field, an_law_field, cd_law_field, ct_law_field, sl_law_field, rfl, hl_law_field, hc_law_field⟩⟩, PySem.W.mg_of X G ha_law_field, hk_law_field⟩,
    b_law_field := C8.Fun.binds (st := s_law_field) ⟨⟨oc_law_field, od_law_field, .none, kV_law_field, dc_law_field, pm_law_field, an_law_field, cd_law_field, ct_law_field, sl_law_field, rfl, hl_law_field, hc_law_field⟩⟩ rfl (ps := ["state"]) fun _ _ _ _ _ _ us hl => match us, hl with | [_], _ => rfl,
    d_law_rows := ⟨⟨⟨oc_law_rows, od_law_rows, .none, kV_law_rows, dc_law_rows, pm_law_rows, an_law_rows, cd_law_rows, ct_law_rows, sl_law_rows, rfl, hl_law_rows, hc_law_rows⟩⟩, PySem.W.mg_of X G ha_law_rows, hk_law_rows⟩,
    b_law_rows := C8.Fun.binds (st := s_law_rows) ⟨⟨oc_law_rows, od_law_rows, .none, kV_law_rows, dc_law_rows, pm_law_rows, an_law_rows, cd_law_rows, ct_law_rows, sl_law_rows, rfl, hl_law_rows, hc_law_rows⟩⟩ rfl (ps := ["state", "things", "width", "over"]) fun _ _ _ _ _ _ us hl => match us, hl with | [_, _, _, _], _ => rfl,
    d_law_told := ⟨⟨⟨oc_law_told, od_law_told, .none, kV_law_told, dc_law_told, pm_law_told, an_law_told, cd_law_told, ct_law_told, sl_law_told, rfl, hl_law_told, hc_law_told⟩⟩, PySem.W.mg_of X G ha_law_told, hk_law_told⟩,
    b_law_told := C8.Fun.binds (st := s_law_told) ⟨⟨oc_law_told, od_law_told, .none, kV_law_told, dc_law_told, pm_law_told, an_law_told, cd_law_told, ct_law_told, sl_law_told, rfl, hl_law_told, hc_law_told⟩⟩ rfl (ps := ["rows", "over"]) fun _ _ _ _ _ _ us hl => match us, hl with | [_, _], _ => rfl,
    d_law_wrong_row := ⟨⟨⟨oc_law_wrong_row, od_law_wrong_row, .none, kV_law_wrong_row, dc_law_wrong_row, pm_law_wrong_row, an_law_wrong_row, cd_law_wrong_row, ct_law_wrong_row, sl_law_wrong_row, rfl, hl_law_wrong_row, hc_law_wrong_row⟩⟩, PySem.W.mg_of X G ha_law_wrong_row, hk_law_wrong_row⟩,
    b_law_wrong_row := C8.Fun.binds (st := s_law_wrong_row) ⟨⟨oc_law_wrong_row, od_law_wrong_row, .none, kV_law_wrong_row, dc_law_wrong_row, pm_law_wrong_row, an_law_wrong_row, cd_law_wrong_row, ct_law_wrong_row, sl_law_wrong_row, rfl, hl_law_wrong_row, hc_law_wrong_row⟩⟩ rfl (ps := ["state", "width", "over"]) fun _ _ _ _ _ _ us hl => match us, hl with | [_, _, _], _ => rfl,
    d_law_refused := ⟨⟨⟨oc_law_refused, od_law_refused, .none, kV_law_refused, dc_law_refused, pm_law_refused, an_law_refused, cd_law_refused, ct_law_refused, sl_law_refused, rfl, hl_law_refused, hc_law_refused⟩⟩, PySem.W.mg_of X G ha_law_refused, hk_law_refused⟩,
    b_law_refused := C8.Fun.binds (st := s_law_refused) ⟨⟨oc_law_refused, od_law_refused, .none, kV_law_refused, dc_law_refused, pm_law_refused, an_law_refused, cd_law_refused, ct_law_refused, sl_law_refused, rfl, hl_law_refused, hc_law_refused⟩⟩ rfl (ps := ["state", "rows", "width", "over"]) fun _ _ _ _ _ _ us hl => match us, hl with | [_, _, _, _], _ => rfl,
    d_law := ⟨⟨⟨oc_law, od_law, .none, kV_law, dc_law, pm_law, an_law, cd_law, ct_law, sl_law, rfl, hl_law, hc_law⟩⟩, PySem.W.mg_of X G ha_law, hk_law⟩,
    b_law := C8.Fun.binds (st := s_law) ⟨⟨oc_law, od_law, .none, kV_law, dc_law, pm_law, an_law, cd_law, ct_law, sl_law, rfl, hl_law, hc_law⟩⟩ rfl (ps := ["script"]) fun _ _ _ _ _ _ us hl => match us, hl with | [_], _ => rfl,
    cl_Rows := ⟨pg_Rows, hd_Rows, po_Rows, sa_Rows⟩,
    mk_Rows := mk_Rows,
    kc_Rows := kc_Rows,
    na_Rows__rows := na_Rows__rows,
    na_Rows__over := na_Rows__over,
    wc_Rows := wc_Rows,
    wg_Rows := wg_Rows,
    wt_Rows := wt_Rows,
    wm_Rows := wm_Rows,
    wk_Rows := if_pos (by simp),
    nc_Rows := ⟨⟨_, _, _, _, _, _, _, _, _, _, _, _, _, _, _, _, xo_Rows⟩, xe_Rows, ha_Rows__eq, hi_Rows__eq⟩,
    ox_NoThing := ⟨⟨_, _, _, _, _, _, _, _, _, _, _, _, _, _, _, xL_NoThing, rfl⟩, xs_NoThing, xb_NoThing, xt_NoThing, xk_NoThing⟩,
    xf_NoThing := ⟨xg_NoThing, xn_NoThing, xb_NoThing, xd_NoThing⟩,
    nx_NoThing_thing := nx_NoThing_thing,
    ox_TooMany := ⟨⟨_, _, _, _, _, _, _, _, _, _, _, _, _, _, _, xL_TooMany, rfl⟩, xs_TooMany, xb_TooMany, xt_TooMany, xk_TooMany⟩,
    xf_TooMany := ⟨xg_TooMany, xn_TooMany, xb_TooMany, xd_TooMany⟩,
    nx_TooMany_limit := nx_TooMany_limit,
    ox_BadRows := ⟨⟨_, _, _, _, _, _, _, _, _, _, _, _, _, _, _, xL_BadRows, rfl⟩, xs_BadRows, xb_BadRows, xt_BadRows, xk_BadRows⟩,
    xf_BadRows := ⟨xg_BadRows, xn_BadRows, xb_BadRows, xd_BadRows⟩,
    nx_BadRows_thing := nx_BadRows_thing,
    xm_BadRows_BadRows := exm_ofB xb_BadRows ic_BadRows yt_BadRows sb_BadRows_BadRows xb_BadRows,
    xm_TooMany_BadRows := exm_ofB xb_TooMany ic_BadRows yt_BadRows sb_TooMany_BadRows xb_BadRows,
    xm_TooMany_TooMany := exm_ofB xb_TooMany ic_TooMany yt_TooMany sb_TooMany_TooMany xb_TooMany,
    xm_NoThing_NoThing := exm_ofB xb_NoThing ic_NoThing yt_NoThing sb_NoThing_NoThing xb_NoThing,
    is_BadRows := ⟨ic_BadRows, ⟨xg_BadRows, xn_BadRows, xb_BadRows, xd_BadRows⟩, xc_BadRows, wgx, wtx, xr_BadRows⟩,
    ky_BadRows_LotError := kit_sub ic_LotError yt_LotError sb_BadRows_LotError (by first | exact .inl rfl | exact .inr (by simp)),
    ky_int_Rows := kit_sub ic_Rows yt_Rows sb_int_Rows (by first | exact .inl rfl | exact .inr (by simp)),
    ky_dict_Rows := kit_sub ic_Rows yt_Rows sb_dict_Rows (by first | exact .inl rfl | exact .inr (by simp)),
    nf_int_Rows := nf_of sb_int_Rows,
    nf_dict_Rows := nf_of sb_dict_Rows,
    z_all := PySem.W.mg_none_of X G z_all,
    z_bool := PySem.W.mg_none_of X G z_bool,
    z_dict := PySem.W.mg_none_of X G z_dict,
    z_int := PySem.W.mg_none_of X G z_int,
    z_isinstance := PySem.W.mg_none_of X G z_isinstance,
    z_len := PySem.W.mg_none_of X G z_len,
    z_list := PySem.W.mg_none_of X G z_list,
    z_max := PySem.W.mg_none_of X G z_max,
    z_min := PySem.W.mg_none_of X G z_min,
    z_range := PySem.W.mg_none_of X G z_range,
    z_sorted := PySem.W.mg_none_of X G z_sorted,
    z_str := PySem.W.mg_none_of X G z_str,
    g_LONGEST_NAME := ⟨_, PySem.W.mg_of X G g_LONGEST_NAME⟩,
    g_MOST_THINGS := ⟨_, PySem.W.mg_of X G g_MOST_THINGS⟩,
    g_GREATEST_WIDTH := ⟨_, PySem.W.mg_of X G g_GREATEST_WIDTH⟩ }, fun s u => .of_eq rfl⟩
theorem walk {l : PySem.W.OpenLaw} {q : Program} {loose : List Str} {XP : (Str → Option Value) → Heap → Prop} {YP : World → Heap → Prop} {d : DefRec} {K : Params → PySem.W.Frag} (hn : l.most = some 63) (hdf : d.params.defaults = []) (hnm : d.name = "law")
    (hY : ∀ (w : World) (h : Heap), YP w h → (K w.params).In h)
    (F : ∀ (w : World) (mg : Str → Option Value) (h : Heap), (K w.params).In h → h.Ns mainGlobals mg → ∃ A : Ad, Txt (K w.params) mg A ∧ ∀ (s : Shared) (u : Value), BindsTo s A.fd_law ⟨[u], []⟩ [("script", u)]) :
    PySem.W.WalkO q loose XP YP l.row.toRowW d [] (fun f vs => PySem.call f vs) := by
  refine L2.walk_of (n := 63) (k := 8) (x := "script") (CX := fun _ => C8.CX0) (sp := fun w => spLaw (K w.params)) hn (by decide) hdf ⟨rfl, by decide, by decide⟩ hY (fun w mg fa h KX G hmg => ?_) (fun _ _ a ns hl _ hS => ⟨a, ns, rfl, hS, hl, fun _ => rfl⟩) fun _ _ _ _ _ z => z
  obtain ⟨A, T, hb⟩ := F w mg h KX G
  rw [hnm] at hmg
  have e := hmg.symm.trans T.d_law.mgf
  cases e
  exact ⟨A.fd_law, hb, fun base _ _ => ok_law T⟩
end BF43
open PySem PySem.W PyProof.Rows in
set_option maxRecDepth 100000 in
set_option maxHeartbeats 0 in
theorem PySem.Challenge.cw_bothfree_k43_rows_made_and_refused_holds : PySem.Challenge.rw_bothfree_k43_rows_made_and_refused.Holds := by
  w_on; o_law; k_head; (case hw => w_witness2)
  k_fill
  refine BF43.walk (l := PySem.Challenge.rw_bothfree_k43_rows_made_and_refused) rfl rfl rfl (fun w h Y => PySem.W.kIn_of Y) ?F
  case F =>
    intro w mg h KX G
    refine' BF43.all_mk KX G ?hgC_LotError ?hgC_NoThing ?hgC_TooMany ?hgC_BadRows ?hgC_Rows ?ha_NoThing__init ?hi_NoThing__init ?hl_NoThing__init ?hc_NoThing__init ?hk_NoThing__init ?ha_TooMany__init ?hi_TooMany__init ?hl_TooMany__init ?hc_TooMany__init ?hk_TooMany__init ?ha_BadRows__init ?hi_BadRows__init ?hl_BadRows__init ?hc_BadRows__init ?hk_BadRows__init ?ha_is_integer ?hl_is_integer ?hc_is_integer ?hk_is_integer ?ha_is_name ?hl_is_name ?hc_is_name ?hk_is_name ?ha_Rows__init ?hi_Rows__init ?hl_Rows__init ?hc_Rows__init ?hk_Rows__init ?ha_Rows_things ?hi_Rows_things ?hl_Rows_things ?hc_Rows_things ?hk_Rows_things ?ha_Rows_rows ?hi_Rows_rows ?hl_Rows_rows ?hc_Rows_rows ?hk_Rows_rows ?ha_Rows_row ?hi_Rows_row ?hl_Rows_row ?hc_Rows_row ?hk_Rows_row ?ha_Rows_width ?hi_Rows_width ?hl_Rows_width ?hc_Rows_width ?hk_Rows_width ?ha_Rows_over ?hi_Rows_over ?hl_Rows_over ?hc_Rows_over ?hk_Rows_over ?ha_Rows__eq ?hi_Rows__eq ?hl_Rows__eq ?hc_Rows__eq ?hk_Rows__eq ?ha_checked_rows ?hl_checked_rows ?hc_checked_rows ?hk_checked_rows ?ha_is_row ?hl_is_row ?hc_is_row ?hk_is_row ?ha_law_state ?hl_law_state ?hc_law_state ?hk_law_state ?ha_law_draw ?hl_law_draw ?hc_law_draw ?hk_law_draw ?ha_law_names ?hl_law_names ?hc_law_names ?hk_law_names ?ha_law_field ?hl_law_field ?hc_law_field ?hk_law_field ?ha_law_rows ?hl_law_rows ?hc_law_rows ?hk_law_rows ?ha_law_told ?hl_law_told ?hc_law_told ?hk_law_told ?ha_law_wrong_row ?hl_law_wrong_row ?hc_law_wrong_row ?hk_law_wrong_row ?ha_law_refused ?hl_law_refused ?hc_law_refused ?hk_law_refused ?ha_law ?hl_law ?hc_law ?hk_law ?pg_Rows ?hd_Rows ?po_Rows ?sa_Rows ?mk_Rows ?kc_Rows ?na_Rows__rows ?na_Rows__over ?wc_Rows ?wg_Rows ?wt_Rows ?wm_Rows ?xo_Rows ?xe_Rows ?xL_NoThing ?xs_NoThing ?xb_NoThing ?xt_NoThing ?xk_NoThing ?xg_NoThing ?xn_NoThing ?xd_NoThing ?nx_NoThing_thing ?xL_TooMany ?xs_TooMany ?xb_TooMany ?xt_TooMany ?xk_TooMany ?xg_TooMany ?xn_TooMany ?xd_TooMany ?nx_TooMany_limit ?xL_BadRows ?xs_BadRows ?xb_BadRows ?xt_BadRows ?xk_BadRows ?xg_BadRows ?xn_BadRows ?xd_BadRows ?nx_BadRows_thing ?ic_BadRows ?yt_BadRows ?sb_BadRows_BadRows ?sb_TooMany_BadRows ?ic_TooMany ?yt_TooMany ?sb_TooMany_TooMany ?ic_NoThing ?yt_NoThing ?sb_NoThing_NoThing ?xc_BadRows ?wgx ?wtx ?xr_BadRows ?ic_LotError ?yt_LotError ?sb_BadRows_LotError ?ic_Rows ?yt_Rows ?sb_int_Rows ?sb_dict_Rows ?z_all ?z_bool ?z_dict ?z_int ?z_isinstance ?z_len ?z_list ?z_max ?z_min ?z_range ?z_sorted ?z_str ?g_LONGEST_NAME ?g_MOST_THINGS ?g_GREATEST_WIDTH
    (case hgC_LotError => k_is)
    (case hgC_NoThing => k_is)
    (case hgC_TooMany => k_is)
    (case hgC_BadRows => k_is)
    (case hgC_Rows => k_is)
    (case ha_NoThing__init => k_is)
    (case hi_NoThing__init => k_is)
    (case hl_NoThing__init => k_is)
    (case hc_NoThing__init => k_is)
    (case hk_NoThing__init => k_is)
    (case ha_TooMany__init => k_is)
    (case hi_TooMany__init => k_is)
    (case hl_TooMany__init => k_is)
    (case hc_TooMany__init => k_is)
    (case hk_TooMany__init => k_is)
    (case ha_BadRows__init => k_is)
    (case hi_BadRows__init => k_is)
    (case hl_BadRows__init => k_is)
    (case hc_BadRows__init => k_is)
    (case hk_BadRows__init => k_is)
    (case ha_is_integer => k_is)
    (case hl_is_integer => k_is)
    (case hc_is_integer => k_is)
    (case hk_is_integer => k_is)
    (case ha_is_name => k_is)
    (case hl_is_name => k_is)
    (case hc_is_name => k_is)
    (case hk_is_name => k_is)
    (case ha_Rows__init => k_is)
    (case hi_Rows__init => k_is)
    (case hl_Rows__init => k_is)
    (case hc_Rows__init => k_is)
    (case hk_Rows__init => k_is)
    (case ha_Rows_things => k_is)
    (case hi_Rows_things => k_is)
    (case hl_Rows_things => k_is)
    (case hc_Rows_things => k_is)
    (case hk_Rows_things => k_is)
    (case ha_Rows_rows => k_is)
    (case hi_Rows_rows => k_is)
    (case hl_Rows_rows => k_is)
    (case hc_Rows_rows => k_is)
    (case hk_Rows_rows => k_is)
    (case ha_Rows_row => k_is)
    (case hi_Rows_row => k_is)
    (case hl_Rows_row => k_is)
    (case hc_Rows_row => k_is)
    (case hk_Rows_row => k_is)
    (case ha_Rows_width => k_is)
    (case hi_Rows_width => k_is)
    (case hl_Rows_width => k_is)
    (case hc_Rows_width => k_is)
    (case hk_Rows_width => k_is)
    (case ha_Rows_over => k_is)
    (case hi_Rows_over => k_is)
    (case hl_Rows_over => k_is)
    (case hc_Rows_over => k_is)
    (case hk_Rows_over => k_is)
    (case ha_Rows__eq => k_is)
    (case hi_Rows__eq => k_is)
    (case hl_Rows__eq => k_is)
    (case hc_Rows__eq => k_is)
    (case hk_Rows__eq => k_is)
    (case ha_checked_rows => k_is)
    (case hl_checked_rows => k_is)
    (case hc_checked_rows => k_is)
    (case hk_checked_rows => k_is)
    (case ha_is_row => k_is)
    (case hl_is_row => k_is)
    (case hc_is_row => k_is)
    (case hk_is_row => k_is)
    (case ha_law_state => k_is)
    (case hl_law_state => k_is)
    (case hc_law_state => k_is)
    (case hk_law_state => k_is)
    (case ha_law_draw => k_is)
    (case hl_law_draw => k_is)
    (case hc_law_draw => k_is)
    (case hk_law_draw => k_is)
    (case ha_law_names => k_is)
    (case hl_law_names => k_is)
    (case hc_law_names => k_is)
    (case hk_law_names => k_is)
    (case ha_law_field => k_is)
    (case hl_law_field => k_is)
    (case hc_law_field => k_is)
    (case hk_law_field => k_is)
    (case ha_law_rows => k_is)
    (case hl_law_rows => k_is)
    (case hc_law_rows => k_is)
    (case hk_law_rows => k_is)
    (case ha_law_told => k_is)
    (case hl_law_told => k_is)
    (case hc_law_told => k_is)
    (case hk_law_told => k_is)
    (case ha_law_wrong_row => k_is)
    (case hl_law_wrong_row => k_is)
    (case hc_law_wrong_row => k_is)
    (case hk_law_wrong_row => k_is)
    (case ha_law_refused => k_is)
    (case hl_law_refused => k_is)
    (case hc_law_refused => k_is)
    (case hk_law_refused => k_is)
    (case ha_law => k_is)
    (case hl_law => k_is)
    (case hc_law => k_is)
    (case hk_law => k_is)
    (case pg_Rows => k_is)
    (case hd_Rows => k_is)
    (case po_Rows => k_is)
    (case sa_Rows => k_is)
    (case mk_Rows => k_is)
    (case kc_Rows => k_is)
    (case na_Rows__rows => k_is)
    (case na_Rows__over => k_is)
    (case wc_Rows => k_is)
    (case wg_Rows => k_is)
    (case wt_Rows => k_is)
    (case wm_Rows => k_is)
    (case xo_Rows => k_is)
    (case xe_Rows => k_is)
    (case xL_NoThing => k_is)
    (case xs_NoThing => k_is)
    (case xb_NoThing => k_is)
    (case xt_NoThing => k_is)
    (case xk_NoThing => k_is)
    (case xg_NoThing => k_is)
    (case xn_NoThing => k_is)
    (case xd_NoThing => k_is)
    (case nx_NoThing_thing => k_is)
    (case xL_TooMany => k_is)
    (case xs_TooMany => k_is)
    (case xb_TooMany => k_is)
    (case xt_TooMany => k_is)
    (case xk_TooMany => k_is)
    (case xg_TooMany => k_is)
    (case xn_TooMany => k_is)
    (case xd_TooMany => k_is)
    (case nx_TooMany_limit => k_is)
    (case xL_BadRows => k_is)
    (case xs_BadRows => k_is)
    (case xb_BadRows => k_is)
    (case xt_BadRows => k_is)
    (case xk_BadRows => k_is)
    (case xg_BadRows => k_is)
    (case xn_BadRows => k_is)
    (case xd_BadRows => k_is)
    (case nx_BadRows_thing => k_is)
    (case ic_BadRows => k_is)
    (case yt_BadRows => k_is)
    (case sb_BadRows_BadRows => k_is)
    (case sb_TooMany_BadRows => k_is)
    (case ic_TooMany => k_is)
    (case yt_TooMany => k_is)
    (case sb_TooMany_TooMany => k_is)
    (case ic_NoThing => k_is)
    (case yt_NoThing => k_is)
    (case sb_NoThing_NoThing => k_is)
    (case xc_BadRows => k_is)
    (case wgx => k_is)
    (case wtx => k_is)
    (case xr_BadRows => k_is)
    (case ic_LotError => k_is)
    (case yt_LotError => k_is)
    (case sb_BadRows_LotError => k_is)
    (case ic_Rows => k_is)
    (case yt_Rows => k_is)
    (case sb_int_Rows => k_is)
    (case sb_dict_Rows => k_is)
    (case z_all => k_is)
    (case z_bool => k_is)
    (case z_dict => k_is)
    (case z_int => k_is)
    (case z_isinstance => k_is)
    (case z_len => k_is)
    (case z_list => k_is)
    (case z_max => k_is)
    (case z_min => k_is)
    (case z_range => k_is)
    (case z_sorted => k_is)
    (case z_str => k_is)
    (case g_LONGEST_NAME => k_is)
    (case g_MOST_THINGS => k_is)
    (case g_GREATEST_WIDTH => k_is)
