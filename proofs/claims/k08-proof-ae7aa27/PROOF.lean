import PyProof.Rows.All
import Wide.All
import OpenK.AllK
import Wide.FinOn
import HandS.ForMost
import HandS.ForExc
import HandS.ExcInit
import HandS.ExcField
import HandS.TryMany
import HandS.SetKeys
import HandS.CallLocal
import HandS.Codes
import HandS.More
import HandS.Style
import HandS.TupAny
import HandS.DictComp
import HandS.IsInst
import HandS.NoneIn
import HandS.Finally
import HandS.OwnEq
import HandS.Walk
import KE.Datum
import HandS.EndBits
import PySem.Challenge.RW_bothfree_k08_webs_told_and_refused
set_option Elab.async false
set_option linter.all false
set_option maxRecDepth 100000
set_option maxHeartbeats 4000000
/-! What the laws of this program share: bundles of defs that may raise, several except clauses with names, calls. -/
namespace BF
open PySem PySem.Spec PyProof.Rows L2

section
variable {X : Cx}
theorem pe_gint {x : Str} {i : Int} {pos : Pos} (hg : Gl X x) (hm : ∃ t, X.mg x = some (.int i t)) (hd : (x == ("__debug__" : Str)) = false := by decide) : PE X (.Name x pos) (tC (.int i)) := by
  obtain ⟨t, hm⟩ := hm
  exact pe_glob hg hm ⟨t, rfl⟩ hd
end
theorem exm_ofB {K : PySem.W.Frag} {a S : Addr} {r : Bool} (h1 : PySem.W.subIn K (.ref a) (.type "BaseException") = some true) (h2 : PySem.W.isClsIn K S = true) (h3 : PySem.W.typeIn K (.ref S) = some (.type "type")) (h4 : PySem.W.subIn K (.ref a) (.ref S) = some r) (h5 : PySem.W.subIn K (.ref S) (.type "BaseException") = some true) :
    PySem.W.exmOne K (.ref a) (.ref S) = some r := by
  have e1 : (PySem.W.subIn K (.ref S) (.type "BaseException") == some true) = true := by rw [h5] <;> rfl
  have e2 : ((PySem.W.clsIn K S).isSome && PySem.W.typeIn K (.ref S) == some (.type "type")) = true :=
    Bool.and_eq_true_iff.mpr ⟨h2, beq_iff_eq.mpr h3⟩
  show (if (PySem.W.subIn K (.ref S) (.type "BaseException") == some true) = true then (if ((PySem.W.clsIn K S).isSome && PySem.W.typeIn K (.ref S) == some (.type "type")) = true then PySem.W.subIn K (.ref a) (.ref S) else none) else none) = some r
  rw [if_pos e1, if_pos e2]
  exact h4

/-! ### defs that may raise -/
section
variable {P : Program} {w : World} {K : PySem.W.Frag} {mg : Str → Option Value} {base : Heap}
structure CalX (P : Program) (w : World) (K : PySem.W.Frag) (mg : Str → Option Value) (base : Heap) (k : Nat) (x : Str) (sp : Sp) : Prop where
  ex : ∃ (f : Addr) (fd : FuncData) (ps : List Str), FnOk P w K mg base (L2.CX P w) k f fd ps sp ∧ mg x = some (.ref f) ∧ PySem.W.keepIn K (.ref f) = true ∧ Binds K fd ps []
structure MakX (P : Program) (w : World) (K : PySem.W.Frag) (mg : Str → Option Value) (base : Heap) (k : Nat) (x : Str) (C : Addr) (sp : Sp) : Prop where
  ex : ∃ (f : Addr) (fd : FuncData) (ps : List Str), Mk K C f ∧ FnOk P w K mg base (L2.CX P w) k f fd ps sp ∧ mg x = some (.ref C) ∧ Binds K fd ps []
structure MetX (P : Program) (w : World) (K : PySem.W.Frag) (mg : Str → Option Value) (base : Heap) (k : Nat) (C : Addr) (m : Str) (sp : Sp) : Prop where
  ex : ∃ (f : Addr) (fd : FuncData) (ps : List Str), Cls K C ∧ Meth K C m f ∧ FnOk P w K mg base (L2.CX P w) k f fd ps sp ∧ Binds K fd ps []
/-- the body's proof of a def that may raise -/
theorem fnX {x qual : Str} {st : Stmt} {f : Addr} {fd : FuncData} {N ps : List Str} {k : Nat} {sp : Sp} (F : C8.Fun K x qual st f fd) (S : FnScope N ps (C8.fnScope st)) (len : ∀ vs H Q E, sp vs H Q E → vs.length = ps.length)
    (hbody : ∀ (cdv : Value) (A : Around) (outer : List Env) (s : Shared) (H : Hp) (vs : List V) (Q : VK) (E : XK), Room k (A.deeper (envOfC qual (C8.fnScope st) s.heap.objs.size f cdv)) → sp vs H Q E →
      ∃ t, PSs (cxOf (L2.CX P w) P w K mg base N qual (C8.fnScope st) f cdv A outer s H E) (C8.fnBody st) t ∧ t { nx := fun _ H' => Q .non H', rt := Q } (start N vs) H) : FnOk P w K mg base (L2.CX P w) (k + 1) f fd ps sp := by
  obtain ⟨_, _, _, _, _, _, _, _, _, _, rfl, stands, code⟩ := F.ex
  exact fn_of stands code S len fun B above t G us R Z room pr => hbody _ B above t G us R Z room pr
end
section
variable {X : Cx} {k j : Nat} {C f : Addr} {x m : Str} {sp : Sp} {p pos apos : Pos} {e o : Expr} {es : List Expr} {ta : TE} {t : TA} {W : WX}
/-- a call of a def that may raise, in a def that lets it out -/
theorem pe_cX {E : XK} (c : CalX X.prog X.w X.K X.mg X.base k x sp) (hr : Room j X.A) (hk : k ≤ j) (hg : Gl X x) (ha : PA X (e :: es) t) (tk : Takes X (fun cls d _ H => E cls d H))
    (hdb : (x == ("__debug__" : Str)) = false := by decide) (he : starEach (e :: es) X.env = (false, eval e X.env) :: starEach es X.env := by rfl) (hpl : (backTo pos (starEach es X.env)).any (·.1) = false := by rfl) :
    PE X (.Call (.Name x p) (e :: es) [] pos) (tCall sp [] E t) := by
  obtain ⟨f, fd, ps, F, hm, kp, b⟩ := c.ex
  exact pe_call F (hr.mono hk) hg hm kp b .nil (passes_call tk fun _ _ _ _ h => h) ha hdb he hpl
/-- .. in a try's body -/
theorem pe_cS (c : CalX X.prog X.w X.K X.mg X.base k x sp) (hr : Room j X.A) (hk : k ≤ j) (hg : Gl X x) {E : L2.St → XK} (hx : ∀ σ, PassesAt (L2.CX X.prog X.w) X σ (E σ)) (ha : PA X (e :: es) t)
    (hdb : (x == ("__debug__" : Str)) = false := by decide) (he : starEach (e :: es) X.env = (false, eval e X.env) :: starEach es X.env := by rfl) (hpl : (backTo pos (starEach es X.env)).any (·.1) = false := by rfl) :
    PE X (.Call (.Name x p) (e :: es) [] pos) (tCallS sp E t) := by
  obtain ⟨f, fd, ps, F, hm, kp, b⟩ := c.ex
  exact pe_callS F (hr.mono hk) hg hm kp b hx ha hdb he hpl
theorem passN {X : Cx} {CX : CXT} {P : Program} {w : World} (h : CX = L2.CX P w) : Passes CX X (fun _ _ _ => False) := by
  subst h
  intro _ _ _ _ _ _ _ h
  obtain ⟨_, _, _, _, _, _, _, _, _, _, _, _, z⟩ := h
  exact z.elim
/-- a call of a def that may raise where it is known that it raises nothing -/
theorem pe_cN (c : CalX X.prog X.w X.K X.mg X.base k x sp) (hr : Room j X.A) (hk : k ≤ j) (hg : Gl X x) (ha : PA X (e :: es) t)
    (hdb : (x == ("__debug__" : Str)) = false := by decide) (he : starEach (e :: es) X.env = (false, eval e X.env) :: starEach es X.env := by rfl) (hpl : (backTo pos (starEach es X.env)).any (·.1) = false := by rfl) :
    PE X (.Call (.Name x p) (e :: es) [] pos) (tCall sp [] (fun _ _ _ => False) t) := by
  obtain ⟨f, fd, ps, F, hm, kp, b⟩ := c.ex
  exact pe_call F (hr.mono hk) hg hm kp b .nil (passN rfl) ha hdb he hpl
theorem pe_mkN (c : MakX X.prog X.w X.K X.mg X.base k x C sp) (hr : Room j X.A) (hk : k + 1 ≤ j) (hg : Gl X x) (ha : PA X (e :: es) t)
    (hdb : (x == ("__debug__" : Str)) = false := by decide) (he : starEach (e :: es) X.env = (false, eval e X.env) :: starEach es X.env := by rfl) (hpl : (backTo pos (starEach es X.env)).any (·.1) = false := by rfl) :
    PE X (.Call (.Name x p) (e :: es) [] pos) (tMake C sp [] (fun _ _ _ => False) t) := by
  obtain ⟨f, fd, ps, M, F, hm, b⟩ := c.ex
  exact pe_make M F (hr.mono hk) hg hm b .nil (passN rfl) ha hdb he hpl
/-- C(..) in a try's body: the new instance and its dict are dropped where __init__ raises -/
def tMakeS (C : Addr) (sp : Sp) (E : L2.St → XK) (t : TA) : TE := fun σ H Q => t σ H fun vs H1 => ∀ x dx, H1 x = none → H1 dx = none → dx ≠ x →
  sp (.ref x :: vs) (upd (upd H1 dx (.own x)) x (.ins C dx [])) (fun v H2 => v = .non ∧ Q (.ref x) H2) (E σ)
theorem pe_mkS (c : MakX X.prog X.w X.K X.mg X.base k x C sp) (hr : Room j X.A) (hk : k + 1 ≤ j) (hg : Gl X x) {E : L2.St → XK} (hx : ∀ σ, PassesAt (L2.CX X.prog X.w) X σ (E σ)) (ha : PA X (e :: es) t)
    (hdb : (x == ("__debug__" : Str)) = false := by decide) (he : starEach (e :: es) X.env = (false, eval e X.env) :: starEach es X.env := by rfl) (hpl : (backTo pos (starEach es X.env)).any (·.1) = false := by rfl) :
    PE X (.Call (.Name x p) (e :: es) [] pos) (tMakeS C sp E t) := by
  obtain ⟨fI, data, names, M, F, glob, binds⟩ := c.ex
  have room := hr.mono hk
  constructor
  intro pins s σ H Q I w
  refine wpAny_Call_Name_kw (ld_glob I hg glob (PySem.W.callWith_K (h₀ := X.base) I.ok.mod.kin M.kp (thn (ha.run pos pins s σ H _ I w) ?_) he hpl) hdb)
  rintro us t ⟨vs, G, J, rel, w⟩
  refine ⟨J.kIn, ?_⟩
  let n := t.heap.objs.size
  have sat := w (n + 1) n (J.hok.fresh (Nat.le_succ _)) (J.hok.fresh (Nat.le_refl _)) (Nat.ne_of_lt (Nat.lt_succ_self _))
  have made := Inv.made (C := C) J
  have args : Vals (V.ref (n + 1) :: vs) (Value.ref (n + 1) :: us) := .cons rfl rel
  have many : (Value.ref (n + 1) :: us).length = names.length := args.length.symm.trans (F.len _ _ _ _ sat)
  have bound := binds _ (Value.ref (n + 1) :: us) made.kIn ((congrArg List.length (List.append_nil _)).trans many)
  rw [List.append_nil] at bound
  have runs := F.run _ X.stack _ _ ⟨Value.ref (n + 1) :: us, []⟩ (Value.ref (n + 1) :: us) _ _ (E σ) (room.make C us []) (made.env0.make C us []) bound args sat
  refine wpAny_call (make_map (f := fI) J.kIn M.makes M.init (beq_iff_eq.mp M.fn) (codeAny_mono runs fun out t2 q => ?_))
  match out, q with
  | .error e, q => exact hx σ pins _ _ e t2 made q
  | .ok (.ret u), q =>
    obtain ⟨v, G2, J2, rv, ev, q2⟩ := made.after q
    cases ev
    exact ⟨rv, V.ref (n + 1), G2, J2, rfl, q2⟩
/-- o.m(..) of a method that may raise, in a try's body -/
def tMethS (C : Addr) (m : Str) (sp : Sp) (E : L2.St → XK) (ta : TE) (t : TA) : TE := fun σ H Q => ta σ H fun x H1 => ∃ a dx fs, x = .ref a ∧ H1 a = some (.ins C dx fs) ∧ fs.lookup m = none ∧
  t σ H1 fun vs H2 => sp (x :: vs) H2 Q (E σ)
/-- a local name that holds a def -/
theorem pe_cl {i : Nat} {f : Addr} (c : C8.CalAt X.prog X.w X.K X.mg X.base k f sp) (hr : Room j X.A) (hk : k ≤ j) (hN : X.N[i]? = some x) (hv : Vis X.env.scope x) (ha : PA X (e :: es) t)
    (hdb : (x == ("__debug__" : Str)) = false := by decide) (hcd : (x == ("__classdict__" : Str)) = false := by decide)
    (he : starEach (e :: es) X.env = (false, eval e X.env) :: starEach es X.env := by rfl) (hpl : (backTo pos (starEach es X.env)).any (·.1) = false := by rfl) : PE X (.Call (.Name x p) (e :: es) [] pos) (tCallL i f sp [] C8.E0 t) := by
  obtain ⟨fd, ps, F, kp, b⟩ := c.ex
  exact pe_callL F (hr.mono hk) hN hv kp b .nil C8.pass0 ha hdb hcd he hpl
end
end BF
namespace BF
open PySem PySem.Spec PyProof.Rows L2
/-! ### errors with one field -/
section
variable {P : Program} {w : World} {K : PySem.W.Frag} {mg : Str → Option Value} {base : Heap}
def spErrInit (C : Addr) (field : Str) : Sp := fun vs H Q _ => ∃ (a : Addr) (v : V), vs = [.ref a, v] ∧ H a = some (exo a C none) ∧ ∀ dx, H dx = none → dx ≠ a → Q .non (upd (upd H dx (exd dx [(field, v)])) a (exo a C (some dx)))
theorem ok_errinit {C f : Addr} {fd : FuncData} {st : Stmt} {qual field pn : Str} {q1 q2 q3 q4 : Pos} (F : C8.Fun K "__init__" qual st f fd) (S : FnScope ["self", pn] ["self", pn] (C8.fnScope st))
    (hb : C8.fnBody st = [.Assign [.Attribute (.Name "self" q1) field q2] (.Name pn q3) q4]) (ox : OexC K C) (nx : PySem.W.findIn K (.ref C) field = some none) (vs1 : (C8.fnScope st).names.lookup pn = some .local) (vs0 : (C8.fnScope st).names.lookup ("self" : Str) = some .local)
    (d1 : (pn == ("__debug__" : Str)) = false) (c1 : (pn == ("__classdict__" : Str)) = false) (sw : ∀ env, swapsWith (.Name pn q3) (some (.Attribute (.Name "self" q1) field q2)) q4.line env = pure false) : FnOk P w K mg base C8.CX0 1 f fd ["self", pn] (spErrInit C field) := by
  refine C8.fn0 F S (fun vs H Q E h => ?_) (fun cdv A outer s H vs Q E hr h => ?_)
  · obtain ⟨a, v, rfl, _⟩ := h
    rfl
  · obtain ⟨a, v, rfl, ha, k⟩ := h
    rw [hb]
    refine ⟨_, pss_one (ps_ost (pe_var (i := 0) rfl (.inl vs0)) (pe_var (i := 1) rfl (.inl vs1) d1 c1) (sw _)), ?_⟩
    exact ⟨v, rfl, _, rfl, a, C, rfl, ox, nx, .inl ⟨ha, fun dx hdx ne => k dx hdx ne⟩⟩
end
section
variable {X : Cx}
/-- X(e), X's __init__ keeping its argument in a field: the exception's own dict d is new -/
def tErr (C : Addr) (field : Str) (ta : TA) : L2.St → Hp → XK → Prop := fun σ H Q => ta σ H fun vs H1 => ∃ v, vs = [v] ∧ ∀ d H', H1 d = none → Same H1 H' → H' d = some (.xd [(field, v)]) → Q (.ref C) (some d) H'
theorem pmk_err {x field pn : Str} {C fI : Addr} {fd : FuncData} {e : Expr} {ta : TA} {p pos : Pos} (T : OexC X.K C) (iC : PySem.W.findIn X.K (.ref C) "__init__" = some (some (.ref fI))) (tI : PySem.W.isFn X.K (.ref fI) = true)
    (F1 : FnOk X.prog X.w X.K X.mg X.base C8.CX0 1 fI fd ["self", pn] (spErrInit C field)) (hr : Room 2 X.A) (hb : Binds X.K fd ["self", pn] []) (hg : Gl X x) (hm : X.mg x = some (.ref C)) (ha : PA X [e] ta)
    (hdb : (x == ("__debug__" : Str)) = false := by decide) (he : starEach (e :: []) X.env = (false, eval e X.env) :: starEach [] X.env := by rfl) (hpl : (backTo pos (starEach [] X.env)).any (·.1) = false := by rfl) :
    PMk X (.Call (.Name x p) [e] [] pos) (tErr C field ta) := by
  intro pins s σ H Q I h
  refine pmk_oex T iC (beq_iff_eq.mp tI) F1 hr hb .nil C8.pass0 hg hm (ta := fun σ H R => ta σ H (fun vs H1 => ∃ v, vs = [v] ∧ ∀ d H', H1 d = none → Same H1 H' → H' d = some (.xd [(field, v)]) → Q (.ref C) (some d) H') ∧
      ∀ vs H1, (∃ v, vs = [v] ∧ ∀ d H', H1 d = none → Same H1 H' → H' d = some (.xd [(field, v)]) → Q (.ref C) (some d) H') → R vs H1) ?_ hdb he hpl pins s σ H Q I ⟨h, ?_⟩
  · exact ⟨fun pos pins s σ H R I h => thn (ha.run pos pins s σ H _ I h.1) fun us s1 ⟨vs, H1, I1, r1, q⟩ => ⟨vs, H1, I1, r1, h.2 _ _ q⟩⟩
  · rintro vs H1 ⟨v, rfl, k⟩
    refine ⟨by show 1 ≤ 1000; decide, fun a na => ⟨a, v, rfl, upd_same, fun dx hdx ne => ⟨rfl, dx, [(field, v)], upd_same, Eq.trans (upd_ne ne) upd_same, ?_, ?_⟩⟩⟩
    · rw [upd_ne ne] at hdx
      exact hdx
    · have hd1 : H1 dx = none := by
        rw [upd_ne ne] at hdx
        exact hdx
      refine k dx _ hd1 (fun b o e => ?_) upd_same
      rw [upd_ne (ne_of_none e hd1), del_ne (ne_of_none e na), upd_ne (ne_of_none e na), upd_ne (ne_of_none e hd1), upd_ne (ne_of_none e na)]
      exact e
end
end BF
set_option Elab.async false
set_option linter.all false
set_option maxRecDepth 100000
set_option maxHeartbeats 4000000
/-! A try whose clauses all bear names: the library has one clause with a name, or several without; here both at once. -/
namespace BF
open PySem PySem.Spec PyProof.Rows L2
abbrev Cls3 := Value × Nat × (Addr → Value → Option Addr → TS)
/-- a suite's ends, the clause's name taken away behind it -/
def Ends.bare (i : Nat) (D : Ends) : Ends := { nx := fun σ H => D.nx (σ.set i none) H, rt := D.rt, bk := fun σ H => D.bk (σ.set i none) H, ct := fun σ H => D.ct (σ.set i none) H }
/-- what named clauses (class, slot, suite) ask of an exception of class cls: the first that fits runs, Wout where none fits -/
def wManyA (K : PySem.W.Frag) (Wout : WX) (D : Ends) : List Cls3 → WX
  | [] => Wout
  | q :: r => fun cls d σ H => ∃ b, PySem.W.exmOne K cls q.1 = some b ∧ (b = true → ∀ a, H a = none → q.2.2 a cls d (Ends.bare q.2.1 D) (σ.set q.2.1 (some (.ref a))) H) ∧ (b = false → wManyA K Wout D r cls d σ H)
/-- clauses and their readings -/
inductive HdsA (X : Cx) : List ExceptHandler → List Cls3 → Prop
  | nil : HdsA X [] []
  | cons {cn nm : Str} {c : Value} {i : Nat} {ts : Addr → Value → Option Addr → TS} {st : Stmt} {sts : List Stmt} {p1 p2 : Pos} {rest : List ExceptHandler} {l : List Cls3} (slot : X.N[i]? = some nm) (loc : X.env.kindOf nm = some .local) (cls : Names X cn c)
      (run : ∀ (a : Addr) (ob : Obj) (k : Value) (d : Option Addr) (pn : List (Addr × Obj)), Zc k d ob → (∃ vs, ob.data = .fields vs) → PSs (X.suite a ((a, ob) :: pn)) (st :: sts) (ts a k d)) (more : HdsA X rest l) :
      HdsA X (.ExceptHandler (some (.Name cn p1)) (some nm) (st :: sts) p2 :: rest) ((c, i, ts) :: l)
/-- an exception at a, of class cls and with the dict d, lies in the heap of s, caught -/
structure Lies (X : Cx) (pins : List (Addr × Obj)) (σ : L2.St) (H : Hp) (B : Heap) (a : Addr) (cls : Value) (d : Option Addr) (s : Shared) : Prop where
  fly : HandSPX.FlyingZ B (X.env :: X.outer) a (Zc cls d) s.heap
  inv : Inv X pins σ H s
  new : H a = none
  back : ∀ g, HandSPX.FlyingZ B (X.env :: X.outer) a (Zc cls d) g → s.heap.UpToSlots g → Inv X pins σ H { s with heap := g }
  out : ∀ W : WX, W cls d σ H → ∀ g, HandSPX.HeldZ B (X.env :: X.outer) a (Zc cls d) X.env.locals g → s.heap.UpToSlots g → XE X W (.ref a) { s with heap := g }
section
variable {X : Cx} {pins : List (Addr × Obj)} {σ : L2.St} {H : Hp} {B : Heap} {a : Addr} {cls : Value} {d : Option Addr} {s : Shared}
/-- the room of a suite that handles it -/
theorem Lies.room (L : Lies X pins σ H B a cls d s) (fr : X.env.frame = some X.env.locals) :
    ∃ ob, s.heap.get? a = some ob ∧ Zc cls d ob ∧ (∃ vs, ob.data = .fields vs) ∧ Inv (X.suite a ((a, ob) :: (X.pn ++ pins))) [] σ H s := by
  obtain ⟨ob, vs, g1, g2, g3⟩ := L.fly.there
  have far : a ∉ frs (X.env :: X.outer) := fun q => by
    obtain ⟨_, o2, g4, bad⟩ := L.fly.2.2.1.mem q
    have : ob = o2 := Option.some.inj (g1.symm.trans g4)
    exact bad _ (this ▸ g3)
  have f1 : a ≠ X.env.locals := fun q => far (List.mem_filterMap.mpr ⟨X.env, .head _, fr.trans (congrArg some q.symm)⟩)
  have f2 : a ∉ X.fs := fun q => far (by
    obtain ⟨e, m, z⟩ := List.mem_filterMap.mp q
    exact List.mem_filterMap.mpr ⟨e, .tail _ m, z⟩)
  exact ⟨ob, g1, g2, ⟨vs, g3⟩, L.inv.suite g1 g3 L.new f1 f2⟩
theorem Lies.on (L : Lies X pins σ H B a cls d s) {g : Heap} (f : HandSPX.FlyingZ B (X.env :: X.outer) a (Zc cls d) g) (u : s.heap.UpToSlots g) : Lies X pins σ H B a cls d { s with heap := g } where
  fly := f
  inv := L.back g f u
  new := L.new
  back := fun g2 f2 u2 => L.back g2 f2 (u.trans u2)
  out := fun W w g2 f2 u2 => L.out W w g2 f2 (u.trans u2)
/-- no clause is left: it goes on, out of the def -/
theorem Lies.pass (L : Lies X pins σ H B a cls d s) (fr : X.env.frame = some X.env.locals) {W : WX} (tk : Takes X W) (w : W cls d σ H) {R : Flow → Shared → Prop} : wpAny (model X.prog X.w) X.A (handleBy (.ref a) X.env []) R X.xe s := by
  have last : wpAny (model X.prog X.w) X.A (setFlight (.ref a) X.env.frame) (fun _ t => wpAny (model X.prog X.w) X.A (throw (.ref a) : Sem Flow) R X.xe t) X.xe s := by
    rw [fr]
    exact HandSPX.setFlight_upZ L.fly fun g held up => wpAny_throw (tk _ _ (L.out W w g held up))
  obtain ⟨_, _, _, ob, fields, tr, trOb, _, atA, _, dat, one, _⟩ := id L.fly
  refine wpAny_handleBy_nil ?_
  unfold PySem.passOn
  refine wpAny_bind (wpAny_field atA dat one ?_)
  have ne : ¬ (Value.ref tr == Value.none) = true := fun q => by simp at q
  simp only [ne, if_false]
  first | exact wpAny_bind last | exact wpAny_bind (wpAny_pure (wpAny_bind last))
/-- the class that a clause names is read in its room -/
theorem Lies.reads (ob : Obj) (room : Inv (X.suite a ((a, ob) :: (X.pn ++ pins))) [] σ H s) {cn : Str} {c : Value} {p : Pos} (names : Names X cn c) {R E : Value → Shared → Prop} (r : R c s) :
    wpAny (model X.prog X.w) (X.A.mark (some (.ref a))) (eval (.Name cn p) X.env) R E s := by
  obtain ⟨glob, plain, known | ⟨unknown, builtin, there⟩⟩ := names
  · exact ld_glob (X := X.suite a ((a, ob) :: (X.pn ++ pins))) room glob known r plain
  · exact ld_blt (X := X.suite a ((a, ob) :: (X.pn ++ pins))) room glob unknown builtin r there plain
/-- behind a suite its name goes -/
theorem unname {D : Ends} {i : Nat} {nm : Str} {p : Pos} {q : Addr × Obj} {f : Flow} {t : Shared} (ok : X.Ok) (nod : X.N.Nodup) (slot : X.N[i]? = some nm) (loc : X.env.kindOf nm = some .local)
    (e : SP (X.suite a (q :: (X.pn ++ pins))) [] (Ends.bare i D) f t) : wpAny (model X.prog X.w) X.A (do bindName X.env nm .none; unbindBehindTheSuite X.env nm p) (fun _ u => SP X pins D f u) X.xe t := by
  have step : ∀ {σ2 : L2.St} {H2 : Hp} {R : Shared → Prop}, Inv (X.suite a (q :: (X.pn ++ pins))) [] σ2 H2 t → (∀ u, Inv X pins (σ2.set i none) H2 u → R u) →
      wpAny (model X.prog X.w) X.A (do bindName X.env nm .none; unbindBehindTheSuite X.env nm p) (fun _ u => R u) X.xe t := fun J r => gone_ok (J.unsuite ok) nod slot loc r
  match f, e with
  | .next, ⟨_, _, J, r⟩ => exact step J fun u K => ⟨_, _, K, r⟩
  | .brk, ⟨_, _, J, r⟩ => exact step J fun u K => ⟨_, _, K, r⟩
  | .cont, ⟨_, _, J, r⟩ => exact step J fun u K => ⟨_, _, K, r⟩
  | .ret v, ⟨_, _, _, J, rv, r⟩ => exact step J fun u K => ⟨_, _, _, K, rv, r⟩
theorem Lies.handled {D : Ends} {Wout : WX} (ok : X.Ok) (nod : X.N.Nodup) (fr : X.env.frame = some X.env.locals) (tk : Takes X Wout) (L : Lies X pins σ H B a cls d s) {hds : List ExceptHandler} {l : List Cls3} (hk : HdsA X hds l) :
    wManyA X.K Wout D l cls d σ H → wpAny (model X.prog X.w) X.A (handleBy (.ref a) X.env hds) (SP X pins D) X.xe s := by
  induction hk with
  | nil => exact fun w => L.pass fr tk w
  | cons slot loc names run _ later =>
    rintro ⟨fits, known, yes, no⟩
    obtain ⟨ob, at1, kind, _, here⟩ := L.room fr
    have isCls : PySem.W.Looks (model X.prog X.w) s.heap (typeOf (.ref a)) cls := fun _ _ _ _ keep r => wpAny_typeOf_ref (keep _ _ at1) (kind.1.symm ▸ r)
    refine wpAny_handleBy_cons (codeAny_handlers_test (Lies.reads ob here names ((PySem.W.exm_one L.inv.kIn isCls known).here ?_))) (fun q => nomatch q)
    cases fits with
    | false => exact later (no rfl)
    | true =>
      refine codeAny_handlers_suite_as (HandSPX.lands_againZ L.fly fun g fly up => ?_)
      have L2 := L.on fly up
      obtain ⟨ob2, _, kind2, rec2, here2⟩ := L2.room fr
      refine store_ok (v := .ref a) (X := X.suite a ((a, ob2) :: (X.pn ++ pins))) here2 nod slot (.inl loc) rfl (fun t here3 => ?_) (.inr loc)
      exact wpAny_mono ((run a ob2 cls d (X.pn ++ pins) kind2 rec2).run [] t _ H _ here3 (yes rfl a L.new)) (fun _ _ e => unname ok nod slot loc e) fun _ _ z => z.elim
end
section
variable {X : Cx} {body : List Stmt} {h₀ : ExceptHandler} {hds : List ExceptHandler} {l : List Cls3} {pos : Pos} {tb : WX → TS} {Wout : WX}
theorem ps_try_manyA (nod : X.N.Nodup) (st : X.stack = X.env :: X.outer) (fr : X.env.frame = some X.env.locals) (tk : Takes X Wout)
    (hb : ∀ (W : WX) (pn : List (Addr × Obj)) (xe : Value → Shared → Prop), Takes (X.tr pn xe) W → PassesOwn (model X.prog X.w) X.A X.env xe → PSs (X.tr pn xe) body (tb W)) (hh : HdsA X (h₀ :: hds) l) :
    PS X (.Try body (h₀ :: hds) [] [] pos) (fun D σ H => tb (wManyA X.K Wout D l) D σ H) := by
  constructor
  intro pins s σ H D I w
  have ok := I.ok
  have frames : X.A.frames = some (X.env :: X.outer) := ok.frames.trans (congrArg some st)
  let E : Value → Shared → Prop := fun e t => wpAny (model X.prog X.w) X.A (noteFrame e X.env) (fun _ t2 => wpAny (model X.prog X.w) X.A (setFlight e none)
    (fun _ t3 => wpAny (model X.prog X.w) X.A (handleBy e X.env (h₀ :: hds)) (SP X pins D) X.xe t3) X.xe t2) X.xe t
  have caught : Takes (X.tr (X.pn ++ pins) E) (wManyA X.K Wout D l) := by
    rintro u t ⟨a, B, t0, pins2, σ2, H2, cls, d, rfl, J, nb, up, sky, new, os, bare, w2⟩
    have J : Inv X pins σ2 H2 t0 := J.ofTry ok
    have sky : Sky B (X.env :: X.outer) a (Zc cls d) X.env.locals t.heap := st ▸ sky
    refine Sky.land Zc.steady frames fr sky fun g fly up2 => ?_
    have inv : ∀ g2, HandSPX.FlyingZ B (X.env :: X.outer) a (Zc cls d) g2 → t.heap.UpToSlots g2 → Inv X pins σ2 H2 { t with heap := g2 } := fun g2 f2 u2 => J.landed nb f2.1 (up.trans u2) os bare
    refine Lies.handled ok nod fr tk (d := d) ⟨fly, inv g fly up2, new, fun g2 f2 u2 => inv g2 f2 (up2.trans u2), fun W w3 g2 held u2 => ?_⟩ hh w2
    exact ⟨a, B, t0, pins, σ2, H2, cls, d, rfl, J, nb, up.trans (up2.trans u2), .inr (.inr (st.symm ▸ held)), new, os, bare, w3⟩
  refine wpAny_Try_except (wpAny_mono ((hb _ (X.pn ++ pins) E caught PassesOwn.looking).run [] s σ H D (I.toTry _) w) (fun f t e => ?_) fun _ _ z => z)
  match f, e with
  | .next, ⟨_, _, J, r⟩ => exact wpAny_execs_nil ⟨_, _, J.ofTry ok, r⟩
  | .brk, ⟨_, _, J, r⟩ => exact ⟨_, _, J.ofTry ok, r⟩
  | .cont, ⟨_, _, J, r⟩ => exact ⟨_, _, J.ofTry ok, r⟩
  | .ret _, ⟨_, _, _, J, rv, r⟩ => exact ⟨_, _, _, J.ofTry ok, rv, r⟩
end
end BF
set_option Elab.async false
set_option linter.all false
set_option maxRecDepth 100000
set_option maxHeartbeats 4000000
namespace BF
open PySem PySem.Spec PyProof.Rows L2
/-! ### methods that may raise -/
section
variable {X : Cx} {k j : Nat} {C f : Addr} {x m : Str} {sp : Sp} {p pos apos : Pos} {e o : Expr} {es : List Expr} {ta : TE} {t : TA} {W : WX}
theorem pe_mtN {pl : Sem Bool} (c : MetX X.prog X.w X.K X.mg X.base k C m sp) (hr : Room j X.A) (hk : k ≤ j) (he : PE X o ta) (ha : PA X (e :: es) t)
    (hst : starEach (e :: es) X.env = (false, eval e X.env) :: starEach es X.env := by rfl) (hpl : (backTo pos (starEach es X.env)).any (·.1) = false := by rfl)
    (ht : eval (.Call (.Attribute o m apos) (e :: es) [] pos) X.env = (do let ov ← eval o X.env; standAt apos.atName; let (f, first) ← holding [ov] (getMethod ov m pl); callWith pos f first (backTo pos (starEach (e :: es) X.env)) (backToKw pos (keywordEach [] X.env))) := by rfl) :
    PE X (.Call (.Attribute o m apos) (e :: es) [] pos) (tMeth C m sp [] (fun _ _ _ => False) ta t) := by
  obtain ⟨f, fd, ps, hc, hm, F, b⟩ := c.ex
  exact pe_meth (pl := pl) he hc hm F (hr.mono hk) b .nil (passN rfl) ha hst hpl ht
theorem pe_mtS {pl : Sem Bool} (c : MetX X.prog X.w X.K X.mg X.base k C m sp) (hr : Room j X.A) (hk : k ≤ j) {E : L2.St → XK} (hx : ∀ σ, PassesAt (L2.CX X.prog X.w) X σ (E σ)) (he : PE X o ta) (ha : PA X (e :: es) t)
    (hst : starEach (e :: es) X.env = (false, eval e X.env) :: starEach es X.env := by rfl) (hpl : (backTo pos (starEach es X.env)).any (·.1) = false := by rfl)
    (ht : eval (.Call (.Attribute o m apos) (e :: es) [] pos) X.env = (do let ov ← eval o X.env; standAt apos.atName; let (f, first) ← holding [ov] (getMethod ov m pl); callWith pos f first (backTo pos (starEach (e :: es) X.env)) (backToKw pos (keywordEach [] X.env))) := by rfl) :
    PE X (.Call (.Attribute o m apos) (e :: es) [] pos) (tMethS C m sp E ta t) := by
  obtain ⟨f, fd, ps, hc, hm, F, b⟩ := c.ex
  refine ⟨fun pins s σ H Q I h => PySem.W.methodCall_KW (pl := pl) (thn (he.run pins s σ H _ I h) fun u s1 ⟨x, H1, I1, rx, a, dx, fs, ex, ea, l, q⟩ => ?_) ht⟩
  subst ex
  cases (show u = Value.ref a from rx)
  refine getmeth_ok I1 ea hc hm l (PySem.W.callWith_K (first := [.ref a]) (h₀ := X.base) I.ok.mod.kin hm.kp (thn (ha.run pos pins s1 σ H1 _ I1 q) fun us s2 ⟨vs, H2, I2, r, q2⟩ => ⟨I2.kIn, ?_⟩) hst hpl)
  exact run_fnS (us := .ref a :: us) (vs := .ref a :: vs) F (hr.mono hk) b (hx σ) I2 (.cons rfl r) q2
end

/-! ### == and != of instances by the class's own __eq__ -/
section
variable {prog : Program} {w : World} {A : Around} {E : Value → Shared → Prop} {s : Shared} {K : PySem.W.Frag} {x C f : Addr} {ox : Obj} {od : Option Obj}
/-- a builtin of the type object, found by the class -/
theorem ifBound_B {M : Model} {name : Str} {id : String} {args : List Value} {Q : Option Value → Shared → Prop} (X : K.In s.heap) (I : PySem.W.InstAt s.heap x ox C od)
    (hs : PySem.W.findIn K (.ref C) name = some (some (.builtin id))) (hb : bindSpecial (.builtin id) (.ref x) = pure (.builtin id, [.ref x]))
    (h : wpAny M A (call (.builtin id) (.ref x :: args)) (fun v => Q (some v)) E s) : wpAny M A (callSpecialIfBound? (.ref x) name args) Q E s := by
  simp only [callSpecialIfBound?, bindSpecialIfBound?]
  refine wpAny_holding (wpAny_bind (wpAny_bind (wpAny_bind (I.type.here ((PySem.W.looks_findIn X hs).here ?_)))))
  refine wpAny_bind (wpAny_askSetting (wpAny_ite ?_))
  have fin : wpAny M A (call (.builtin id) ([.ref x] ++ args) >>= fun v => pure (some v)) Q E s := wpAny_bind (wpAny_mono h (fun v s' h' => wpAny_pure h') fun _ _ h' => h')
  split
  · rw [hb]
    exact wpAny_bind (wpAny_pure (wpAny_pure (by exact fin)))
  · rw [hb]
    exact wpAny_tryCatch (wpAny_bind (wpAny_pure (wpAny_pure (by exact fin))))
end
section
variable {prog : Program} {w : World} {A : Around} {E : Value → Shared → Prop} {s : Shared} {K : PySem.W.Frag} {x C f L : Addr} {ox : Obj} {od : Option Obj} {h₀ : Heap} {m : Str → Option Value} {b : Value}
/-- what the written part says of a class without bases of its own, whose __ne__ is object's -/
structure NeC (K : PySem.W.Frag) (C f : Addr) : Prop where
  ob : ∃ nm q N bs hdct sn sub ab col dd k0 k1 k2 k3 k5 nid, K.lookup C = some (excClassObj nm q C N bs [.type "object"] hdct sn sub ab col dd k0 k1 k2 k3 k5 nid)
  ne : PySem.W.findIn K (.ref C) "__ne__" = some (some (.builtin "object.__ne__"))
  eq : PySem.W.findIn K (.ref C) "__eq__" = some (some (.ref f))
  fn : PySem.W.isFn K (.ref f) = true
def BackNe (Q : Value → Shared → Prop) (v : Value) (s' : Shared) : Prop := ∃ r, v = .bool r ∧ Q (.bool (!r)) s'
theorem ne_body (T : NeC K C f) (X : K.In s.heap) (I : PySem.W.InstAt s.heap x ox C od) (hu : A.units < cLine) {Q : Fin → Shared → Prop}
    (hc : wpAny (model prog w) A (call (.ref f) [.ref x, b]) (BackNe fun v s' => Q (.done (.ret v)) s') E s) :
    wpAny (model prog w) A (Builtin.«object.__ne__» ⟨[.ref x, b], []⟩) Q E s := by
  unfold Builtin.«object.__ne__»
  have step : wpAny (model prog w) A (callSpecialIfBound? (.ref x) (Str.ofString "__eq__") [b]) (fun o s' => ∃ r, o = some (.bool r) ∧ Q (.done (.ret (.bool (!r)))) s') E s :=
    PySem.W.ifBound_K X I T.eq T.fn (wpAny_mono hc (fun v s' hv => by obtain ⟨r, rfl, q⟩ := hv; exact ⟨r, rfl, q⟩) fun _ _ e => e)
  repeat (first
    | with_reducible refine wpAny_cRoomFor hu ?_
    | (refine wpAny_bind (m := callSpecialIfBound? (.ref x) (Str.ofString "__eq__") [b]) (wpAny_mono step (fun o s' ho => by
        obtain ⟨r, rfl, hq⟩ := ho
        repeat (first | exact hq | exact wpAny_pure hq | exact wpAny_truthy_bool hq | (refine wpAny_bind (m := truthy (.bool _)) (wpAny_truthy_bool ?_)) | wp_step)) fun _ _ e => e))
    | wp_step)
theorem ne_try (T : NeC K C f) (X : K.In s.heap) (I : PySem.W.InstAt s.heap x ox C od) (hu : A.units + 1 < cLine) {Q : Option Value → Shared → Prop}
    (hc : wpAny (model prog w) A.in1 (call (.ref f) [.ref x, b]) (BackNe fun v s' => Q (some v) s') E s) : wpAny (model prog w) A (tryCompare (.ref x) "__ne__" b) Q E s := by
  obtain ⟨nm, q, N, bs, hdct, sn, sub, ab, col, dd, k0, k1, k2, k3, k5, nid, hC⟩ := T.ob
  obtain ⟨hp, g, dr, tk, os⟩ := s
  simp only [tryCompare]
  refine wpAny_bind (ifBound_B X I T.ne (by first | rfl | kernel_rfl) (wpAny_call (codeAny_call_builtin PySem.F.cmp_object.ne.plain PySem.F.cmpEntry_ne
    (wpAny_check_slot_inst PySem.F.cmpKind_ne PySem.F.cmpSplit_ne (PySem.F.cmpArgs_ne _ _) PySem.F.cmp_object.hasObject I.at_ I.cls (X _ _ hC)
      (ne_body (A := A.in1) T X I hu (wpAny_mono hc (fun v s' hv => ?_) fun _ _ e => e))))))
  obtain ⟨r, rfl, hq⟩ := hv
  first | exact ⟨r, rfl, wpAny_pure hq⟩ | exact ⟨r, rfl, wpAny_pure (wpAny_pure hq)⟩ | exact ⟨r, rfl, hq⟩
end
end BF
set_option Elab.async false
set_option linter.all false
set_option maxRecDepth 100000
set_option maxHeartbeats 4000000
namespace BF
open PySem PySem.Spec PyProof.Rows L2
section
variable {prog : Program} {w : World} {A : Around} {E : Value → Shared → Prop} {s : Shared} {K : PySem.W.Frag} {x C f L y : Addr} {ox oy : Obj} {od oe : Option Obj}
theorem ne_rich (T : NeC K C f) (X : K.In s.heap) (I : PySem.W.InstAt s.heap x ox C od) (J : PySem.W.InstAt s.heap y oy C oe) (hu : A.units + 1 < cLine) {Q : Value → Shared → Prop}
    (hc : wpAny (model prog w) A.in1 (call (.ref f) [.ref x, .ref y]) (BackNe Q) E s) : wpAny (model prog w) A (richCompare .NotEq (.ref x) (.ref y)) Q E s := by
  unfold richCompare
  simp only [oneThing_ref]
  refine wpAny_holding (wpAny_bind (wpAny_cRoomFor (Nat.lt_of_succ_lt hu) ?_))
  rw [cmpInfo_NotEq]
  dsimp only
  refine wpAny_bind (I.type.here (wpAny_bind (J.type.here ?_)))
  rw [show (Value.ref C != Value.ref C) = false from by simp]
  simp only [Bool.false_eq_true, if_false]
  refine wpAny_bind (wpAny_pure ?_)
  simp only [Bool.false_eq_true, if_false]
  have z : wpAny (model prog w) A (tryCompare (.ref x) "__ne__" (.ref y)) (fun r s' => ∃ v, r = some v ∧ Q v s') E s :=
    ne_try T X I hu (wpAny_mono hc (fun v s' hv => by obtain ⟨r, rfl, hq⟩ := hv; exact ⟨r, rfl, _, rfl, hq⟩) fun _ _ e => e)
  refine wpAny_bind (wpAny_mono z (fun r s' hr => ?_) fun _ _ e => e)
  obtain ⟨v, rfl, hq⟩ := hr
  first | exact wpAny_pure hq | exact wpAny_pure (wpAny_pure hq)
end
section
variable {X : Cx} {n : Nat} {C f : Addr} {fd : FuncData} {ps : List Str} {CX : CXT} {sp : Sp}
/-- x == y, x != y: instances of the class at C; sp: what its __eq__ promises -/
def rEqO (C : Addr) (sp : Sp) (g : Bool → Bool) : R2 := fun x y H Q => ∃ a b dx dy fs gs, x = .ref a ∧ y = .ref b ∧ H a = some (.ins C dx fs) ∧ H b = some (.ins C dy gs) ∧ sp [.ref a, .ref b] H (fun v H' => ∃ r, v = .bl r ∧ Q (.bl (g r)) H') (fun _ _ _ => False)
theorem run_eqO {A : Around} {pins : List (Addr × Obj)} {s : Shared} {σ : L2.St} {H : Hp} {a b : Addr} {Q : VK} {R : Value → Shared → Prop} (F : FnOk X.prog X.w X.K X.mg X.base CX n f fd ps sp) (hb : Binds X.K fd ps []) (hx : Passes CX X (fun _ _ _ => False))
    (hr : Room n A) (hf : A.frames = X.A.frames) (I : Inv X pins σ H s) (h : sp [.ref a, .ref b] H Q (fun _ _ _ => False)) (hR : ∀ v u s' H', Inv X pins σ H' s' → RelV v u → Q v H' → R u s') :
    wpAny (model X.prog X.w) A (call (.ref f) [.ref a, .ref b]) R X.xe s := by
  have e0 : Env0 X.prog X.w X.K X.mg X.base A X.stack s H := by
    have e := I.env0
    exact ⟨by rw [hf]; exact e.frames, e.mod, e.bs, e.bsz, e.funs, e.frf, e.hok, e.bare⟩
  have hl := F.len _ _ _ _ h
  have r2 : Vals [V.ref a, V.ref b] [Value.ref a, Value.ref b] := .cons rfl (.cons rfl .nil)
  have bb := hb s [.ref a, .ref b] I.kIn (by rw [List.append_nil]; exact hl)
  rw [List.append_nil] at bb
  refine wpAny_call (codeAny_mono (F.run A X.stack s H ⟨[.ref a, .ref b], []⟩ [.ref a, .ref b] [.ref a, .ref b] _ _ hr e0 bb r2 h) fun r s' hq => ?_)
  cases r with
  | error e => exact hx pins σ H s e s' I hq
  | ok fl =>
    cases fl with
    | ret u =>
      obtain ⟨v, H', I', rv, q⟩ := I.after hq
      exact hR v u s' H' I' rv q
    | next => exact False.elim hq
    | brk => exact False.elim hq
    | cont => exact False.elim hq
theorem op_eqO (F : FnOk X.prog X.w X.K X.mg X.base CX n f fd ps sp) (hb : Binds X.K fd ps []) (hx : Passes CX X (fun _ _ _ => False)) (T : NeC X.K C f) (hr : Room n X.A) : OpR X (compareOp .Eq) (rEqO C sp id) := by
  intro pins s σ H x y u v Q I rx ry h
  obtain ⟨a, b, dx, dy, fs, gs, rfl, rfl, ha, hb', hs⟩ := h
  cases rx
  cases ry
  obtain ⟨mA, J, _⟩ := ins_get I.hok ha
  obtain ⟨mB, J', _⟩ := ins_get I.hok hb'
  obtain ⟨od, J, _⟩ := J.look
  obtain ⟨od', J', _⟩ := J'.look
  obtain ⟨m, hF⟩ := I.fr
  refine PySem.W.cmp_K (op := .Eq) (tb := .ref C) hr.units0 hF I.ok.mod.kin J J'.type (by simp [PySem.W.notFirst]) T.eq T.fn ?_
  refine run_eqO F hb hx hr rfl I hs fun v u s' H' I' rv q => ?_
  obtain ⟨r, rfl, q⟩ := q
  cases rv
  exact ⟨.bl r, H', I', rfl, q⟩
theorem op_neO (F : FnOk X.prog X.w X.K X.mg X.base CX n f fd ps sp) (hb : Binds X.K fd ps []) (hx : Passes CX X (fun _ _ _ => False)) (T : NeC X.K C f) (hr : Room (n + 1) X.A) : OpR X (compareOp .NotEq) (rEqO C sp not) := by
  intro pins s σ H x y u v Q I rx ry h
  obtain ⟨a, b, dx, dy, fs, gs, rfl, rfl, ha, hb', hs⟩ := h
  cases rx
  cases ry
  obtain ⟨mA, J, _⟩ := ins_get I.hok ha
  obtain ⟨mB, J', _⟩ := ins_get I.hok hb'
  obtain ⟨od, J, _⟩ := J.look
  obtain ⟨od', J', _⟩ := J'.look
  refine ne_rich (s := s) T I.kIn J J' (by have := hr.un; omega) ?_
  refine run_eqO F hb hx hr.in1 rfl I hs fun v u s' H' I' rv q => ?_
  obtain ⟨r, rfl, q⟩ := q
  cases rv
  exact ⟨r, rfl, .bl (!r), H', I', rfl, q⟩
end

/-! ### == and != of dicts whose values are data -/
section
variable {X : Cx}
/-- the dict at a: keys and data -/
def DkD (K : PySem.W.Frag) (H : Hp) (x : V) (ds : List (Key × PyData)) : Prop := ∃ a kvs, x = .ref a ∧ H a = some (.dK kvs) ∧ Paired (fun (p : Key × V) (q : Key × PyData) => p.1 = q.1 ∧ Dp K H p.2 q.2 ∧ SeqAt.shaped q.2 = true) kvs ds
def eqKD (ds es : List (Key × PyData)) : Bool := ds.length == es.length && ds.all fun p => match es.find? fun q => decide (q.1 = p.1) with | some q => PyData.eqv p.2 q.2 | none => false
theorem paired_find {K : PySem.W.Frag} {H : Hp} : ∀ {kvs : List (Key × V)} {ds : List (Key × PyData)} (k : Key), Paired (fun (p : Key × V) (q : Key × PyData) => p.1 = q.1 ∧ Dp K H p.2 q.2 ∧ SeqAt.shaped q.2 = true) kvs ds →
    (valV kvs k = none ∧ ds.find? (fun q => decide (q.1 = k)) = none) ∨ ∃ v q, valV kvs k = some v ∧ ds.find? (fun q => decide (q.1 = k)) = some q ∧ Dp K H v q.2 ∧ SeqAt.shaped q.2 = true
  | _, _, _, .nil => .inl ⟨rfl, rfl⟩
  | (k1, v) :: kvs, (k2, d) :: ds, k, .cons h t => by
    obtain ⟨e, hd, sd⟩ := h
    cases (show k1 = k2 from e)
    by_cases hk : k1 = k
    · exact .inr ⟨v, (k1, d), by simp [valV, hk], by simp [hk], hd, sd⟩
    · have ih := paired_find k t
      rw [show valV ((k1, v) :: kvs) k = valV kvs k from by simp [valV, hk], show ((k1, d) :: ds).find? (fun q => decide (q.1 = k)) = ds.find? (fun q => decide (q.1 = k)) from by simp [hk]]
      exact ih
theorem hits_data {A : Around} {pins : List (Addr × Obj)} {σ : L2.St} {H : Hp} {s : Shared} (I : Inv X pins σ H s) (hu : A.in1.units + 64 < cLine) {ls : List (Key × V)} {es : List (Key × PyData)} {vb : List (Key × Value)} (rb : KV ls vb)
    (pb : Paired (fun (p : Key × V) (q : Key × PyData) => p.1 = q.1 ∧ Dp X.K H p.2 q.2 ∧ SeqAt.shaped q.2 = true) ls es) :
    ∀ {ks : List (Key × V)} {ds : List (Key × PyData)} {va : List (Key × Value)}, KV ks va → Paired (fun (p : Key × V) (q : Key × PyData) => p.1 = q.1 ∧ Dp X.K H p.2 q.2 ∧ SeqAt.shaped q.2 = true) ks ds →
      PySem.W.KeqHits A.in1 s vb va (ds.all fun p => match es.find? fun q => decide (q.1 = p.1) with | some q => PyData.eqv p.2 q.2 | none => false)
  | _, _, _, .nil, .nil => .nil
  | (k1, v) :: ks, (k2, d) :: ds, (k3, u) :: va, .cons r t, .cons p t' => by
    obtain ⟨e, hd, sd⟩ := p
    obtain ⟨e2, ru⟩ := r
    cases (show k1 = k2 from e)
    cases (show k1 = k3 from e2)
    have ih := hits_data (A := A) I hu rb pb t t'
    have rv := rb.val k1
    rcases paired_find k1 pb with ⟨n1, n2⟩ | ⟨v', q, n1, n2, hq, sq⟩
    · rw [n1] at rv
      have hn : valueAt vb k1 = none := by
        cases c : valueAt vb k1 with
        | none => rfl
        | some y => rw [c] at rv; exact False.elim rv
      simp only [List.all_cons, n2, Bool.false_and]
      exact .miss hn
    · rw [n1] at rv
      obtain ⟨y, hy, ry⟩ := rv.some_of
      obtain ⟨as, r1⟩ := Dp.reads I d v u hd ru
      obtain ⟨bs, r2⟩ := Dp.reads I q.2 v' y hq ry
      simp only [List.all_cons, n2]
      exact .hit hy (PySem.W.keq_at r1 r2 sd sq hu) ih
def rEqDD (K : PySem.W.Frag) (g : Bool → Bool) : R2 := fun x y H Q => ∃ ds es, DkD K H x ds ∧ DkD K H y es ∧ Q (.bl (g (eqKD ds es))) H
theorem op_eqDD (hu : X.A.units + 65 < cLine) : OpR X (compareOp .Eq) (rEqDD X.K id) := by
  intro pins s σ H x y v u Q I rx ry h
  obtain ⟨ds, es, ⟨a, ks, rfl, ea, pa⟩, ⟨b, ls, rfl, eb, pb⟩, q⟩ := h
  cases rx
  cases ry
  obtain ⟨_, ya, va, ra, da⟩ := (show ObjOk X.prog X.w H s.heap a (.dK ks) from I.hok a _ ea)
  obtain ⟨_, yb, vb, rb, db⟩ := (show ObjOk X.prog X.w H s.heap b (.dK ls) from I.hok b _ eb)
  have hl : (va.length == vb.length) = (ds.length == es.length) := by rw [← ra.length, ← rb.length, pa.length, pb.length]
  have hu1 : X.A.in1.units + 64 < cLine := by show X.A.units + 1 + 64 < cLine; omega
  exact PySem.W.keq_eq (knd := mixKind X.prog X.w) ya yb da db (by omega) (fun _ => hits_data I hu1 rb pb ra pa) (fin_bl I q (by simp only [id]; unfold eqKD; rw [hl]))
theorem op_neDD (hu : X.A.units + 65 < cLine) : OpR X (compareOp .NotEq) (rEqDD X.K not) := by
  intro pins s σ H x y v u Q I rx ry h
  obtain ⟨ds, es, ⟨a, ks, rfl, ea, pa⟩, ⟨b, ls, rfl, eb, pb⟩, q⟩ := h
  cases rx
  cases ry
  obtain ⟨_, ya, va, ra, da⟩ := (show ObjOk X.prog X.w H s.heap a (.dK ks) from I.hok a _ ea)
  obtain ⟨_, yb, vb, rb, db⟩ := (show ObjOk X.prog X.w H s.heap b (.dK ls) from I.hok b _ eb)
  have hl : (va.length == vb.length) = (ds.length == es.length) := by rw [← ra.length, ← rb.length, pa.length, pb.length]
  have hu1 : X.A.in1.units + 64 < cLine := by show X.A.units + 1 + 64 < cLine; omega
  exact PySem.W.keq_ne (knd := mixKind X.prog X.w) ya yb da db (by omega) (fun _ => hits_data I hu1 rb pb ra pa) (fin_bl I q (by unfold eqKD; rw [hl]))
end
end BF
set_option Elab.async false
set_option linter.all false
set_option maxRecDepth 100000
set_option maxHeartbeats 4000000
namespace BF
open PySem PySem.Spec PyProof.Rows L2
section
variable {X : Cx}
/-- sorted(a tuple of texts) -/
def rSortT (K : PySem.W.Frag) : List V → Hp → VK → Prop := fun vs H Q => ∃ (a : Addr) (ks : List Str), vs = [.ref a] ∧ SqT K H a (ks.map V.str) ∧ ks.length < 64 ∧
  ∀ (ys : List Str) (p : Addr), ys.Perm ks → sortedS ys = true → H p = none → Q (.ref p) (upd H p (.lst (ys.map V.str)))
theorem cr_sortedTS : CallR X (.builtin "sorted") (rSortT X.K) := by
  intro pins s σ H xs us Q I r h
  obtain ⟨a, ks, rfl, hT, h64, q⟩ := h
  rw [Vals.ref1 r]
  obtain ⟨its, rv, pl, hz⟩ := I.tuple hT
  obtain ⟨o, ho, hc, n, hd⟩ := pl
  have hlen : its.length = ks.length := by rw [← rv.length, List.length_map]
  have hS : StrsAre its ks := rv.strs
  have h16 : its.length ≤ sizeLine := by rw [hlen, sizeLine_eq]; omega
  refine Calls.call_function_entry PyProof.Rows.kind_sorted PyProof.Rows.plain_sorted PyProof.Rows.entry_sorted (PyProof.Rows.args_sorted1 _) ?_
  unfold Builtin.«sorted»
  refine wpAny_bind (m := checkCount "sorted" 1 1 _) (wpAny_pure ?_)
  refine wpAny_bind (wpAny_collect_seq a (.inr rfl) ho hc hd (fun h' kp => ?_) (by rw [List.size_toArray]; exact h16))
  have I1 : Inv X pins σ H { s with heap := h' } := I.kept (t' := s.toks) kp
  have hS' : StrsAre its.toArray.toList ks := by simpa using hS
  have hl' : its.toArray.toList.length = ks.length := by simpa using hlen
  refine wpAny_bind (wpAny_newList ?_ (by rw [hl', sizeLine_eq]; omega))
  have hoL : (h'.push (seqObj "list" its.toArray.toList.toArray 0)).get? h'.objs.size = some (seqObj "list" its.toArray.toList.toArray 0) := Heap.get?_push_size _ rfl
  show wpAny _ _ _ _ _ { s with heap := h'.push (seqObj "list" its.toArray.toList.toArray 0) }
  refine wpAny_bind (wpAny_holding (wpAny_call_entry PyProof.Rows.slot_list_sort ⟨_, hoL, rfl⟩ PyProof.Rows.entry_list_sort (list_sort_treeK strKind_oneLt hoL hS'.keysOf (fun v₁ v₂ rest e => keyKind_strs (by rw [← e]; exact hS')) (by rw [hl']; exact h64) fun st' hp hs => ⟨_, rfl, ?_⟩) (PyProof.Rows.args_list_sort _)))
  obtain ⟨ys, g1, g2, g3⟩ := sorted_out_str hS' hp hs
  obtain ⟨ep, hep⟩ := PyProof.Rows.sortedHeap_at (vs := its.toArray.toList) (out := (arrOf st').map (·.2)) hoL
  have hfit : (ys.map V.str).length ≤ sizeLine := by
    rw [List.length_map, g2.length_eq, sizeLine_eq]
    omega
  have old : ∀ b u, h'.get? b = some u → (sortedHeap (h'.push (seqObj "list" its.toArray.toList.toArray 0)) h'.objs.size its.toArray.toList ((arrOf st').map (·.2))).get? b = some u := fun b u e => by
    have hb : b < h'.objs.size := Heap.lt_size e
    rw [PyProof.Rows.sortedHeap_old (Nat.ne_of_lt hb) (by rw [size_push']; exact Nat.lt_succ_of_lt hb)]
    exact Heap.get?_push_of_some _ e
  exact wpAny_pure ⟨_, rfl, .ref h'.objs.size, _, I1.laid (t' := s.toks) old (Nat.le_refl _) (show ObjOk X.prog X.w _ _ _ (.lst (ys.map V.str)) from ⟨hfit, ((arrOf st').map (·.2)).toList, ep, vals_of_strs g1, by rw [Array.toArray_toList]; exact hep⟩), rfl, q ys _ g2 g3 (I1.hok.fresh (Nat.le_refl _))⟩
end
end BF
set_option Elab.async false
set_option linter.all false
set_option maxRecDepth 100000
set_option maxHeartbeats 4000000
namespace BF
open PySem PySem.Spec PyProof.Rows L2
section
variable {prog : Program} {w : World} {A : Around} {E : Value → Shared → Prop} {s : Shared}
/-- t[::-1] of a pair -/
theorem rev_pair {t sl : Addr} {u v : Value} {tk : Tok} {Q : Value → Shared → Prop} (ht : IsTup s.heap t #[u, v]) (hs : s.heap.IsSliceOf sl .none .none (.int (-1) tk))
    (h : Q (.ref s.heap.objs.size) { s with heap := s.heap.push { cls := .type "tuple", data := .seq #[v, u] } }) : wpAny (model prog w) A (getItem (.ref t) (.ref sl)) Q E s := by
  obtain ⟨os, hos, hcs, hds⟩ := id hs
  have hTs : s.TypeIs (.ref sl) "slice" := ⟨os, hos, hcs⟩
  have run : ∀ {Q : Int × Int × Nat → Shared → Prop} {E : Value → Shared → Prop}, Q (1, -1, 2) s → wpAny (model prog w) A.in1 (Builtin.Slice.sliceApplied (.ref sl) (pure (2 : Int))) Q E s := fun {Q E} q => by
    unfold Builtin.Slice.sliceApplied Builtin.Slice.sliceFields
    refine wpAny_bind (wpAny_bind (wpAny_field hos hds (x := .none) rfl (wpAny_bind (wpAny_field hos hds (x := .none) rfl (wpAny_bind (wpAny_field hos hds (x := .int (-1) tk) rfl (wpAny_pure ?_)))))))
    refine wpAny_bind (slicePart_int ?_)
    show wpAny _ _ (if ((-1 : Int) == 0) = true then _ else _) _ _ s
    rw [if_neg (by decide)]
    exact wpAny_bind (slicePart_none (wpAny_bind (slicePart_none (wpAny_bind (wpAny_pure (wpAny_pure q))))))
  have big : sizeOk (.seq #[v, u]) := by
    show 2 ≤ sizeLine
    rw [sizeLine_eq]
    omega
  unfold getItem
  try with_reducible refine wpAny_holding ?_
  first | refine wpAny_bind (wpAny_pure ?_) | skip
  refine wpAny_bind (wpAny_sequenceKey ht.typeIs (by decide) ?_)
  refine wpAny_bind (wpAny_callSpecial?_slot (name := Str.ofString "__getitem__") ht.typeIs PyProof.Rows.slot_tuple_getitem
    (wpAny_call_entry PyProof.Rows.slot_tuple_getitem ht.typeIs entry_tuple_getitem ?_ (args_tuple_getitem _ _)))
  refine wpAny_bind (m := Builtin.Tuple.tupleItemsOf (.ref t)) (tupleItemsOf_ ht ?_)
  refine wpAny_bind (wpAny_typeOf hTs ?_)
  rw [if_pos (by decide)]
  refine wpAny_bind (run ?_)
  show wpAny _ _ (if ((1 : Int) == 0 && (-1 : Int) == 1 && 2 == 2) = true then _ else _) _ _ s
  rw [if_neg (by decide)]
  have e : ((List.range 2).filterMap fun (k : Nat) => (#[u, v] : Array Value)[((1 : Int) + (k : Int) * (-1)).toNat]?).toArray = #[v, u] := by rfl
  rw [e]
  first
    | exact wpAny_bind (m := Builtin.Tuple.tupleExact _) (wpAny_newObj_type (wpAny_pure ⟨_, rfl, wpAny_pure h⟩) big)
    | exact wpAny_bind (m := Builtin.Tuple.tupleExact _) (wpAny_newObj_type (wpAny_bind (wpAny_pure (wpAny_pure ⟨_, rfl, wpAny_pure h⟩))) big)
    | exact wpAny_bind (wpAny_bind (m := Builtin.Tuple.tupleExact _) (wpAny_newObj_type (wpAny_pure (wpAny_pure ⟨_, rfl, wpAny_pure h⟩)) big))
end
section
variable {X : Cx}
def tRevT (K : PySem.W.Frag) (te : TE) : TE := fun σ H Q => te σ H fun x H1 => ∃ a y z, x = .ref a ∧ SqT K H1 a [y, z] ∧ ∀ p, H1 p = none → Q (.ref p) (upd H1 p (.tup [z, y]))
theorem pe_revT {e : Expr} {te : TE} {k : Nat} {p1 p2 p3 pos : Pos} (he : PE X e te) : PE X (.Subscript e (.Slice none none (some (.UnaryOp .USub (.Constant (.int 1) k p1) p2)) p3) pos) (tRevT X.K te) := by
  refine ⟨fun pins s σ H Q I h => Subscript_ (thn (he.run pins s σ H _ I h) fun v s1 ⟨x, H1, I1, r1, a, y, z, ex, hx, q⟩ => ?_)⟩
  subst ex
  cases r1
  have step : PO X (some (.UnaryOp .USub (.Constant (.int 1) k p1) p2)) (tPart (tUn (rU fun i => .int (-i)) (tC (.int 1)))) := po_some (pe_un un_neg pe_int)
  refine wpAny_Slice (thn (po_none.run pins s1 σ H1 (fun o H2 => o = none ∧ H2 = H1) I1 ⟨rfl, rfl⟩) fun vl s2 ⟨l, H2, I2, pl, el, e2⟩ => ?_)
  subst el e2
  refine thn (po_none.run pins s2 σ H2 (fun o H3 => o = none ∧ H3 = H2) I2 ⟨rfl, rfl⟩) fun vu s3 ⟨u, H3, I3, pu, eu, e3⟩ => ?_
  subst eu e3
  refine thn (step.run pins s3 σ H3 (fun o H4 => o = some (-1) ∧ H4 = H3) I3 ⟨1, rfl, -1, rfl, rfl, rfl⟩) fun vs s4 ⟨o, H4, I4, ps, eo, e4⟩ => ?_
  subst eo e4
  cases pl
  cases pu
  cases ps with
  | int i tk =>
    have I5 : Inv X pins σ H4 { s4 with heap := s4.heap.push { cls := .type "slice", data := .fields #[.none, .none, .int (-1) tk] } } := I4.kept (t' := s4.toks) fun b ob q => Heap.get?_push_of_some _ q
    obtain ⟨its, r, ht, hz⟩ := I5.tuple hx
    cases r with
    | cons ry r =>
      cases r with
      | cons rz r =>
        cases r
        refine tail_any (ops := [.ref a, .ref s4.heap.objs.size]) ht.typeIs (PyProof.Rows.slot_tuple_getitem.lookup) ?_ (by with_unfolding_all rfl)
        refine rev_pair ht (Heap.IsSliceOf.new _ _ _ _) ⟨.ref _, _, I5.laid (t' := s4.toks) (o := .tup [z, y]) (fun b ob q => Heap.get?_push_of_some _ q) (Nat.le_refl _) ?_, rfl, q _ (I5.hok.fresh (Nat.le_refl _))⟩
        exact ⟨by show 2 ≤ sizeLine; rw [sizeLine_eq]; omega, _, .cons rz (.cons ry .nil), IsTup.new _ _⟩
end
end BF
set_option Elab.async false
set_option linter.all false
set_option maxRecDepth 100000
set_option maxHeartbeats 4000000
namespace BF
open PySem PySem.Spec PyProof.Rows L2
/-! ### rules that name the written part: K is said, so that they serve within comprehensions -/
section
variable {X : Cx}
theorem in_seqK (K : PySem.W.Frag) (h : X.K = K := by rfl) : OpR X (compareOp .In) (rIn K false) := by
  subst h
  exact op_in_seq
theorem notIn_seqK (K : PySem.W.Frag) (h : X.K = K := by rfl) : OpR X (compareOp .NotIn) (rIn K true) := by
  subst h
  exact op_notIn_seq
theorem isiK (K : PySem.W.Frag) (h : X.K = K := by rfl) : CallR X (.builtin "isinstance") (rIsi K) := by
  subst h
  exact call_isi
theorem lenK (K : PySem.W.Frag) (h : X.K = K := by rfl) : CallR X (.builtin "len") (fun xs H Q => ∃ x n, xs = [x] ∧ LenV K x H n ∧ Q (.int (n : Nat)) H) := by
  subst h
  exact call_len
theorem allK (K : PySem.W.Frag) (hc : X.calm = true) (h : X.K = K := by rfl) : CallR X (.builtin "all") (rAll K) := by
  subst h
  exact cr_all hc
theorem anyK (K : PySem.W.Frag) (hc : X.calm = true) (h : X.K = K := by rfl) : CallR X (.builtin "any") (rAny K) := by
  subst h
  exact cr_any hc
theorem sortedSK (K : PySem.W.Frag) (h : X.K = K := by rfl) : CallR X (.builtin "sorted") (rSortedS K) := by
  subst h
  exact cr_sortedS
theorem sortedTK (K : PySem.W.Frag) (h : X.K = K := by rfl) : CallR X (.builtin "sorted") (rSortT K) := by
  subst h
  exact cr_sortedTS
theorem listK (K : PySem.W.Frag) (h : X.K = K := by rfl) : CallR X (.type "list") (fun xs H Q => ∃ p ys, xs = [.ref p] ∧ (SqL K H p ys ∨ SqT K H p ys) ∧ ∀ l, H l = none → Q (.ref l) (upd H l (.lst ys))) := by
  subst h
  exact call_list_of
theorem tupleK (K : PySem.W.Frag) (h : X.K = K := by rfl) : CallR X (.type "tuple") (fun xs H Q => ∃ p ys, xs = [.ref p] ∧ ((SqL K H p ys ∧ ∀ l, H l = none → Q (.ref l) (upd H l (.tup ys))) ∨ (SqT K H p ys ∧ Q (.ref p) H))) := by
  subst h
  exact call_tuple_of
theorem dictPK (K : PySem.W.Frag) (hc : X.calm = true) (h : X.K = K := by rfl) : CallR X (.type "dict") (fun xs H Q => ∃ (a : Addr) (ps : List Addr) (kvs : List (Key × V)), xs = [.ref a] ∧ SqL K H a (ps.map V.ref) ∧
    Paired (fun p kv => SqT K H p [kV kv.1, kv.2]) ps kvs ∧ ∀ p, H p = none → Q (.ref p) (upd H p (.dK (mergeK [] kvs)))) := by
  subst h
  exact call_dictP hc
theorem ixLK (K : PySem.W.Frag) (h : X.K = K := by rfl) : IxR X (rIxL K) := by
  subst h
  exact ix_list
theorem ixTK (K : PySem.W.Frag) (h : X.K = K := by rfl) : IxR X (rIxT K) := by
  subst h
  exact ix_tup
theorem ixQK (K : PySem.W.Frag) (h : X.K = K := by rfl) : IxR X (rIx K) := by
  subst h
  exact ix_seq
theorem slLK (K : PySem.W.Frag) (h : X.K = K := by rfl) : SlR X (rSlL K) := by
  subst h
  exact sl_list
theorem slTK (K : PySem.W.Frag) (h : X.K = K := by rfl) : SlR X (rSlA K) := by
  subst h
  exact sl_tupA
theorem catTK (K : PySem.W.Frag) (h : X.K = K := by rfl) : OpR X (binaryOp .Add) (rCatA K) := by
  subst h
  exact op_catA
theorem eqDK {k : Nat} (K : PySem.W.Frag) (hr : Room k X.A) (h : X.K = K := by rfl) : OpR X (compareOp .Eq) (rEqD K) := by
  subst h
  exact op_eqD hr.units
theorem neDK {k : Nat} (K : PySem.W.Frag) (hr : Room k X.A) (h : X.K = K := by rfl) : OpR X (compareOp .NotEq) (rNeD K) := by
  subst h
  exact op_neD hr.units
theorem eqDDK {k : Nat} (K : PySem.W.Frag) (hr : Room k X.A) (h : X.K = K := by rfl) : OpR X (compareOp .Eq) (rEqDD K id) := by
  subst h
  exact op_eqDD (by have := hr.un; omega)
theorem neDDK {k : Nat} (K : PySem.W.Frag) (hr : Room k X.A) (h : X.K = K := by rfl) : OpR X (compareOp .NotEq) (rEqDD K not) := by
  subst h
  exact op_neDD (by have := hr.un; omega)
theorem pe_fldK (K : PySem.W.Frag) {e : Expr} {ta : TE} {f : Str} {pos : Pos} (he : PE X e ta) (hb : attributeBase e f X.env (eval e X.env) = eval e X.env) (h : X.K = K := by rfl) : PE X (.Attribute e f pos) (tFld K ta f) := by
  subst h
  exact pe_fld he hb
theorem pe_revTK (K : PySem.W.Frag) {e : Expr} {te : TE} {k : Nat} {p1 p2 p3 pos : Pos} (he : PE X e te) (h : X.K = K := by rfl) : PE X (.Subscript e (.Slice none none (some (.UnaryOp .USub (.Constant (.int 1) k p1) p2)) p3) pos) (tRevT K te) := by
  subst h
  exact pe_revT he
theorem pi_listK (K : PySem.W.Frag) {tg l : Expr} {tl : TE} (hl : PE X l tl) (h : X.K = K := by rfl) : PI X tg l (iList K tl) := by
  subst h
  exact pi_list hl
end
end BF
set_option Elab.async false
set_option linter.all false
set_option maxRecDepth 100000
set_option maxHeartbeats 4000000
namespace BF
open PySem PySem.Spec PyProof.Rows L2
/-! ### the same rules, the name's binding asked last: in a try's body the context is known late -/
section
variable {X : Cx} {k j : Nat} {C f : Addr} {x m : Str} {sp : Sp} {p pos apos : Pos} {e o : Expr} {es : List Expr} {ta : TE} {t : TA} {W : WX}
theorem pe_cS2 (c : CalX X.prog X.w X.K X.mg X.base k x sp) (hr : Room j X.A) (hk : k ≤ j) {E : L2.St → XK} (hx : ∀ σ, PassesAt (L2.CX X.prog X.w) X σ (E σ)) (ha : PA X (e :: es) t) (hg : Gl X x := by rfl)
    (hdb : (x == ("__debug__" : Str)) = false := by decide) (he : starEach (e :: es) X.env = (false, eval e X.env) :: starEach es X.env := by rfl) (hpl : (backTo pos (starEach es X.env)).any (·.1) = false := by rfl) :
    PE X (.Call (.Name x p) (e :: es) [] pos) (tCallS sp E t) := pe_cS c hr hk hg hx ha hdb he hpl
theorem pe_mkS2 (c : MakX X.prog X.w X.K X.mg X.base k x C sp) (hr : Room j X.A) (hk : k + 1 ≤ j) {E : L2.St → XK} (hx : ∀ σ, PassesAt (L2.CX X.prog X.w) X σ (E σ)) (ha : PA X (e :: es) t) (hg : Gl X x := by rfl)
    (hdb : (x == ("__debug__" : Str)) = false := by decide) (he : starEach (e :: es) X.env = (false, eval e X.env) :: starEach es X.env := by rfl) (hpl : (backTo pos (starEach es X.env)).any (·.1) = false := by rfl) :
    PE X (.Call (.Name x p) (e :: es) [] pos) (tMakeS C sp E t) := pe_mkS c hr hk hg hx ha hdb he hpl
end
end BF
set_option Elab.async false
set_option linter.all false
set_option maxRecDepth 100000
set_option maxHeartbeats 4000000
namespace BF
open PySem PySem.Spec PyProof.Rows L2
/-! ### the well: a list of three ints that draws change -/
def isW : HO → Bool
  | .lst [.int _, .int _, .int _] => true
  | _ => false
def WellAt (H : Hp) (w : Addr) : Prop := ∃ a b c : Int, H w = some (.lst [.int a, .int b, .int c])
/-- all but the well stands, the well is a well still -/
structure Kp (w : Addr) (H H' : Hp) : Prop where
  keep : ∀ b o, b ≠ w → H b = some o → H' b = some o
  well : WellAt H w → WellAt H' w
theorem WellAt.ne {H : Hp} {w p : Addr} (h : WellAt H w) (hp : H p = none) : p ≠ w := fun e => by
  obtain ⟨a, b, c, q⟩ := h
  rw [e, q] at hp
  cases hp
theorem WellAt.neo {H : Hp} {w p : Addr} {o : HO} (h : WellAt H w) (hp : H p = some o) (ho : isW o = false) : p ≠ w := fun e => by
  obtain ⟨a, b, c, q⟩ := h
  rw [e, q] at hp
  cases hp
  exact absurd ho (by simp [isW])
theorem Kp.refl (w : Addr) (H : Hp) : Kp w H H := ⟨fun _ _ _ h => h, id⟩
theorem Kp.trans {w : Addr} {H H1 H2 : Hp} (a : Kp w H H1) (b : Kp w H1 H2) : Kp w H H2 := ⟨fun c o n h => b.keep c o n (a.keep c o n h), fun h => b.well (a.well h)⟩
theorem Kp.same {w : Addr} {H H' : Hp} (s : Same H H') : Kp w H H' := ⟨fun c o _ h => s c o h, fun ⟨a, b, c, h⟩ => ⟨a, b, c, s _ _ h⟩⟩
theorem Kp.get {w : Addr} {H H' : Hp} (k : Kp w H H') (hw : WellAt H w) {p : Addr} {o : HO} (h : H p = some o) (ho : isW o = false := by rfl) : H' p = some o := k.keep p o (hw.neo h ho) h
theorem Kp.free {w : Addr} {H H' : Hp} (k : Kp w H H') (hw : WellAt H w) {p : Addr} (h : H' p = none) : H p = none := by
  have ne : p ≠ w := (k.well hw).ne h
  cases e : H p with
  | none => rfl
  | some o => rw [k.keep p o ne e] at h; cases h
/-- something new is laid -/
theorem Same.new {H : Hp} {p : Addr} {o : HO} (h : H p = none) : Same H (upd H p o) := fun b u e => by rw [upd_ne (ne_of_none e h)]; exact e
/-- what was laid since H is changed -/
theorem Same.put {H H1 : Hp} {p : Addr} {o : HO} (s : Same H H1) (h : H p = none) : Same H (upd H1 p o) := fun b u e => by rw [upd_ne (ne_of_none e h)]; exact s b u e
theorem Kp.put {w : Addr} {H H1 : Hp} {p : Addr} {o : HO} (k : Kp w H H1) (hw : WellAt H w) (h : H p = none) : Kp w H (upd H1 p o) :=
  have ne : p ≠ w := hw.ne h
  ⟨fun b u n e => by rw [upd_ne (ne_of_none e h)]; exact k.keep b u n e, fun q => by
    obtain ⟨a, b, c, z⟩ := k.well q
    exact ⟨a, b, c, by rw [upd_ne ne.symm]; exact z⟩⟩
theorem Kp.set {w : Addr} {H : Hp} {a b c : Int} : Kp w H (upd H w (.lst [.int a, .int b, .int c])) := ⟨fun p o n e => by rw [upd_ne n]; exact e, fun _ => ⟨a, b, c, upd_same⟩⟩
theorem WellAt.put {H : Hp} {w p : Addr} {o : HO} (h : WellAt H w) (ne : p ≠ w) : WellAt (upd H p o) w := by
  obtain ⟨a, b, c, z⟩ := h
  exact ⟨a, b, c, by rw [upd_ne ne.symm]; exact z⟩
theorem WellAt.same {H H' : Hp} {w : Addr} (h : WellAt H w) (s : Same H H') : WellAt H' w := by
  obtain ⟨a, b, c, z⟩ := h
  exact ⟨a, b, c, s _ _ z⟩
theorem isW_strs (xs : List Str) : isW (.lst (xs.map V.str)) = false := by
  match xs with
  | [] => rfl
  | [a] => rfl
  | [a, b] => rfl
  | [a, b, c] => rfl
  | a :: b :: c :: d :: r => rfl
/-! ### promises of the law's drawing -/
def spSource : Sp := fun vs H Q _ => ∃ c : Int, vs = [.int c] ∧ ∀ p H', H p = none → Same H H' → WellAt H' p → Q (.ref p) H'
def spDraw : Sp := fun vs H Q _ => ∃ (w : Addr) (m : Int), vs = [.ref w, .int m] ∧ WellAt H w ∧ 1 ≤ m ∧ m < 1073741824 ∧ ∀ n H', 0 ≤ n → n < m → Kp w H H' → Q (.int n) H'
/-- from a list that stands still, or a text -/
def spPick : Sp := fun vs H Q _ => ∃ (w : Addr) (x : V), vs = [.ref w, x] ∧ WellAt H w ∧
  ((∃ a xs, x = .ref a ∧ H a = some (.lst xs) ∧ isW (.lst xs) = false ∧ xs ≠ [] ∧ xs.length < 1000 ∧ ∀ v H', v ∈ xs → Kp w H H' → Q v H') ∨
   (∃ z : Str, x = .str z ∧ 1 ≤ z.length ∧ z.length < 1000 ∧ ∀ c H', c ∈ z.cps.toList → Kp w H H' → Q (.str ⟨#[c]⟩) H'))
theorem atI_of {xs : List V} {n : Int} (h0 : 0 ≤ n) (h : n.toNat < xs.length) : atI xs n = some xs[n.toNat] := by
  have q : atI xs ((n.toNat : Nat) : Int) = some xs[n.toNat] := atI_nat (by simp)
  rw [Int.toNat_of_nonneg h0] at q
  exact q
theorem atN_of {xs : List Nat} {n : Int} (h0 : 0 ≤ n) (h : n.toNat < xs.length) : atI xs n = some xs[n.toNat] := by
  have q : atI xs ((n.toNat : Nat) : Int) = some xs[n.toNat] := atI_nat (by simp)
  rw [Int.toNat_of_nonneg h0] at q
  exact q
/-! ### names -/
def isLow (c : Nat) : Bool := decide (97 ≤ c) && decide (c ≤ 122)
def isNm (x : Str) : Bool := decide (1 ≤ x.length) && decide (x.length ≤ 8) && x.cps.toList.all isLow
def letters : Str := "abcdefghijklmnopqrstuvwxyz"
theorem letters_list : letters.cps.toList = List.range' 97 26 := by decide +kernel
theorem letters_mem (c : Nat) : c ∈ letters.cps.toList ↔ isLow c = true := by
  rw [letters_list, List.mem_range']
  unfold isLow
  simp only [Bool.and_eq_true, decide_eq_true_eq]
  constructor
  · rintro ⟨i, h1, h2⟩
    omega
  · intro ⟨h1, h2⟩
    exact ⟨c - 97, by omega, by omega⟩
theorem letters_len : letters.length = 26 := by decide +kernel
theorem joinL_nil (cs : List Nat) : TL.joinL [] (cs.map fun c => [c]) = cs := by
  match cs with
  | [] => rfl
  | [c] => rfl
  | c :: d :: r =>
    have ih := joinL_nil (d :: r)
    show [c] ++ ([] ++ TL.joinL [] (([d] : List Nat) :: r.map fun c => [c])) = c :: d :: r
    have e : TL.joinL [] (([d] : List Nat) :: r.map fun c => [c]) = d :: r := ih
    rw [e]
    rfl
theorem bf_join (cs : List Nat) : Txt.join (Str.ofString "") ((cs.map fun c => [c]).map SX.S) = SX.S cs := by
  have e : Str.ofString "" = SX.S [] := by decide +kernel
  rw [e, SX.join_S, joinL_nil]
theorem slice_8 {cs : List Nat} (h : cs.length ≤ 8) : Txt.slice (SX.S cs) none (some 8) = SX.S cs := by
  rw [SX.slice_to (by omega)]
  congr 1
  exact List.take_of_length_le (by show cs.length ≤ 8; exact h)
theorem bf_sum (cs : List Nat) : (((cs.map fun c => [c]).map SX.S).map (·.length)).sum = cs.length := by
  rw [SX.lens]
  induction cs with
  | nil => rfl
  | cons c r ih =>
    simp only [List.map_cons, List.sum_cons, ih, List.length_cons, List.length_nil]
    omega
theorem flat_strs (xs : List Str) : (xs.map V.str).all flatV = true := by
  rw [List.all_eq_true]
  intro x hx
  obtain ⟨y, _, rfl⟩ := List.mem_map.mp hx
  rfl
/-- a short word: at most seven of the letters, one at least, not six -/
def Short (x : Str) : Prop := isNm x = true ∧ x.length ≤ 7 ∧ x.length ≠ 6
theorem short_of {cs : List Nat} (h1 : 1 ≤ cs.length) (h2 : cs.length ≤ 7) (h6 : cs.length ≠ 6) (h3 : ∀ c ∈ cs, isLow c = true) : Short (SX.S cs) := by
  have e : (SX.S cs).cps.toList = cs := rfl
  refine ⟨?_, by rw [SX.S_len]; exact ⟨h2, h6⟩⟩
  unfold isNm
  rw [SX.S_len, e]
  simp only [Bool.and_eq_true, decide_eq_true_eq, List.all_eq_true]
  exact ⟨⟨h1, by omega⟩, h3⟩
/-- the join of single letters, cut at 8 -/
theorem word_of {cs : List Nat} (h2 : cs.length ≤ 7) : Txt.slice (Txt.join (SX.S []) ((cs.map fun c => [c]).map SX.S)) none (some 8) = SX.S cs := by
  rw [SX.join_S, joinL_nil, SX.slice_to (by omega)]
  congr 1
  exact List.take_of_length_le (by show cs.length ≤ 8; omega)
def spNames : Sp := fun vs H Q _ => ∃ (w : Addr) (m : Int), vs = [.ref w, .int m] ∧ WellAt H w ∧ 0 ≤ m ∧ m ≤ 1000 ∧
  ∀ p (xs : List Str) H', H p = none → Kp w H H' → H' p = some (.lst (xs.map V.str)) → (xs.length : Int) = m → (∀ x ∈ xs, Short x) → Q (.ref p) H'
/-- of a list that stands still, or of a dict's keys -/
def spShuffled : Sp := fun vs H Q _ => ∃ (w a : Addr) (xs : List V), vs = [.ref w, .ref a] ∧ WellAt H w ∧ H a = some (.lst xs) ∧ isW (.lst xs) = false ∧ xs.length ≤ 1000 ∧
  ∀ p ys H', H p = none → Kp w H H' → H' p = some (.lst ys) → ys.Perm xs → Q (.ref p) H'
def spShuffledD : Sp := fun vs H Q _ => ∃ (w a : Addr) (kvs : List (Key × V)), vs = [.ref w, .ref a] ∧ WellAt H w ∧ H a = some (.dK kvs) ∧ kvs.length ≤ 1000 ∧
  ∀ p ys H', H p = none → Kp w H H' → H' p = some (.lst ys) → ys.Perm (kvs.map fun kv => kV kv.1) → Q (.ref p) H'
def spIsName : Sp := fun vs H Q _ => ∃ x : Str, vs = [.str x] ∧ x.length ≤ 1000 ∧ ∀ H', Same H H' → Q (.bl (isNm x)) H'
theorem in_letters (c : Nat) : decide (c ∈ (Str.ofString "abcdefghijklmnopqrstuvwxyz").cps.toList) = isLow c := by
  cases e : isLow c with
  | true => exact decide_eq_true ((letters_mem c).mpr e)
  | false => exact decide_eq_false fun h => by rw [(letters_mem c).mp h] at e; cases e
theorem one_lt (a b : Nat) : (([a] : List Nat) < [b]) ↔ a < b := by
  constructor
  · intro h
    cases h with
    | rel h => exact h
    | cons h => cases h
  · intro h
    exact List.Lex.rel h
theorem from_a (c : Nat) : (!decide ((⟨#[c]⟩ : Str).cps.toList < (Str.ofString "a").cps.toList)) = decide (97 ≤ c) := by
  have e : (Str.ofString "a").cps.toList = [97] := by decide +kernel
  rw [e]
  show (!decide (([c] : List Nat) < [97])) = _
  by_cases h : 97 ≤ c
  · rw [decide_eq_true h, decide_eq_false (fun q => by have := (one_lt c 97).mp q; omega)]
    rfl
  · rw [decide_eq_false h, decide_eq_true ((one_lt c 97).mpr (by omega))]
    rfl
theorem to_z (c : Nat) : (!decide ((Str.ofString "z").cps.toList < (⟨#[c]⟩ : Str).cps.toList)) = decide (c ≤ 122) := by
  have e : (Str.ofString "z").cps.toList = [122] := by decide +kernel
  rw [e]
  show (!decide (([122] : List Nat) < [c])) = _
  by_cases h : c ≤ 122
  · rw [decide_eq_true h, decide_eq_false (fun q => by have := (one_lt 122 c).mp q; omega)]
    rfl
  · rw [decide_eq_false h, decide_eq_true ((one_lt 122 c).mpr (by omega))]
    rfl
theorem isNm_true {x : Str} (h1 : 1 ≤ x.length) (h2 : x.length ≤ 8) : isNm x = (x.cps.toList.map isLow).all id := by
  unfold isNm
  rw [decide_eq_true h1, decide_eq_true h2, List.all_map]
  rfl
theorem isNm_no {x : Str} (h : ¬ (1 ≤ x.length ∧ x.length ≤ 8)) : isNm x = false := by
  unfold isNm
  by_cases h1 : 1 ≤ x.length
  · rw [decide_eq_false (fun h2 => h ⟨h1, h2⟩)]
    simp
  · rw [decide_eq_false h1]
    simp
theorem take_snoc {α β : Type} (f : α → β) {l : List α} {i : Nat} {c : α} (h : l[i]? = some c) : (l.take (i + 1)).map f = (l.take i).map f ++ [f c] := by
  rw [List.take_succ, h]
  simp
theorem erase_perm {α : Type} : ∀ {l : List α} {i : Nat} (h : i < l.length), (l[i] :: l.eraseIdx i).Perm l
  | a :: l, 0, _ => List.Perm.refl _
  | a :: l, i + 1, h => by
    have ih := erase_perm (l := l) (i := i) (by simpa using h)
    have hi : i < l.length := by simpa using h
    show (l[i] :: a :: l.eraseIdx i).Perm (a :: l)
    exact (List.Perm.swap _ _ _).trans (List.Perm.cons _ ih)
/-! ### the first wrong entry of a list of names -/
def okAt (xs : List Str) (k : Nat) : Bool := match xs[k]? with
  | some x => isNm x && !decide (x ∈ xs.take k)
  | none => true
def fwF (xs : List Str) : Option Nat := (List.range xs.length).find? fun k => !okAt xs k
theorem fw_none {xs : List Str} (h : ∀ k, k < xs.length → okAt xs k = true) : fwF xs = none := by
  unfold fwF
  rw [List.find?_eq_none]
  intro k hk
  rw [h k (List.mem_range.mp hk)]
  simp
theorem fw_some {xs : List Str} {k : Nat} (h1 : k < xs.length) (h2 : okAt xs k = false) (h3 : ∀ j, j < k → okAt xs j = true) : fwF xs = some k := by
  unfold fwF
  rw [List.find?_range_eq_some]
  refine ⟨by rw [h2]; rfl, List.mem_range.mpr h1, fun j hj => by rw [h3 j hj]; rfl⟩
theorem fw_ok {xs : List Str} (h : fwF xs = none) {k : Nat} (hk : k < xs.length) : okAt xs k = true := by
  unfold fwF at h
  rw [List.find?_eq_none] at h
  have := h k (List.mem_range.mpr hk)
  simpa using this
def fwV (xs : List Str) : V := match fwF xs with
  | none => .non
  | some k => .int (k : Nat)
/-- first_wrong(entries, is_name), is_name being the def at f -/
def spFirst (f : Addr) : Sp := fun vs H Q _ => ∃ (a : Addr) (xs : List Str), vs = [.ref a, .ref f] ∧ H a = some (.lst (xs.map V.str)) ∧ xs.length ≤ 1000 ∧ (∀ x ∈ xs, x.length ≤ 1000) ∧ ∀ H', Same H H' → Q (fwV xs) H'
/-! ### readings in one step -/
section
variable {K : PySem.W.Frag} {H : Hp} {Q : VK}
theorem len_s {z : Str} (h : z.length ≤ 1000) (q : Q (.int z.length) H) : ∃ x n, [V.str z] = [x] ∧ LenV K x H n ∧ Q (.int (n : Nat)) H := ⟨_, _, rfl, ⟨by rw [sizeLine_eq]; omega, rfl⟩, q⟩
theorem len_l {a : Addr} {xs : List V} (h : H a = some (.lst xs)) (q : Q (.int xs.length) H) : ∃ x n, [V.ref a] = [x] ∧ LenV K x H n ∧ Q (.int (n : Nat)) H := ⟨_, _, rfl, .inl ⟨_, SqL.of h, rfl⟩, q⟩
theorem len_t {a : Addr} {xs : List V} (h : H a = some (.tup xs)) (q : Q (.int xs.length) H) : ∃ x n, [V.ref a] = [x] ∧ LenV K x H n ∧ Q (.int (n : Nat)) H := ⟨_, _, rfl, .inr ⟨_, SqT.of h, rfl⟩, q⟩
theorem isi_ss {z : Str} (q : Q (.bl true) H) : rIsi K [.str z, .ty "str"] H Q := ⟨_, _, _, _, true, rfl, .ty _, .base (.str _), kit_ty (by decide +kernel), q⟩
end
end BF
set_option Elab.async false
set_option linter.all false
set_option maxRecDepth 100000
set_option maxHeartbeats 4000000
namespace BF
open PySem PySem.Spec PyProof.Rows L2
/-! ### texts in order -/
def leS (a b : Str) : Bool := !decide (b.cps.toList < a.cps.toList)
theorem leS_iff (a b : Str) : leS a b = true ↔ a.cps.toList ≤ b.cps.toList := by
  unfold leS
  rw [Bool.not_eq_true', decide_eq_false_iff_not, List.not_lt]
theorem leS_trans (a b c : Str) (h1 : leS a b = true) (h2 : leS b c = true) : leS a c = true := (leS_iff a c).mpr (List.le_trans ((leS_iff a b).mp h1) ((leS_iff b c).mp h2))
theorem leS_total (a b : Str) : (leS a b || leS b a) = true := by
  rw [Bool.or_eq_true, leS_iff, leS_iff]
  exact List.le_total _ _
theorem str_ext {a b : Str} (h : a.cps.toList = b.cps.toList) : a = b := by
  cases a
  cases b
  simp only at h
  congr
  exact Array.toList_inj.mp h
theorem leS_anti (a b : Str) (h1 : leS a b = true) (h2 : leS b a = true) : a = b := str_ext (List.le_antisymm ((leS_iff a b).mp h1) ((leS_iff b a).mp h2))
def sortS (xs : List Str) : List Str := xs.mergeSort leS
theorem rising_all : ∀ (r : List Str) (p : Str), risingS p r = true → (p :: r).Pairwise fun a b => leS a b = true
  | [], p, _ => List.pairwise_singleton _ _
  | x :: r, p, h => by
    unfold risingS at h
    rw [Bool.and_eq_true] at h
    have h1 : leS p x = true := by
      have := h.1
      rw [ltCps_eq] at this
      exact this
    have ih := rising_all r x h.2
    refine List.pairwise_cons.mpr ⟨fun y hy => ?_, ih⟩
    rcases List.mem_cons.mp hy with rfl | hy
    · exact h1
    · exact leS_trans _ _ _ h1 ((List.pairwise_cons.mp ih).1 y hy)
theorem sortS_eq {xs ys : List Str} (p : ys.Perm xs) (h : sortedS ys = true) : ys = sortS xs := by
  have h1 : ys.Pairwise fun a b => leS a b = true := by
    cases ys with
    | nil => exact List.Pairwise.nil
    | cons y r => exact rising_all r y h
  have h2 : (sortS xs).Pairwise fun a b => leS a b = true := List.pairwise_mergeSort (le := leS) leS_trans leS_total xs
  exact List.Perm.eq_of_pairwise (le := fun a b => leS a b = true) (fun a b _ _ x y => leS_anti a b x y) h1 h2 (p.trans (List.mergeSort_perm xs leS).symm)
theorem sortS_perm (xs : List Str) : (sortS xs).Perm xs := List.mergeSort_perm xs leS
theorem sortS_length (xs : List Str) : (sortS xs).length = xs.length := (sortS_perm xs).length_eq
theorem sortS_of_perm {xs ys : List Str} (p : xs.Perm ys) : sortS xs = sortS ys := by
  have h1 : (sortS xs).Pairwise fun a b => leS a b = true := List.pairwise_mergeSort (le := leS) leS_trans leS_total xs
  have h2 : (sortS ys).Pairwise fun a b => leS a b = true := List.pairwise_mergeSort (le := leS) leS_trans leS_total ys
  exact List.Perm.eq_of_pairwise (le := fun a b => leS a b = true) (fun a b _ _ x y => leS_anti a b x y) h1 h2 ((sortS_perm xs).trans (p.trans (sortS_perm ys).symm))

/-! ### values that may be a pair of places -/
inductive TV where
  | ends (a b : Str)
  | junk
def tvOf : Option Str → Option Str → TV
  | some a, some b => .ends a b
  | _, _ => .junk
/-- a text, or surely none -/
inductive IsS (K : PySem.W.Frag) (H : Hp) : V → Option Str → Prop
  | str (z : Str) : IsS K H (.str z) (some z)
  | no {x : V} {t : Value} (h : TyX K H x t) (k : PySem.W.kitOne K t (.type "str") = some false) : IsS K H x none
inductive TVr (K : PySem.W.Frag) (H : Hp) : V → TV → Prop
  | no {x : V} {t : Value} (h : TyX K H x t) (k : PySem.W.kitOne K t (.type "tuple") = some false) : TVr K H x .junk
  | long {p : Addr} {xs : List V} (h : H p = some (.tup xs)) (n : xs.length ≠ 2) : TVr K H (.ref p) .junk
  | pair {p : Addr} {x y : V} {a b : Option Str} (h : H p = some (.tup [x, y])) (hx : IsS K H x a) (hy : IsS K H y b) : TVr K H (.ref p) (tvOf a b)
theorem _root_.L2.TyX.kp {K : PySem.W.Frag} {H H' : Hp} {w : Addr} {x : V} {t : Value} (h : TyX K H x t) (k : Kp w H H') (hw : WellAt H w) : TyX K H' x t := by
  cases h with
  | base b =>
    cases b with
    | non => exact .base .non
    | bl x => exact .base (.bl x)
    | int i => exact .base (.int i)
    | str x => exact .base (.str x)
    | flt x => exact .base (.flt x)
    | @lst a xs e =>
      by_cases ea : a = w
      · subst ea
        obtain ⟨p, q, r, z⟩ := k.well hw
        exact .base (.lst z)
      · exact .base (.lst (k.keep _ _ ea e))
    | frz e => exact .base (.frz (k.get hw e))
    | tup e => exact .base (.tup (k.get hw e))
    | dK e => exact .base (.dK (k.get hw e))
    | dT e => exact .base (.dT (k.get hw e))
    | ins e cl ha hn htk hm => exact .base (.ins (k.get hw e) cl ha hn htk hm)
  | byt b => exact .byt b
  | set e => exact .set (k.get hw e)
  | kList e c => exact .kList e c
  | kTuple e c => exact .kTuple e c
  | kDict e c => exact .kDict e c
  | fTuple e => exact .fTuple (k.get hw e)
  | fDict e => exact .fDict (k.get hw e)
theorem _root_.L2.TyX.same {K : PySem.W.Frag} {H H' : Hp} {x : V} {t : Value} (h : TyX K H x t) (s : Same H H') : TyX K H' x t := by
  cases h with
  | base b =>
    cases b with
    | non => exact .base .non
    | bl x => exact .base (.bl x)
    | int i => exact .base (.int i)
    | str x => exact .base (.str x)
    | flt x => exact .base (.flt x)
    | lst e => exact .base (.lst (s _ _ e))
    | frz e => exact .base (.frz (s _ _ e))
    | tup e => exact .base (.tup (s _ _ e))
    | dK e => exact .base (.dK (s _ _ e))
    | dT e => exact .base (.dT (s _ _ e))
    | ins e cl ha hn htk hm => exact .base (.ins (s _ _ e) cl ha hn htk hm)
  | byt b => exact .byt b
  | set e => exact .set (s _ _ e)
  | kList e c => exact .kList e c
  | kTuple e c => exact .kTuple e c
  | kDict e c => exact .kDict e c
  | fTuple e => exact .fTuple (s _ _ e)
  | fDict e => exact .fDict (s _ _ e)
theorem IsS.kp {K : PySem.W.Frag} {H H' : Hp} {w : Addr} {x : V} {o : Option Str} (h : IsS K H x o) (k : Kp w H H') (hw : WellAt H w) : IsS K H' x o := by
  cases h with
  | str z => exact .str z
  | no h e => exact .no (h.kp k hw) e
theorem IsS.same {K : PySem.W.Frag} {H H' : Hp} {x : V} {o : Option Str} (h : IsS K H x o) (s : Same H H') : IsS K H' x o := by
  cases h with
  | str z => exact .str z
  | no h e => exact .no (h.same s) e
theorem TVr.kp {K : PySem.W.Frag} {H H' : Hp} {w : Addr} {x : V} {o : TV} (h : TVr K H x o) (k : Kp w H H') (hw : WellAt H w) : TVr K H' x o := by
  cases h with
  | no h e => exact .no (h.kp k hw) e
  | long h n => exact .long (k.get hw h) n
  | pair h hx hy => exact .pair (k.get hw h) (hx.kp k hw) (hy.kp k hw)
theorem TVr.same {K : PySem.W.Frag} {H H' : Hp} {x : V} {o : TV} (h : TVr K H x o) (s : Same H H') : TVr K H' x o := by
  cases h with
  | no h e => exact .no (h.same s) e
  | long h n => exact .long (s _ _ h) n
  | pair h hx hy => exact .pair (s _ _ h) (hx.same s) (hy.same s)
theorem TVr.ends {K : PySem.W.Frag} {H : Hp} {p : Addr} {a b : Str} (h : H p = some (.tup [.str a, .str b])) : TVr K H (.ref p) (.ends a b) := TVr.pair (a := some a) (b := some b) h (.str a) (.str b)
theorem TVr.get {K : PySem.W.Frag} {H : Hp} {x : V} {a b : Str} (h : TVr K H x (.ends a b)) : ∃ p, x = .ref p ∧ H p = some (.tup [.str a, .str b]) := by
  generalize ht : TV.ends a b = t at h
  cases h with
  | no h e => cases ht
  | long h n => cases ht
  | @pair p x y oa ob h hx hy =>
    cases hx with
    | no _ _ => cases ht
    | str u =>
      cases hy with
      | no _ _ => cases ht
      | str v =>
        cases ht
        exact ⟨p, rfl, h⟩
/-! ### dicts of such -/
abbrev Tie (K : PySem.W.Frag) (H : Hp) : Key × V → Str × TV → Prop := fun p e => p.1 = .inr e.1 ∧ TVr K H p.2 e.2
structure TiesR (K : PySem.W.Frag) (H : Hp) (d : Addr) (es : List (Str × TV)) : Prop where
  ex : ∃ kvs, H d = some (.dK kvs) ∧ Paired (Tie K H) kvs es
  nd : (es.map (·.1)).Nodup
def lkE (es : List (Str × TV)) (n : Str) : Option TV := (es.find? fun e => decide (e.1 = n)).map (·.2)
theorem Paired.imp {α β : Type} {F G : α → β → Prop} (h : ∀ a b, F a b → G a b) : ∀ {xs : List α} {ys : List β}, Paired F xs ys → Paired G xs ys
  | _, _, .nil => .nil
  | _, _, .cons p t => .cons (h _ _ p) (Paired.imp h t)
theorem tie_keys {K : PySem.W.Frag} {H : Hp} : ∀ {kvs : List (Key × V)} {es : List (Str × TV)}, Paired (Tie K H) kvs es → kvs.map (·.1) = (es.map (·.1)).map Sum.inr
  | _, _, .nil => rfl
  | _, _, .cons p t => by rw [List.map_cons, List.map_cons, List.map_cons, tie_keys t, p.1]
theorem tie_get {K : PySem.W.Frag} {H : Hp} {n : Str} : ∀ {kvs : List (Key × V)} {es : List (Str × TV)}, Paired (Tie K H) kvs es → n ∈ es.map (·.1) → ∃ v tv, valV kvs (.inr n) = some v ∧ lkE es n = some tv ∧ TVr K H v tv
  | _, _, .nil, h => by cases h
  | (k, v) :: kvs, (m, tv) :: es, .cons p t, h => by
    obtain ⟨e, r⟩ := p
    have e : k = Sum.inr m := e
    subst e
    by_cases hm : m = n
    · subst hm
      exact ⟨v, tv, valV_pos rfl, by simp [lkE], r⟩
    · obtain ⟨v', tv', h1, h2, h3⟩ := tie_get t ((List.mem_cons.mp h).resolve_left fun q => hm q.symm)
      exact ⟨v', tv', by rw [valV_neg (fun q => hm (Sum.inr.inj q))]; exact h1, by simpa [lkE, hm] using h2, h3⟩
theorem TiesR.kp {K : PySem.W.Frag} {H H' : Hp} {w d : Addr} {es : List (Str × TV)} (h : TiesR K H d es) (k : Kp w H H') (hw : WellAt H w) : TiesR K H' d es := by
  obtain ⟨⟨kvs, e, p⟩, nd⟩ := h
  exact ⟨⟨kvs, k.get hw e, Paired.imp (fun a b q => ⟨q.1, q.2.kp k hw⟩) p⟩, nd⟩
theorem TiesR.same {K : PySem.W.Frag} {H H' : Hp} {d : Addr} {es : List (Str × TV)} (h : TiesR K H d es) (s : Same H H') : TiesR K H' d es := by
  obtain ⟨⟨kvs, e, p⟩, nd⟩ := h
  exact ⟨⟨kvs, s _ _ e, Paired.imp (fun a b q => ⟨q.1, q.2.same s⟩) p⟩, nd⟩
/-! ### what is due -/
inductive Due where
  | places (k : Int)
  | ties (n : Str)
  | many
def goodT (ps : List Str) : TV → Bool
  | .ends a b => decide (a ∈ ps) && decide (b ∈ ps)
  | .junk => false
def goodE (ps : List Str) (es : List (Str × TV)) (n : Str) : Bool := isNm n && match lkE es n with
  | some tv => goodT ps tv
  | none => false
/-- the first wrong thing of places: its index, or -1 -/
def plF (ps : List Str) : Option Int := if 1 ≤ ps.length ∧ ps.length ≤ 16 then (fwF ps).map (fun k => (k : Int)) else some (-1)
def tiF (ps : List Str) (es : List (Str × TV)) : Option Str := (sortS (es.map (·.1))).find? fun n => !goodE ps es n
def dueOf (ps : List Str) (es : List (Str × TV)) : Option Due := match plF ps with
  | some k => some (.places k)
  | none => match tiF ps es with
    | some n => some (.ties n)
    | none => if 24 < es.length then some .many else none
def srt2 (a b : Str) : Str × Str := if leS a b = true then (a, b) else (b, a)
theorem sortS_two (a b : Str) : sortS [a, b] = [(srt2 a b).1, (srt2 a b).2] := by
  unfold srt2
  split
  · rename_i h
    refine (sortS_eq (List.Perm.refl _) ?_).symm
    show (!ltCps b.cps.toList a.cps.toList && true) = true
    rw [ltCps_eq, Bool.and_true]
    exact h
  · rename_i h
    refine (sortS_eq (List.Perm.swap _ _ _) ?_).symm
    show (!ltCps a.cps.toList b.cps.toList && true) = true
    rw [ltCps_eq, Bool.and_true]
    have := leS_total a b
    rw [Bool.or_eq_true] at this
    exact this.resolve_left h
def endsOf (es : List (Str × TV)) (n : Str) : Str × Str := match lkE es n with
  | some (.ends a b) => srt2 a b
  | _ => (n, n)
def webTies (es : List (Str × TV)) : List (Str × Str × Str) := (sortS (es.map (·.1))).map fun n => (n, endsOf es n)
theorem inV_strs (z : Str) (ps : List Str) : inV (.str z) (ps.map V.str) = decide (z ∈ ps) := by
  induction ps with
  | nil => rfl
  | cons p r ih =>
    unfold inV at ih ⊢
    rw [List.map_cons, List.any_cons, ih]
    show (decide (p = z) || decide (z ∈ r)) = _
    by_cases h : p = z
    · subst h
      simp
    · have h' : ¬ z = p := fun e => h e.symm
      simp [h, h']
def inO (ps : List Str) : Option Str → Bool
  | some z => decide (z ∈ ps)
  | none => false
theorem goodT_of (ps : List Str) (a b : Option Str) : goodT ps (tvOf a b) = ([inO ps a, inO ps b]).all id := by
  cases a with
  | none => rfl
  | some a =>
    cases b with
    | none => simp [tvOf, goodT, inO]
    | some b => simp [tvOf, goodT, inO]
end BF
set_option Elab.async false
set_option linter.all false
set_option maxRecDepth 100000
set_option maxHeartbeats 4000000
namespace BF
open PySem PySem.Spec PyProof.Rows L2
theorem dget_s {H : Hp} {a : Addr} {kvs : List (Key × V)} {n : Str} {v : V} (e : Rd H a (.dK kvs)) (h : valV kvs (.inr n) = some v) : DGet H a (.str n) (some v) := .inl ⟨kvs, .inr n, e, rfl, h.symm⟩
/-- pairs of texts under a key -/
abbrev Tup2 (H : Hp) : Key × V → Str × Str × Str → Prop := fun p e => p.1 = .inr e.1 ∧ ∃ t, p.2 = .ref t ∧ H t = some (.tup [.str e.2.1, .str e.2.2])
theorem tup2_mono {H H' : Hp} (hs : ∀ t xs, H t = some (.tup xs) → H' t = some (.tup xs)) {kvs : List (Key × V)} {ts : List (Str × Str × Str)} (h : Paired (Tup2 H) kvs ts) : Paired (Tup2 H') kvs ts :=
  Paired.imp (fun _ _ ⟨e, t, e2, q⟩ => ⟨e, t, e2, hs _ _ q⟩) h
theorem Paired.snoc {α β : Type} {F : α → β → Prop} {a : α} {b : β} (f : F a b) : ∀ {xs : List α} {ys : List β}, Paired F xs ys → Paired F (xs ++ [a]) (ys ++ [b])
  | _, _, .nil => .cons f .nil
  | _, _, .cons p t => .cons p (Paired.snoc f t)
theorem keys2 {H : Hp} : ∀ {kvs : List (Key × V)} {ts : List (Str × Str × Str)}, Paired (Tup2 H) kvs ts → kvs.map (·.1) = (ts.map (·.1)).map Sum.inr
  | _, _, .nil => rfl
  | _, _, .cons p t => by rw [List.map_cons, List.map_cons, List.map_cons, keys2 t, p.1]
theorem valV_none {kvs : List (Key × V)} {k : Key} (h : k ∉ kvs.map (·.1)) : valV kvs k = none := by
  unfold valV
  rw [List.find?_eq_none.mpr (fun p hp => by simp only [decide_eq_true_eq]; exact fun e => h (List.mem_map.mpr ⟨p, hp, e⟩))]
  rfl
theorem get2 {H : Hp} {n : Str} {e : Str × Str} : ∀ {kvs : List (Key × V)} {ts : List (Str × Str × Str)}, Paired (Tup2 H) kvs ts → (ts.map (·.1)).Nodup → (n, e) ∈ ts → ∃ t, valV kvs (.inr n) = some (.ref t) ∧ H t = some (.tup [.str e.1, .str e.2])
  | _, _, .nil, _, h => by cases h
  | (k, v) :: kvs, (m, f) :: ts, .cons p t, nd, h => by
    obtain ⟨e1, q, e2, hq⟩ := p
    have e1 : k = Sum.inr m := e1
    have e2 : v = .ref q := e2
    subst e1 e2
    have nd : (m :: ts.map (·.1)).Nodup := nd
    rcases List.mem_cons.mp h with h | h
    · cases h
      exact ⟨q, valV_pos rfl, hq⟩
    · have hm : ¬ m = n := fun e => (List.nodup_cons.mp nd).1 (List.mem_map.mpr ⟨_, h, e.symm⟩)
      obtain ⟨t', h1, h2⟩ := get2 t (List.nodup_cons.mp nd).2 h
      exact ⟨t', by rw [valV_neg (fun q => hm (Sum.inr.inj q))]; exact h1, h2⟩
theorem goodT_perm {ps qs : List Str} (h : ∀ x, x ∈ ps ↔ x ∈ qs) (tv : TV) : goodT ps tv = goodT qs tv := by
  cases tv with
  | junk => rfl
  | ends a b => simp [goodT, h]
theorem tiF_perm {ps qs : List Str} (h : ∀ x, x ∈ ps ↔ x ∈ qs) (es : List (Str × TV)) : tiF ps es = tiF qs es := by
  have e : goodE ps es = goodE qs es := by
    funext n
    unfold goodE
    cases lkE es n with
    | none => rfl
    | some tv => simp only [goodT_perm h tv]
  unfold tiF
  rw [e]
theorem mem_sortS (xs : List Str) (x : Str) : x ∈ sortS xs ↔ x ∈ xs := (sortS_perm xs).mem_iff
theorem tiF_some {ps : List Str} {es : List (Str × TV)} {i : Nat} {n : Str} (h : (sortS (es.map (·.1)))[i]? = some n) (hb : goodE ps es n = false) (hok : ∀ j, j < i → ∀ m, (sortS (es.map (·.1)))[j]? = some m → goodE ps es m = true) : tiF ps es = some n := by
  unfold tiF
  rw [List.find?_eq_some_iff_getElem]
  obtain ⟨hi, e⟩ := List.getElem?_eq_some_iff.mp h
  refine ⟨by rw [hb]; rfl, i, hi, e, fun j hj => ?_⟩
  rw [hok j hj _ (List.getElem?_eq_getElem (by omega))]
  rfl
theorem tiF_none {ps : List Str} {es : List (Str × TV)} (hok : ∀ j, j < es.length → ∀ m, (sortS (es.map (·.1)))[j]? = some m → goodE ps es m = true) : tiF ps es = none := by
  unfold tiF
  rw [List.find?_eq_none]
  intro n hn
  obtain ⟨j, hj, e⟩ := List.mem_iff_getElem.mp hn
  have hj' : j < es.length := by
    rw [sortS_length, List.length_map] at hj
    exact hj
  rw [hok j hj' n (by rw [← e]; exact List.getElem?_eq_getElem hj)]
  simp
theorem goodE_of {ps : List Str} {es : List (Str × TV)} {n : Str} {tv : TV} (h : lkE es n = some tv) : goodE ps es n = (isNm n && goodT ps tv) := by
  unfold goodE
  rw [h]
theorem goodE_ends {ps : List Str} {es : List (Str × TV)} {n : Str} (h : goodE ps es n = true) : isNm n = true ∧ ∃ a b, lkE es n = some (.ends a b) ∧ a ∈ ps ∧ b ∈ ps := by
  unfold goodE at h
  rw [Bool.and_eq_true] at h
  obtain ⟨h1, h2⟩ := h
  refine ⟨h1, ?_⟩
  cases e : lkE es n with
  | none => rw [e] at h2; cases h2
  | some tv =>
    rw [e] at h2
    cases tv with
    | junk => cases h2
    | ends a b =>
      simp [goodT] at h2
      exact ⟨a, b, rfl, h2.1, h2.2⟩
theorem endsOf_eq {es : List (Str × TV)} {n a b : Str} (h : lkE es n = some (.ends a b)) : endsOf es n = srt2 a b := by
  unfold endsOf
  rw [h]
theorem nodup_sortS {xs : List Str} (h : xs.Nodup) : (sortS xs).Nodup := (sortS_perm xs).nodup_iff.mpr h
end BF
set_option Elab.async false
set_option linter.all false
set_option maxRecDepth 100000
set_option maxHeartbeats 4000000
namespace BF
open PySem PySem.Spec PyProof.Rows L2
/-! ### lists of texts and ties as data -/
theorem dpAll_strs {K : PySem.W.Frag} {H : Hp} : ∀ ps : List Str, DpAll K H (ps.map V.str) (ps.map PyData.str)
  | [] => .nil
  | p :: r => .cons (.str p) (dpAll_strs r)
theorem dp_strs {K : PySem.W.Frag} {H : Hp} {a : Addr} {ps : List Str} (h : H a = some (.lst (ps.map V.str))) : Dp K H (.ref a) (.list (ps.map PyData.str)) := .lst (SqL.of h) (dpAll_strs ps)
theorem isNm_ok {x : Str} (h : isNm x = true) : PyData.strOk x = true := by
  unfold isNm at h
  simp only [Bool.and_eq_true, decide_eq_true_eq, List.all_eq_true] at h
  unfold PyData.strOk
  rw [Array.all_eq_true']
  intro c hc
  have := h.2 c (Array.mem_toList_iff.mpr hc)
  unfold isLow at this
  simp only [Bool.and_eq_true, decide_eq_true_eq] at this
  simp only [decide_eq_true_eq]
  omega
theorem lay_strs : ∀ ps : List Str, (∀ p ∈ ps, PyData.strOk p = true) → PyData.canLayAll0 (ps.map PyData.str) = true ∧ PyData.depthAll (ps.map PyData.str) = 0
  | [], _ => by simp [PyData.canLayAll0, PyData.depthAll]
  | p :: r, h => by simp [PyData.canLayAll0, PyData.canLay0, PyData.depthAll, PyData.depth, lay_strs r (fun q hq => h q (List.mem_cons_of_mem _ hq)), h p List.mem_cons_self]
theorem shaped_strs {ps : List Str} (h : ∀ p ∈ ps, PyData.strOk p = true) : SeqAt.shaped (.list (ps.map PyData.str)) = true := by
  simp [SeqAt.shaped, PyData.canLay0, PyData.depth, lay_strs ps h]
theorem shaped_two {a b : Str} (ha : PyData.strOk a = true) (hb : PyData.strOk b = true) : SeqAt.shaped (.tuple [.str a, .str b]) = true := by
  simp [SeqAt.shaped, PyData.canLay0, PyData.canLayAll0, PyData.depth, PyData.depthAll, ha, hb]
/-- a tie's ends are texts of letters alone -/
def OkT (t : Str × Str × Str) : Prop := PyData.strOk t.2.1 = true ∧ PyData.strOk t.2.2 = true
theorem eqv_strs (ps qs : List Str) : PyData.eqv (.list (ps.map PyData.str)) (.list (qs.map PyData.str)) = decide (ps = qs) := PySem.W.Datum.eqv (α := List Str) ps qs
theorem eqv_tup2 (a b : Str × Str) : PyData.eqv (.tuple [.str a.1, .str a.2]) (.tuple [.str b.1, .str b.2]) = decide (a = b) := PySem.W.Datum.eqv (α := Str × Str) a b
def tieD (t : Str × Str × Str) : Key × PyData := (.inr t.1, .tuple [.str t.2.1, .str t.2.2])
theorem dp_tup2 {K : PySem.W.Frag} {H : Hp} {a : Addr} {x y : Str} (h : H a = some (.tup [.str x, .str y])) : Dp K H (.ref a) (.tuple [.str x, .str y]) := .tup (SqT.of h) (.cons (.str x) (.cons (.str y) .nil))
theorem dkd_pairs {K : PySem.W.Frag} {H : Hp} : ∀ {kvs : List (Key × V)} {ts : List (Str × Str × Str)}, Paired (Tup2 H) kvs ts → (∀ t ∈ ts, OkT t) →
    Paired (fun (p : Key × V) (q : Key × PyData) => p.1 = q.1 ∧ Dp K H p.2 q.2 ∧ SeqAt.shaped q.2 = true) kvs (ts.map tieD)
  | _, _, .nil, _ => .nil
  | (k, v) :: kvs, (m, e) :: ts, .cons p t, h => by
    obtain ⟨e1, q, e2, hq⟩ := p
    have e2 : v = .ref q := e2
    subst e2
    have ho := h _ List.mem_cons_self
    exact .cons ⟨e1, dp_tup2 hq, shaped_two ho.1 ho.2⟩ (dkd_pairs t fun u hu => h u (List.mem_cons_of_mem _ hu))
theorem dkd_of {K : PySem.W.Frag} {H : Hp} {a : Addr} {kvs : List (Key × V)} {ts : List (Str × Str × Str)} (h : H a = some (.dK kvs)) (p : Paired (Tup2 H) kvs ts) (ho : ∀ t ∈ ts, OkT t) : DkD K H (.ref a) (ts.map tieD) := ⟨a, kvs, rfl, h, dkd_pairs p ho⟩
theorem eqKD_len {ts us : List (Str × Str × Str)} (h : ts.length ≠ us.length) : eqKD (ts.map tieD) (us.map tieD) = false := by
  unfold eqKD
  rw [List.length_map, List.length_map, show (ts.length == us.length) = false from by simp [h]]
  rfl
theorem find_tie : ∀ {us : List (Str × Str × Str)} {t : Str × Str × Str}, (us.map (·.1)).Nodup → t ∈ us → (us.map tieD).find? (fun q => decide (q.1 = (tieD t).1)) = some (tieD t)
  | u :: us, t, nd, h => by
    have nd : (u.1 :: us.map (·.1)).Nodup := nd
    rcases List.mem_cons.mp h with rfl | h
    · simp
    · have hne : ¬ (tieD u).1 = (tieD t).1 := fun e => (List.nodup_cons.mp nd).1 (List.mem_map.mpr ⟨t, h, (Sum.inr.inj e).symm⟩)
      rw [List.map_cons, List.find?_cons, decide_eq_false hne]
      exact find_tie (List.nodup_cons.mp nd).2 h
theorem eqKD_mem {ts us : List (Str × Str × Str)} (hl : ts.length = us.length) (nd : (us.map (·.1)).Nodup) (h : ∀ t, t ∈ ts → t ∈ us) : eqKD (ts.map tieD) (us.map tieD) = true := by
  unfold eqKD
  rw [List.length_map, List.length_map, hl, Bool.and_eq_true]
  refine ⟨by simp, List.all_eq_true.mpr fun q hq => ?_⟩
  obtain ⟨t, ht, rfl⟩ := List.mem_map.mp hq
  rw [find_tie nd (h t ht)]
  show PyData.eqv _ _ = true
  unfold tieD
  rw [eqv_tup2]
  simp
/-! ### values that may be instances whose fields change -/
theorem _root_.L2.TyX.fr {K : PySem.W.Frag} {H H' : Hp} {x C d : Addr} {fs fs' : List (Str × V)} {v : V} {t : Value} (h : TyX K H v t) (k : ∀ b o, b ≠ x → H b = some o → H' b = some o) (h1 : H x = some (.ins C d fs)) (h2 : H' x = some (.ins C d fs')) : TyX K H' v t := by
  have go : ∀ {b : Addr} {o : HO}, H b = some o → (∀ C d fs, o ≠ .ins C d fs) → H' b = some o := fun {b o} e n => k b o (fun q => by rw [q, h1] at e; exact n _ _ _ (Option.some.inj e).symm) e
  cases h with
  | base b =>
    cases b with
    | non => exact .base .non
    | bl x => exact .base (.bl x)
    | int i => exact .base (.int i)
    | str x => exact .base (.str x)
    | flt x => exact .base (.flt x)
    | lst e => exact .base (.lst (go e (by intros; simp)))
    | frz e => exact .base (.frz (go e (by intros; simp)))
    | tup e => exact .base (.tup (go e (by intros; simp)))
    | dK e => exact .base (.dK (go e (by intros; simp)))
    | dT e => exact .base (.dT (go e (by intros; simp)))
    | @ins a C' d' fs0 e cl ha hn htk hm =>
      by_cases q : a = x
      · subst q
        rw [h1] at e
        cases e
        exact .base (.ins h2 cl ha hn htk hm)
      · exact .base (.ins (k _ _ q e) cl ha hn htk hm)
  | byt b => exact .byt b
  | set e => exact .set (go e (by intros; simp))
  | kList e c => exact .kList e c
  | kTuple e c => exact .kTuple e c
  | kDict e c => exact .kDict e c
  | fTuple e => exact .fTuple (go e (by intros; simp))
  | fDict e => exact .fDict (go e (by intros; simp))
theorem IsS.fr {K : PySem.W.Frag} {H H' : Hp} {x C d : Addr} {fs fs' : List (Str × V)} {v : V} {o : Option Str} (h : IsS K H v o) (k : ∀ b o, b ≠ x → H b = some o → H' b = some o) (h1 : H x = some (.ins C d fs)) (h2 : H' x = some (.ins C d fs')) : IsS K H' v o := by
  cases h with
  | str z => exact .str z
  | no h e => exact .no (h.fr k h1 h2) e
theorem TVr.fr {K : PySem.W.Frag} {H H' : Hp} {x C d : Addr} {fs fs' : List (Str × V)} {v : V} {o : TV} (h : TVr K H v o) (k : ∀ b o, b ≠ x → H b = some o → H' b = some o) (h1 : H x = some (.ins C d fs)) (h2 : H' x = some (.ins C d fs')) : TVr K H' v o := by
  have go : ∀ {b : Addr} {o : HO}, H b = some o → (∀ C d fs, o ≠ .ins C d fs) → H' b = some o := fun {b o} e n => k b o (fun q => by rw [q, h1] at e; exact n _ _ _ (Option.some.inj e).symm) e
  cases h with
  | no h e => exact .no (h.fr k h1 h2) e
  | long h n => exact .long (go h (by intros; simp)) n
  | pair h hx hy => exact .pair (go h (by intros; simp)) (hx.fr k h1 h2) (hy.fr k h1 h2)
theorem TiesR.fr {K : PySem.W.Frag} {H H' : Hp} {x C d : Addr} {fs fs' : List (Str × V)} {a : Addr} {es : List (Str × TV)} (h : TiesR K H a es) (k : ∀ b o, b ≠ x → H b = some o → H' b = some o) (h1 : H x = some (.ins C d fs)) (h2 : H' x = some (.ins C d fs')) : TiesR K H' a es := by
  obtain ⟨⟨kvs, e, p⟩, nd⟩ := h
  exact ⟨⟨kvs, k _ _ (fun q => by rw [q, h1] at e; cases e) e, Paired.imp (fun a b q => ⟨q.1, q.2.fr k h1 h2⟩) p⟩, nd⟩
theorem webTies_keys (es : List (Str × TV)) : (webTies es).map (·.1) = sortS (es.map (·.1)) := by
  unfold webTies
  rw [List.map_map]
  exact (List.map_congr_left fun _ _ => rfl).trans (List.map_id _)
theorem webTies_nodup {es : List (Str × TV)} (h : (es.map (·.1)).Nodup) : ((webTies es).map (·.1)).Nodup := by
  rw [webTies_keys]
  exact nodup_sortS h
end BF
set_option Elab.async false
set_option linter.all false
set_option maxRecDepth 100000
set_option maxHeartbeats 4000000
namespace BF
open PySem PySem.Spec PyProof.Rows L2
/-! ### a tie is put -/
def putE (es : List (Str × TV)) (n : Str) (tv : TV) : List (Str × TV) := if (es.any fun e => decide (e.1 = n)) = true then es.map (fun e => if e.1 = n then (e.1, tv) else e) else es ++ [(n, tv)]
theorem tie_any {K : PySem.W.Frag} {H : Hp} {n : Str} : ∀ {kvs : List (Key × V)} {es : List (Str × TV)}, Paired (Tie K H) kvs es → (kvs.any fun kv => decide (kv.1 = Sum.inr n)) = es.any fun e => decide (e.1 = n)
  | _, _, .nil => rfl
  | (k, v) :: kvs, (m, tv) :: es, .cons p t => by
    have e : k = Sum.inr m := p.1
    subst e
    rw [List.any_cons, List.any_cons, tie_any t]
    congr 1
    exact decide_eq_decide.mpr ⟨fun h => Sum.inr.inj h, fun h => congrArg _ h⟩
theorem tie_map {K : PySem.W.Frag} {H : Hp} {n : Str} {v : V} {tv : TV} (h : TVr K H v tv) : ∀ {kvs : List (Key × V)} {es : List (Str × TV)}, Paired (Tie K H) kvs es →
    Paired (Tie K H) (kvs.map fun kv => if kv.1 = Sum.inr n then (kv.1, v) else kv) (es.map fun e => if e.1 = n then (e.1, tv) else e)
  | _, _, .nil => .nil
  | (k, u) :: kvs, (m, tu) :: es, .cons p t => by
    have e : k = Sum.inr m := p.1
    subst e
    refine .cons ?_ (tie_map h t)
    show Tie K H (if (Sum.inr m : Key) = Sum.inr n then (Sum.inr m, v) else (Sum.inr m, u)) (if m = n then (m, tv) else (m, tu))
    by_cases c : m = n
    · subst c
      rw [if_pos rfl, if_pos rfl]
      exact ⟨rfl, h⟩
    · rw [if_neg (fun q => c (Sum.inr.inj q)), if_neg c]
      exact p
theorem tie_put {K : PySem.W.Frag} {H : Hp} {n : Str} {v : V} {tv : TV} {kvs : List (Key × V)} {es : List (Str × TV)} (h : TVr K H v tv) (p : Paired (Tie K H) kvs es) : Paired (Tie K H) (putK kvs (.inr n) v) (putE es n tv) := by
  unfold putK putE
  rw [tie_any p]
  split
  · exact tie_map h p
  · exact Paired.snoc ⟨rfl, h⟩ p
theorem putE_keys (es : List (Str × TV)) (n : Str) (tv : TV) : (putE es n tv).map (·.1) = if n ∈ es.map (·.1) then es.map (·.1) else es.map (·.1) ++ [n] := by
  have e : (es.any fun e => decide (e.1 = n)) = decide (n ∈ es.map (·.1)) := by
    rw [Bool.eq_iff_iff, List.any_eq_true, decide_eq_true_eq, List.mem_map]
    constructor
    · rintro ⟨x, h, q⟩
      exact ⟨x, h, of_decide_eq_true q⟩
    · rintro ⟨x, h, q⟩
      exact ⟨x, h, decide_eq_true q⟩
  unfold putE
  rw [e]
  by_cases h : n ∈ es.map (·.1)
  · rw [decide_eq_true h, if_pos rfl, if_pos h, List.map_map]
    refine List.map_congr_left fun x _ => ?_
    show (if x.1 = n then (x.1, tv) else x).1 = x.1
    split <;> rfl
  · rw [decide_eq_false h, if_neg (by decide), if_neg h, List.map_append]
    rfl
theorem putE_nodup {es : List (Str × TV)} {n : Str} {tv : TV} (h : (es.map (·.1)).Nodup) : ((putE es n tv).map (·.1)).Nodup := by
  rw [putE_keys]
  split
  · exact h
  · rename_i q
    rw [List.nodup_append]
    refine ⟨h, by simp, fun a ha b hb e => ?_⟩
    rw [List.mem_singleton.mp hb] at e
    exact q (e ▸ ha)
theorem putE_len (es : List (Str × TV)) (n : Str) (tv : TV) : (putE es n tv).length ≤ es.length + 1 := by
  unfold putE
  split
  · rw [List.length_map]
    omega
  · rw [List.length_append]
    exact Nat.le_refl _
theorem putE_mem {es : List (Str × TV)} {n : Str} {tv : TV} {e : Str × TV} (h : e ∈ putE es n tv) : e ∈ es ∨ e = (n, tv) := by
  unfold putE at h
  split at h
  · obtain ⟨x, hx, q⟩ := List.mem_map.mp h
    split at q
    · rename_i c
      right
      rw [← q, c]
    · left
      rw [← q]
      exact hx
  · rcases List.mem_append.mp h with h | h
    · exact .inl h
    · exact .inr (List.mem_singleton.mp h)
theorem TiesR.put {K : PySem.W.Frag} {H H' : Hp} {d : Addr} {es : List (Str × TV)} {kvs : List (Key × V)} {n : Str} {v : V} {tv : TV} (p : Paired (Tie K H) kvs es) (nd : (es.map (·.1)).Nodup) (h : TVr K H v tv) (s : ∀ x t, TVr K H x t → TVr K H' x t)
    (hd : H' d = some (.dK (putK kvs (.inr n) v))) : TiesR K H' d (putE es n tv) := ⟨⟨_, hd, Paired.imp (fun _ _ q => ⟨q.1, s _ _ q.2⟩) (tie_put h p)⟩, putE_nodup nd⟩
/-! ### a dict changes: what values are stays -/
theorem _root_.L2.TyX.dk {K : PySem.W.Frag} {H : Hp} {d : Addr} {kvs kvs' : List (Key × V)} {v : V} {t : Value} (h : TyX K H v t) (h1 : H d = some (.dK kvs)) : TyX K (upd H d (.dK kvs')) v t := by
  have go : ∀ {b : Addr} {o : HO}, H b = some o → (∀ k, o ≠ .dK k) → upd H d (.dK kvs') b = some o := fun {b o} e n => by
    rw [upd_ne (fun q => by rw [q, h1] at e; exact n _ (Option.some.inj e).symm)]
    exact e
  cases h with
  | base b =>
    cases b with
    | non => exact .base .non
    | bl x => exact .base (.bl x)
    | int i => exact .base (.int i)
    | str x => exact .base (.str x)
    | flt x => exact .base (.flt x)
    | lst e => exact .base (.lst (go e (by intros; simp)))
    | frz e => exact .base (.frz (go e (by intros; simp)))
    | tup e => exact .base (.tup (go e (by intros; simp)))
    | @dK a kv e =>
      by_cases q : a = d
      · subst q
        exact .base (.dK upd_same)
      · exact .base (.dK (by rw [upd_ne q]; exact e))
    | dT e => exact .base (.dT (go e (by intros; simp)))
    | ins e cl ha hn htk hm => exact .base (.ins (go e (by intros; simp)) cl ha hn htk hm)
  | byt b => exact .byt b
  | set e => exact .set (go e (by intros; simp))
  | kList e c => exact .kList e c
  | kTuple e c => exact .kTuple e c
  | kDict e c => exact .kDict e c
  | fTuple e => exact .fTuple (go e (by intros; simp))
  | fDict e => exact .fDict (go e (by intros; simp))
theorem TVr.dk {K : PySem.W.Frag} {H : Hp} {d : Addr} {kvs kvs' : List (Key × V)} {v : V} {o : TV} (h : TVr K H v o) (h1 : H d = some (.dK kvs)) : TVr K (upd H d (.dK kvs')) v o := by
  have go : ∀ {b : Addr} {xs : List V}, H b = some (.tup xs) → upd H d (.dK kvs') b = some (.tup xs) := fun {b xs} e => by
    rw [upd_ne (fun q => by rw [q, h1] at e; cases e)]
    exact e
  have si : ∀ {v : V} {o : Option Str}, IsS K H v o → IsS K (upd H d (.dK kvs')) v o := fun {v o} q => by
    cases q with
    | str z => exact .str z
    | no h e => exact .no (h.dk h1) e
  cases h with
  | no h e => exact .no (h.dk h1) e
  | long h n => exact .long (go h) n
  | pair h hx hy => exact .pair (go h) (si hx) (si hy)
end BF
set_option Elab.async false
set_option linter.all false
set_option maxRecDepth 100000
set_option maxHeartbeats 4000000
namespace BF
open PySem PySem.Spec PyProof.Rows L2
/-! ### readings that lay new things alone -/
/-- te lays new things and yields a value with P -/
def EvN (te : TE) (σ : L2.St) (H0 : Hp) (P : V → Hp → Prop) : Prop := ∀ H, Same H0 H → ∀ Q : VK, (∀ v H', Same H H' → P v H' → Q v H') → te σ H Q
def EvNs (ta : TA) (σ : L2.St) (H0 : Hp) (n : Nat) (P : V → Hp → Prop) : Prop := ∀ H, Same H0 H → ∀ Q : List V → Hp → Prop, (∀ vs H', Same H H' → vs.length = n → (∀ v ∈ vs, P v H') → Q vs H') → ta σ H Q
theorem evs_nil {σ : L2.St} {H0 : Hp} {P : V → Hp → Prop} : EvNs tNil σ H0 0 P := fun H _ _ k => k [] H (Same.refl H) rfl (fun _ h => by cases h)
theorem evs_cons {σ : L2.St} {H0 : Hp} {P : V → Hp → Prop} {te : TE} {ta : TA} {n : Nat} (st : ∀ v H H', Same H H' → P v H → P v H') (h : EvN te σ H0 P) (hs : EvNs ta σ H0 n P) : EvNs (tCons te ta) σ H0 (n + 1) P := fun H s Q k =>
  h H s _ fun v H1 s1 p => hs H1 (s.trans s1) _ fun vs H2 s2 hl ps => k (v :: vs) H2 (s1.trans s2) (by rw [List.length_cons, hl]) fun u hu => by
    rcases List.mem_cons.mp hu with rfl | hu
    · exact st _ _ _ s2 p
    · exact ps u hu
theorem ev_lst {σ : L2.St} {H0 : Hp} {P : V → Hp → Prop} {ta : TA} {n : Nat} (st : ∀ v H H', Same H H' → P v H → P v H') (hs : EvNs ta σ H0 n P) (hn : n ≤ 1000) : EvN (tLst ta) σ H0 (fun v H => ∃ l vs, v = .ref l ∧ H l = some (.lst vs) ∧ vs.length = n ∧ ∀ u ∈ vs, P u H) := fun H s Q k =>
  hs H s _ fun vs H1 s1 hl ps => ⟨by rw [sizeLine_eq, hl]; omega, fun l nl => k _ _ (s1.trans (Same.new nl)) ⟨l, vs, rfl, upd_same, hl, fun u hu => st _ _ _ (Same.new nl) (ps u hu)⟩⟩
/-- a value of the kinds that ties are spoiled with -/
def Tv (K : PySem.W.Frag) (v : V) (H : Hp) : Prop := ∃ tv, TVr K H v tv
theorem Tv.st {K : PySem.W.Frag} : ∀ v H H', Same H H' → Tv K v H → Tv K v H' := fun _ _ _ s ⟨tv, h⟩ => ⟨tv, h.same s⟩
section
variable {K : PySem.W.Frag} {σ : L2.St} {H0 : Hp} {i : Nat} {p : Str}
theorem tv_var (h : σ[i]? = some (some (.str p))) : EvN (tVar i) σ H0 (Tv K) := fun H s Q k => ⟨_, h, k _ _ (Same.refl H) ⟨_, .no (.base (.str p)) (kit_ty (by decide +kernel))⟩⟩
theorem tv_non : EvN (tC .non) σ H0 (Tv K) := fun H s Q k => k _ _ (Same.refl H) ⟨_, .no (.base .non) (kit_ty (by decide +kernel))⟩
theorem tv_int {n : Int} : EvN (tC (.int n)) σ H0 (Tv K) := fun H s Q k => k _ _ (Same.refl H) ⟨_, .no (.base (.int n)) (kit_ty (by decide +kernel))⟩
theorem tv_bl {b : Bool} : EvN (tC (.bl b)) σ H0 (Tv K) := fun H s Q k => k _ _ (Same.refl H) ⟨_, .no (.base (.bl b)) (kit_ty (by decide +kernel))⟩
theorem tv_dict : EvN tDNewK σ H0 (Tv K) := fun H s Q k => fun d nd => k _ _ (Same.new nd) ⟨_, .no (.base (.dK upd_same)) (kit_ty (by decide +kernel))⟩
theorem tv_one (h : σ[i]? = some (some (.str p))) : EvN (tTup (tCons (tVar i) tNil)) σ H0 (Tv K) := fun H s Q k => ⟨_, h, (by show 1 ≤ sizeLine; rw [sizeLine_eq]; omega), fun t nt => k _ _ (Same.new nt) ⟨_, .long upd_same (by show 1 ≠ 2; decide)⟩⟩
theorem tv_three (h : σ[i]? = some (some (.str p))) : EvN (tTup (tCons (tVar i) (tCons (tVar i) (tCons (tVar i) tNil)))) σ H0 (Tv K) := fun H s Q k =>
  ⟨_, h, _, h, _, h, (by show 3 ≤ sizeLine; rw [sizeLine_eq]; omega), fun t nt => k _ _ (Same.new nt) ⟨_, .long upd_same (by show 3 ≠ 2; decide)⟩⟩
theorem tv_list (h : σ[i]? = some (some (.str p))) : EvN (tLst (tCons (tVar i) (tCons (tVar i) tNil))) σ H0 (Tv K) := fun H s Q k =>
  ⟨_, h, _, h, (by show 2 ≤ sizeLine; rw [sizeLine_eq]; omega), fun t nt => k _ _ (Same.new nt) ⟨_, .no (.base (.lst upd_same)) (kit_ty (by decide +kernel))⟩⟩
theorem tv_vc {z : Str} (h : σ[i]? = some (some (.str p))) : EvN (tTup (tCons (tVar i) (tCons (tC (.str z)) tNil))) σ H0 (Tv K) := fun H s Q k =>
  ⟨_, h, (by show 2 ≤ sizeLine; rw [sizeLine_eq]; omega), fun t nt => k _ _ (Same.new nt) ⟨_, .pair upd_same (.str _) (.str _)⟩⟩
theorem tv_cv {z : Str} (h : σ[i]? = some (some (.str p))) : EvN (tTup (tCons (tC (.str z)) (tCons (tVar i) tNil))) σ H0 (Tv K) := fun H s Q k =>
  ⟨_, h, (by show 2 ≤ sizeLine; rw [sizeLine_eq]; omega), fun t nt => k _ _ (Same.new nt) ⟨_, .pair upd_same (.str _) (.str _)⟩⟩
theorem tv_vn (h : σ[i]? = some (some (.str p))) : EvN (tTup (tCons (tVar i) (tCons (tC .non) tNil))) σ H0 (Tv K) := fun H s Q k =>
  ⟨_, h, (by show 2 ≤ sizeLine; rw [sizeLine_eq]; omega), fun t nt => k _ _ (Same.new nt) ⟨_, .pair upd_same (.str _) (.no (.base .non) (kit_ty (by decide +kernel)))⟩⟩
theorem tv_iv {n : Int} (h : σ[i]? = some (some (.str p))) : EvN (tTup (tCons (tC (.int n)) (tCons (tVar i) tNil))) σ H0 (Tv K) := fun H s Q k =>
  ⟨_, h, (by show 2 ≤ sizeLine; rw [sizeLine_eq]; omega), fun t nt => k _ _ (Same.new nt) ⟨_, .pair upd_same (.no (.base (.int n)) (kit_ty (by decide +kernel))) (.str _)⟩⟩
theorem tv_lv (h : σ[i]? = some (some (.str p))) : EvN (tTup (tCons (tLst (tCons (tVar i) tNil)) (tCons (tVar i) tNil))) σ H0 (Tv K) := fun H s Q k =>
  ⟨_, h, (by show 1 ≤ sizeLine; rw [sizeLine_eq]; omega), fun l nl => ⟨_, h, (by show 2 ≤ sizeLine; rw [sizeLine_eq]; omega), fun t nt => k _ _ ((Same.new nl).trans (Same.new nt))
    ⟨_, .pair upd_same (.no (.base (.lst (Same.new nt _ _ upd_same))) (kit_ty (by decide +kernel))) (.str _)⟩⟩⟩
theorem tv_vv {j : Nat} {q : Str} (h : σ[i]? = some (some (.str p))) (h2 : σ[j]? = some (some (.str q))) : EvN (tTup (tCons (tVar i) (tCons (tVar j) tNil))) σ H0 (Tv K) := fun H s Q k =>
  ⟨_, h, _, h2, (by show 2 ≤ sizeLine; rw [sizeLine_eq]; omega), fun t nt => k _ _ (Same.new nt) ⟨_, .pair upd_same (.str _) (.str _)⟩⟩
end
/-! ### one statement ahead -/
theorem seq_asg {te : TE} {g : TG} {b : TS} {D : Ends} {σ : L2.St} {H : Hp} (h : te σ H fun x H1 => g x σ H1 (b D)) : tSeq (tAsg te g) b D σ H := h
theorem seq_put {td ty tv : TE} {b : TS} {D : Ends} {σ : L2.St} {H : Hp} (h : tv σ H fun v H1 => td σ H1 fun x H2 => ty σ H2 fun y H3 => ∃ a H4, x = V.ref a ∧ DPut H3 a y v H4 ∧ b D σ H4) : tSeq (sDPut td ty tv) b D σ H := h
theorem g_name {i : Nat} {v : V} {σ : L2.St} {H : Hp} {k : L2.St → Hp → Prop} (h : k (σ.set i (some v)) H) : gName i v σ H k := h
end BF
set_option Elab.async false
set_option linter.all false
set_option maxRecDepth 100000
set_option maxHeartbeats 4000000
namespace BF
open PySem PySem.Spec PyProof.Rows L2
/-! ### ties whose values are pairs of texts -/
abbrev Tr := Str × Str × Str
def rawE (r : Tr) : Str × TV := (r.1, .ends r.2.1 r.2.2)
theorem raw_keys (rs : List Tr) : (rs.map rawE).map (·.1) = rs.map (·.1) := by
  rw [List.map_map]
  exact List.map_congr_left fun _ _ => rfl
theorem raw_of {ps : List Str} : ∀ {es : List (Str × TV)}, (∀ e ∈ es, ∃ a b, e.2 = .ends a b ∧ a ∈ ps ∧ b ∈ ps) → ∃ rs : List Tr, es = rs.map rawE ∧ ∀ r ∈ rs, r.2.1 ∈ ps ∧ r.2.2 ∈ ps
  | [], _ => ⟨[], rfl, fun _ h => by cases h⟩
  | (n, tv) :: es, h => by
    obtain ⟨a, b, e, ha, hb⟩ := h _ List.mem_cons_self
    obtain ⟨rs, e2, h2⟩ := raw_of (es := es) (fun x hx => h x (List.mem_cons_of_mem _ hx))
    have e : tv = .ends a b := e
    refine ⟨(n, a, b) :: rs, by rw [e2, e]; rfl, fun r hr => ?_⟩
    rcases List.mem_cons.mp hr with rfl | hr
    · exact ⟨ha, hb⟩
    · exact h2 r hr
theorem tie_raw {K : PySem.W.Frag} {H : Hp} : ∀ {kvs : List (Key × V)} {rs : List Tr}, Paired (Tie K H) kvs (rs.map rawE) → Paired (Tup2 H) kvs rs
  | [], [], _ => .nil
  | (k, v) :: kvs, r :: rs, .cons p t => by
    obtain ⟨q, e, h⟩ := TVr.get (a := r.2.1) (b := r.2.2) p.2
    exact .cons ⟨p.1, q, e, h⟩ (tie_raw t)
theorem raw_tie {K : PySem.W.Frag} {H : Hp} : ∀ {kvs : List (Key × V)} {rs : List Tr}, Paired (Tup2 H) kvs rs → Paired (Tie K H) kvs (rs.map rawE)
  | _, _, .nil => .nil
  | (k, v) :: kvs, r :: rs, .cons p t => by
    obtain ⟨e, q, e2, h⟩ := p
    have e2 : v = .ref q := e2
    subst e2
    exact .cons ⟨e, TVr.ends h⟩ (raw_tie t)
theorem ties_raw {K : PySem.W.Frag} {H : Hp} {d : Addr} {kvs : List (Key × V)} {rs : List Tr} (h : H d = some (.dK kvs)) (p : Paired (Tup2 H) kvs rs) (nd : (rs.map (·.1)).Nodup) : TiesR K H d (rs.map rawE) := ⟨⟨kvs, h, raw_tie p⟩, by rw [raw_keys]; exact nd⟩
theorem lk_raw : ∀ {rs : List Tr} {r : Tr}, (rs.map (·.1)).Nodup → r ∈ rs → lkE (rs.map rawE) r.1 = some (.ends r.2.1 r.2.2)
  | u :: us, r, nd, h => by
    have nd : (u.1 :: us.map (·.1)).Nodup := nd
    unfold lkE
    rcases List.mem_cons.mp h with rfl | h
    · simp [rawE]
    · have hne : ¬ u.1 = r.1 := fun e => (List.nodup_cons.mp nd).1 (List.mem_map.mpr ⟨r, h, e.symm⟩)
      have ih := lk_raw (List.nodup_cons.mp nd).2 h
      unfold lkE at ih
      rw [List.map_cons, List.find?_cons, show decide ((rawE u).1 = r.1) = false from decide_eq_false hne]
      exact ih
theorem ends_raw {rs : List Tr} {r : Tr} (nd : (rs.map (·.1)).Nodup) (h : r ∈ rs) : endsOf (rs.map rawE) r.1 = srt2 r.2.1 r.2.2 := endsOf_eq (lk_raw nd h)
theorem srt2_swap (a b : Str) : srt2 a b = srt2 b a := by
  unfold srt2
  by_cases h : leS a b = true
  · rw [if_pos h]
    by_cases h2 : leS b a = true
    · rw [if_pos h2, leS_anti a b h h2]
    · rw [if_neg h2]
  · rw [if_neg h]
    have := leS_total a b
    rw [Bool.or_eq_true] at this
    rw [if_pos (this.resolve_left h)]
theorem due_ok {ps : List Str} {rs : List Tr} (h1 : 1 ≤ ps.length) (h16 : ps.length ≤ 16) (hn : ∀ p ∈ ps, isNm p = true) (nd : ps.Nodup) (hk : ∀ r ∈ rs, isNm r.1 = true ∧ r.2.1 ∈ ps ∧ r.2.2 ∈ ps) (ndk : (rs.map (·.1)).Nodup) (hl : rs.length ≤ 24) : dueOf ps (rs.map rawE) = none := by
  have e1 : plF ps = none := by
    unfold plF
    rw [if_pos ⟨h1, h16⟩, fw_none (fun k hk => ?_)]
    · rfl
    · unfold okAt
      rw [List.getElem?_eq_getElem hk]
      simp only [hn _ (List.getElem_mem hk), Bool.true_and, Bool.not_eq_true', decide_eq_false_iff_not]
      intro hm
      obtain ⟨j, hj, e⟩ := List.mem_iff_getElem.mp hm
      rw [List.length_take] at hj
      rw [List.getElem_take] at e
      have := (List.getElem_inj nd).mp e
      omega
  have e2 : tiF ps (rs.map rawE) = none := by
    unfold tiF
    rw [List.find?_eq_none]
    intro n hm
    rw [mem_sortS, raw_keys] at hm
    obtain ⟨r, hr, rfl⟩ := List.mem_map.mp hm
    rw [goodE_of (lk_raw ndk hr)]
    obtain ⟨q1, q2, q3⟩ := hk r hr
    simp [goodT, q1, q2, q3]
  unfold dueOf
  rw [e1, e2]
  simp only [List.length_map, if_neg (show ¬ 24 < rs.length by omega)]
def endR (rs : List Tr) (n : Str) : Str × Str := match rs.find? fun r => decide (r.1 = n) with
  | some r => r.2
  | none => (n, n)
theorem endR_mem : ∀ {rs : List Tr} {n : Str}, n ∈ rs.map (·.1) → (n, endR rs n) ∈ rs
  | u :: us, n, h => by
    unfold endR
    rw [List.find?_cons]
    by_cases e : u.1 = n
    · subst e
      simp
    · rw [decide_eq_false e]
      have h : n = u.1 ∨ n ∈ us.map (·.1) := List.mem_cons.mp h
      have ih := endR_mem (rs := us) (h.resolve_left fun q => e q.symm)
      unfold endR at ih
      exact List.mem_cons_of_mem _ ih
theorem webTies_rev {rs : List Tr} {ns : List Str} (nd : (rs.map (·.1)).Nodup) (pm : ns.Perm (rs.map (·.1))) : webTies ((ns.map fun n => (n, (endR rs n).2, (endR rs n).1)).map rawE) = webTies (rs.map rawE) := by
  have hk : (ns.map fun n => ((n, (endR rs n).2, (endR rs n).1) : Tr)).map (·.1) = ns := by
    rw [List.map_map]
    exact (List.map_congr_left fun _ _ => rfl).trans (List.map_id _)
  have hnd : ((ns.map fun n => ((n, (endR rs n).2, (endR rs n).1) : Tr)).map (·.1)).Nodup := by
    rw [hk]
    exact pm.nodup_iff.mpr nd
  unfold webTies
  rw [raw_keys, raw_keys, hk, sortS_of_perm pm]
  refine List.map_congr_left fun n hn => ?_
  have hn : n ∈ rs.map (·.1) := (mem_sortS _ _).mp hn
  have h1 := ends_raw nd (endR_mem hn)
  have h2 := ends_raw hnd (List.mem_map.mpr ⟨n, pm.mem_iff.mpr hn, rfl⟩)
  have h1 : endsOf (rs.map rawE) n = srt2 (endR rs n).1 (endR rs n).2 := h1
  have h2 : endsOf ((ns.map fun n => ((n, (endR rs n).2, (endR rs n).1) : Tr)).map rawE) n = srt2 (endR rs n).2 (endR rs n).1 := h2
  rw [h1, h2, srt2_swap]
theorem webTies_mem {rs : List Tr} (nd : (rs.map (·.1)).Nodup) {t : Tr} (h : t ∈ webTies (rs.map rawE)) : ∃ r ∈ rs, t = (r.1, srt2 r.2.1 r.2.2) := by
  unfold webTies at h
  obtain ⟨n, hn, rfl⟩ := List.mem_map.mp h
  rw [mem_sortS, raw_keys] at hn
  obtain ⟨r, hr, rfl⟩ := List.mem_map.mp hn
  exact ⟨r, hr, by rw [ends_raw nd hr]⟩
theorem webTies_len (rs : List Tr) : (webTies (rs.map rawE)).length = rs.length := by
  unfold webTies
  rw [List.length_map, sortS_length, List.length_map, List.length_map]
theorem mem_webTies {rs : List Tr} (nd : (rs.map (·.1)).Nodup) {r : Tr} (h : r ∈ rs) : (r.1, srt2 r.2.1 r.2.2) ∈ webTies (rs.map rawE) := by
  unfold webTies
  refine List.mem_map.mpr ⟨r.1, (mem_sortS _ _).mpr (by rw [raw_keys]; exact List.mem_map.mpr ⟨r, h, rfl⟩), ?_⟩
  rw [ends_raw nd h]
/-! ### dict(list of pairs) -/
abbrev PT (H : Hp) : Addr → Tr → Prop := fun q e => ∃ t, H q = some (.tup [.str e.1, .ref t]) ∧ H t = some (.tup [.str e.2.1, .str e.2.2])
theorem pt_same {H H' : Hp} (s : Same H H') {qs : List Addr} {ts : List Tr} (h : Paired (PT H) qs ts) : Paired (PT H') qs ts := Paired.imp (fun _ _ ⟨t, a, b⟩ => ⟨t, s _ _ a, s _ _ b⟩) h
theorem pt_kvs {K : PySem.W.Frag} {H : Hp} : ∀ {qs : List Addr} {ts : List Tr}, Paired (PT H) qs ts → ∃ kvs : List (Key × V), Paired (fun p kv => SqT K H p [kV kv.1, kv.2]) qs kvs ∧ Paired (Tup2 H) kvs ts
  | _, _, .nil => ⟨[], .nil, .nil⟩
  | q :: qs, e :: ts, .cons p h => by
    obtain ⟨kvs, h1, h2⟩ := pt_kvs (K := K) h
    obtain ⟨t, a, b⟩ := p
    exact ⟨(.inr e.1, .ref t) :: kvs, .cons (SqT.of a) h1, .cons ⟨rfl, t, rfl, b⟩ h2⟩
theorem mergeK_app : ∀ (kvs acc : List (Key × V)), ((acc ++ kvs).map (·.1)).Nodup → mergeK acc kvs = acc ++ kvs
  | [], acc, _ => by rw [List.append_nil]; rfl
  | kv :: kvs, acc, nd => by
    have hv : valV acc kv.1 = none := valV_none (fun h => by
      rw [List.map_append, List.nodup_append] at nd
      exact nd.2.2 _ h kv.1 List.mem_cons_self rfl)
    have ih := mergeK_app kvs (acc ++ [kv]) (by rw [List.append_assoc]; exact nd)
    show mergeK (putK acc kv.1 kv.2) kvs = _
    rw [putK_new _ hv, ih, List.append_assoc]
    rfl
theorem mergeK_nd {H : Hp} {kvs : List (Key × V)} {ts : List Tr} (h : Paired (Tup2 H) kvs ts) (nd : (ts.map (·.1)).Nodup) : mergeK [] kvs = kvs := by
  refine mergeK_app kvs [] ?_
  rw [List.nil_append, keys2 h]
  exact nodup_inr nd
  where nodup_inr {l : List Str} (h : l.Nodup) : (l.map (Sum.inr : Str → Key)).Nodup := List.Pairwise.map _ (fun a b hne e => hne (Sum.inr.inj e)) h
/-- a lock is taken off -/
theorem lock_same {H H' : Hp} {d : Addr} {od : Obj} {u : HO} (hd : H d = some u) (s : Same (upd H d (.frz od u)) H') : Same H (upd H' d u) := fun b o e => by
  by_cases q : b = d
  · subst q
    rw [upd_same, ← e, hd]
  · rw [upd_ne q]
    exact s _ _ (by rw [upd_ne q]; exact e)
theorem at2 {H : Hp} : ∀ {kvs : List (Key × V)} {rs : List Tr} {i : Nat} {kv : Key × V}, Paired (Tup2 H) kvs rs → kvs[i]? = some kv → ∃ r, rs[i]? = some r ∧ Tup2 H kv r
  | _, _, 0, kv, .cons p t, h => by
    cases Option.some.inj h
    exact ⟨_, rfl, p⟩
  | _, _, i + 1, kv, .cons p t, h => at2 (i := i) t h
theorem get2' {H : Hp} {kvs : List (Key × V)} {rs : List Tr} {r : Tr} (h : Paired (Tup2 H) kvs rs) (nd : (rs.map (·.1)).Nodup) (hr : r ∈ rs) : ∃ t, valV kvs (.inr r.1) = some (.ref t) ∧ H t = some (.tup [.str r.2.1, .str r.2.2]) := get2 (n := r.1) (e := r.2) h nd hr
def strOf : V → Str
  | .str z => z
  | _ => ""
theorem perm_strs {ys : List V} {ps : List Str} (h : ys.Perm (ps.map V.str)) : ∃ qs : List Str, ys = qs.map V.str ∧ qs.Perm ps := by
  refine ⟨ys.map strOf, ?_, ?_⟩
  · rw [List.map_map]
    refine ((List.map_congr_left fun y hy => ?_).trans (List.map_id ys)).symm
    obtain ⟨z, _, rfl⟩ := List.mem_map.mp (h.mem_iff.mp hy)
    rfl
  · have e := h.map strOf
    rw [List.map_map] at e
    rw [show (strOf ∘ V.str) = id from rfl, List.map_id] at e
    exact e
theorem keysV {H : Hp} {kvs : List (Key × V)} {rs : List Tr} (h : Paired (Tup2 H) kvs rs) : (kvs.map fun kv => kV kv.1) = (rs.map (·.1)).map V.str := by
  have e := congrArg (List.map kV) (keys2 h)
  rw [List.map_map, List.map_map] at e
  rw [show (fun kv : Key × V => kV kv.1) = kV ∘ (fun x => x.1) from rfl, e]
  rfl
theorem key_uniq {n : Str} {e f : Str × Str} : ∀ {ts : List Tr}, (ts.map (·.1)).Nodup → (n, e) ∈ ts → (n, f) ∈ ts → e = f
  | u :: us, nd, h1, h2 => by
    have nd : (u.1 :: us.map (·.1)).Nodup := nd
    have no : ∀ g, (n, g) ∈ us → u.1 ≠ n := fun g hg q => (List.nodup_cons.mp nd).1 (List.mem_map.mpr ⟨_, hg, q.symm⟩)
    rcases List.mem_cons.mp h1 with q1 | q1
    · rcases List.mem_cons.mp h2 with q2 | q2
      · exact (Prod.mk.inj (q1.trans q2.symm)).2
      · exact absurd (congrArg (·.1) q1).symm (no _ q2)
    · rcases List.mem_cons.mp h2 with q2 | q2
      · exact absurd (congrArg (·.1) q2).symm (no _ q1)
      · exact key_uniq (List.nodup_cons.mp nd).2 q1 q2
theorem replicate_snoc (i : Nat) : (List.replicate (i + 1) true).map V.bl = (List.replicate i true).map V.bl ++ [V.bl true] := by
  rw [List.replicate_succ', List.map_append]
  rfl
theorem all_replicate (n : Nat) : (List.replicate n true).all id = true := by
  rw [List.all_eq_true]
  intro x hx
  rw [(List.mem_replicate.mp hx).2]
  rfl
theorem replicate_snocF (i : Nat) : (List.replicate (i + 1) false).map V.bl = (List.replicate i false).map V.bl ++ [V.bl false] := by
  rw [List.replicate_succ', List.map_append]
  rfl
theorem any_replicate (n : Nat) : (List.replicate n false).any id = false := by
  rw [List.any_eq_false]
  intro x hx
  rw [(List.mem_replicate.mp hx).2]
  simp
theorem take_filter {p : Tr → Bool} {l : List Tr} {i : Nat} {r : Tr} (h : l[i]? = some r) : (l.take (i + 1)).filter p = (l.take i).filter p ++ if p r = true then [r] else [] := by
  rw [List.take_succ, h, List.filter_append]
  congr 1
  by_cases e : p r = true
  · simp [e]
  · simp [e]
end BF
set_option Elab.async false
set_option linter.all false
set_option maxRecDepth 100000
set_option maxHeartbeats 4000000
namespace BF
open PySem PySem.Spec PyProof.Rows L2
open C8 (Cal CalAt Met Mak cal0 met0 mak0 fn0 pe_c pe_mk pe_mt pe_mt0 pe_gc fnScope fnBody fnArgs fnScope_by)
open SX
def topS (i : Nat) : Stmt := PySem.Challenge.pw_bothfree_k08_webs_told_and_refused.main.body.getD i (.Pass ⟨0, 0, 0, 0⟩)
abbrev s_NoThing__init : Stmt := inClass (topS 2) 0
abbrev N_NoThing__init : List Str := ["self", "thing"]
theorem sc_NoThing__init : FnScope N_NoThing__init ["self", "thing"] (fnScope s_NoThing__init) := fnScope_by (by decide +kernel)
abbrev s_TooMany__init : Stmt := inClass (topS 3) 0
abbrev N_TooMany__init : List Str := ["self", "limit"]
theorem sc_TooMany__init : FnScope N_TooMany__init ["self", "limit"] (fnScope s_TooMany__init) := fnScope_by (by decide +kernel)
abbrev s_BadPlaces__init : Stmt := inClass (topS 4) 0
abbrev N_BadPlaces__init : List Str := ["self", "index"]
theorem sc_BadPlaces__init : FnScope N_BadPlaces__init ["self", "index"] (fnScope s_BadPlaces__init) := fnScope_by (by decide +kernel)
abbrev s_BadTies__init : Stmt := inClass (topS 5) 0
abbrev N_BadTies__init : List Str := ["self", "name"]
theorem sc_BadTies__init : FnScope N_BadTies__init ["self", "name"] (fnScope s_BadTies__init) := fnScope_by (by decide +kernel)
abbrev s_is_name : Stmt := topS 8
abbrev N_is_name : List Str := ["value", "letter"]
theorem sc_is_name : FnScope N_is_name ["value"] (fnScope s_is_name) := fnScope_by (by decide +kernel)
abbrev s_first_wrong : Stmt := topS 9
abbrev N_first_wrong : List Str := ["entries", "fits", "seen", "at", "entry"]
theorem sc_first_wrong : FnScope N_first_wrong ["entries", "fits"] (fnScope s_first_wrong) := fnScope_by (by decide +kernel)
abbrev s_sorted_places : Stmt := topS 10
abbrev N_sorted_places : List Str := ["places", "most", "wrong"]
theorem sc_sorted_places : FnScope N_sorted_places ["places", "most"] (fnScope s_sorted_places) := fnScope_by (by decide +kernel)
abbrev s_Web__init : Stmt := inClass (topS 14) 0
abbrev N_Web__init : List Str := ["self", "places", "ties"]
theorem sc_Web__init : FnScope N_Web__init ["self", "places", "ties"] (fnScope s_Web__init) := fnScope_by (by decide +kernel)
abbrev s_Web_places : Stmt := inClass (topS 14) 1
abbrev N_Web_places : List Str := ["self"]
theorem sc_Web_places : FnScope N_Web_places ["self"] (fnScope s_Web_places) := fnScope_by (by decide +kernel)
abbrev s_Web_ties : Stmt := inClass (topS 14) 2
abbrev N_Web_ties : List Str := ["self"]
theorem sc_Web_ties : FnScope N_Web_ties ["self"] (fnScope s_Web_ties) := fnScope_by (by decide +kernel)
abbrev s_Web_ends : Stmt := inClass (topS 14) 3
abbrev N_Web_ends : List Str := ["self", "tie"]
theorem sc_Web_ends : FnScope N_Web_ends ["self", "tie"] (fnScope s_Web_ends) := fnScope_by (by decide +kernel)
abbrev s_Web__eq : Stmt := inClass (topS 14) 4
abbrev N_Web__eq : List Str := ["self", "other"]
theorem sc_Web__eq : FnScope N_Web__eq ["self", "other"] (fnScope s_Web__eq) := fnScope_by (by decide +kernel)
abbrev s_checked_ties : Stmt := topS 15
abbrev N_checked_ties : List Str := ["ties", "places", "checked", "tie", "one", "other"]
theorem sc_checked_ties : FnScope N_checked_ties ["ties", "places"] (fnScope s_checked_ties) := fnScope_by (by decide +kernel)
abbrev s_are_ends : Stmt := topS 16
abbrev N_are_ends : List Str := ["value", "places", "end"]
theorem sc_are_ends : FnScope N_are_ends ["value", "places"] (fnScope s_are_ends) := fnScope_by (by decide +kernel)
abbrev s_law_source : Stmt := topS 18
abbrev N_law_source : List Str := ["cell", "number"]
theorem sc_law_source : FnScope N_law_source ["cell"] (fnScope s_law_source) := fnScope_by (by decide +kernel)
abbrev s_law_draw : Stmt := topS 19
abbrev N_law_draw : List Str := ["well", "many", "found", "number"]
theorem sc_law_draw : FnScope N_law_draw ["well", "many"] (fnScope s_law_draw) := fnScope_by (by decide +kernel)
abbrev s_law_pick : Stmt := topS 20
abbrev N_law_pick : List Str := ["well", "some"]
theorem sc_law_pick : FnScope N_law_pick ["well", "some"] (fnScope s_law_pick) := fnScope_by (by decide +kernel)
abbrev s_law_names : Stmt := topS 21
abbrev N_law_names : List Str := ["well", "many", "letters", "found", "k", "word", "letter", "j"]
theorem sc_law_names : FnScope N_law_names ["well", "many"] (fnScope s_law_names) := fnScope_by (by decide +kernel)
abbrev s_law_shuffled : Stmt := topS 22
abbrev N_law_shuffled : List Str := ["well", "some", "rest", "found", "k"]
theorem sc_law_shuffled : FnScope N_law_shuffled ["well", "some"] (fnScope s_law_shuffled) := fnScope_by (by decide +kernel)
abbrev s_law_is_name : Stmt := topS 23
abbrev N_law_is_name : List Str := ["word", "letters", "letter"]
theorem sc_law_is_name : FnScope N_law_is_name ["word"] (fnScope s_law_is_name) := fnScope_by (by decide +kernel)
abbrev s_law_due : Stmt := topS 24
abbrev N_law_due : List Str := ["places", "ties", "k", "name", "ends"]
theorem sc_law_due : FnScope N_law_due ["places", "ties"] (fnScope s_law_due) := fnScope_by (by decide +kernel)
abbrev s_law_told : Stmt := topS 25
abbrev N_law_told : List Str := ["places", "ties", "told", "e"]
theorem sc_law_told : FnScope N_law_told ["places", "ties"] (fnScope s_law_told) := fnScope_by (by decide +kernel)
abbrev s_law_drawn : Stmt := topS 26
abbrev N_law_drawn : List Str := ["well", "places", "ties", "name"]
theorem sc_law_drawn : FnScope N_law_drawn ["well"] (fnScope s_law_drawn) := fnScope_by (by decide +kernel)
abbrev s_law_spoiled : Stmt := topS 27
abbrev N_law_spoiled : List Str := ["well", "places", "ties", "kind", "at", "more", "p", "some", "names"]
theorem sc_law_spoiled : FnScope N_law_spoiled ["well", "places", "ties"] (fnScope s_law_spoiled) := fnScope_by (by decide +kernel)
abbrev s_law_ends_refused : Stmt := topS 28
abbrev N_law_ends_refused : List Str := ["web", "word", "e"]
theorem sc_law_ends_refused : FnScope N_law_ends_refused ["web", "word"] (fnScope s_law_ends_refused) := fnScope_by (by decide +kernel)
abbrev s_law_web_right : Stmt := topS 29
abbrev N_law_web_right : List Str := ["well", "places", "ties", "kept", "held", "web", "due", "other", "name", "fewer", "moved", "unlike", "one"]
theorem sc_law_web_right : FnScope N_law_web_right ["well", "places", "ties"] (fnScope s_law_web_right) := fnScope_by (by decide +kernel)
abbrev s_law_right : Stmt := topS 30
abbrev N_law_right : List Str := ["well", "places", "ties", "bad_places", "bad_ties", "turn"]
theorem sc_law_right : FnScope N_law_right ["well"] (fnScope s_law_right) := fnScope_by (by decide +kernel)
abbrev s_law : Stmt := topS 31
abbrev N_law : List Str := ["script", "cell"]
theorem sc_law : FnScope N_law ["script"] (fnScope s_law) := fnScope_by (by decide +kernel)
structure Ad where
  C_LotError : Addr
  C_NoThing : Addr
  C_TooMany : Addr
  C_BadPlaces : Addr
  C_BadTies : Addr
  C_Web : Addr
  f_NoThing__init : Addr
  fd_NoThing__init : FuncData
  f_TooMany__init : Addr
  fd_TooMany__init : FuncData
  f_BadPlaces__init : Addr
  fd_BadPlaces__init : FuncData
  f_BadTies__init : Addr
  fd_BadTies__init : FuncData
  f_is_name : Addr
  fd_is_name : FuncData
  f_first_wrong : Addr
  fd_first_wrong : FuncData
  f_sorted_places : Addr
  fd_sorted_places : FuncData
  f_Web__init : Addr
  fd_Web__init : FuncData
  f_Web_places : Addr
  fd_Web_places : FuncData
  f_Web_ties : Addr
  fd_Web_ties : FuncData
  f_Web_ends : Addr
  fd_Web_ends : FuncData
  f_Web__eq : Addr
  fd_Web__eq : FuncData
  f_checked_ties : Addr
  fd_checked_ties : FuncData
  f_are_ends : Addr
  fd_are_ends : FuncData
  f_law_source : Addr
  fd_law_source : FuncData
  f_law_draw : Addr
  fd_law_draw : FuncData
  f_law_pick : Addr
  fd_law_pick : FuncData
  f_law_names : Addr
  fd_law_names : FuncData
  f_law_shuffled : Addr
  fd_law_shuffled : FuncData
  f_law_is_name : Addr
  fd_law_is_name : FuncData
  f_law_due : Addr
  fd_law_due : FuncData
  f_law_told : Addr
  fd_law_told : FuncData
  f_law_drawn : Addr
  fd_law_drawn : FuncData
  f_law_spoiled : Addr
  fd_law_spoiled : FuncData
  f_law_ends_refused : Addr
  fd_law_ends_refused : FuncData
  f_law_web_right : Addr
  fd_law_web_right : FuncData
  f_law_right : Addr
  fd_law_right : FuncData
  f_law : Addr
  fd_law : FuncData
structure Txt (K : PySem.W.Frag) (mg : Str → Option Value) (A : Ad) : Prop where
  gC_LotError : mg "LotError" = some (.ref A.C_LotError)
  gC_NoThing : mg "NoThing" = some (.ref A.C_NoThing)
  gC_TooMany : mg "TooMany" = some (.ref A.C_TooMany)
  gC_BadPlaces : mg "BadPlaces" = some (.ref A.C_BadPlaces)
  gC_BadTies : mg "BadTies" = some (.ref A.C_BadTies)
  gC_Web : mg "Web" = some (.ref A.C_Web)
  u_NoThing__init : C8.Fun K "__init__" "NoThing.__init__" s_NoThing__init A.f_NoThing__init A.fd_NoThing__init
  fi_NoThing__init : PySem.W.findIn K (.ref A.C_NoThing) "__init__" = some (some (.ref A.f_NoThing__init))
  fn_NoThing__init : PySem.W.isFn K (.ref A.f_NoThing__init) = true
  kp_NoThing__init : PySem.W.keepIn K (.ref A.f_NoThing__init) = true
  b_NoThing__init : Binds K A.fd_NoThing__init ["self", "thing"] []
  u_TooMany__init : C8.Fun K "__init__" "TooMany.__init__" s_TooMany__init A.f_TooMany__init A.fd_TooMany__init
  fi_TooMany__init : PySem.W.findIn K (.ref A.C_TooMany) "__init__" = some (some (.ref A.f_TooMany__init))
  fn_TooMany__init : PySem.W.isFn K (.ref A.f_TooMany__init) = true
  kp_TooMany__init : PySem.W.keepIn K (.ref A.f_TooMany__init) = true
  b_TooMany__init : Binds K A.fd_TooMany__init ["self", "limit"] []
  u_BadPlaces__init : C8.Fun K "__init__" "BadPlaces.__init__" s_BadPlaces__init A.f_BadPlaces__init A.fd_BadPlaces__init
  fi_BadPlaces__init : PySem.W.findIn K (.ref A.C_BadPlaces) "__init__" = some (some (.ref A.f_BadPlaces__init))
  fn_BadPlaces__init : PySem.W.isFn K (.ref A.f_BadPlaces__init) = true
  kp_BadPlaces__init : PySem.W.keepIn K (.ref A.f_BadPlaces__init) = true
  b_BadPlaces__init : Binds K A.fd_BadPlaces__init ["self", "index"] []
  u_BadTies__init : C8.Fun K "__init__" "BadTies.__init__" s_BadTies__init A.f_BadTies__init A.fd_BadTies__init
  fi_BadTies__init : PySem.W.findIn K (.ref A.C_BadTies) "__init__" = some (some (.ref A.f_BadTies__init))
  fn_BadTies__init : PySem.W.isFn K (.ref A.f_BadTies__init) = true
  kp_BadTies__init : PySem.W.keepIn K (.ref A.f_BadTies__init) = true
  b_BadTies__init : Binds K A.fd_BadTies__init ["self", "name"] []
  d_is_name : C8.Def K mg "is_name" s_is_name A.f_is_name A.fd_is_name
  b_is_name : Binds K A.fd_is_name ["value"] []
  d_first_wrong : C8.Def K mg "first_wrong" s_first_wrong A.f_first_wrong A.fd_first_wrong
  b_first_wrong : Binds K A.fd_first_wrong ["entries", "fits"] []
  d_sorted_places : C8.Def K mg "sorted_places" s_sorted_places A.f_sorted_places A.fd_sorted_places
  b_sorted_places : Binds K A.fd_sorted_places ["places", "most"] []
  u_Web__init : C8.Fun K "__init__" "Web.__init__" s_Web__init A.f_Web__init A.fd_Web__init
  fi_Web__init : PySem.W.findIn K (.ref A.C_Web) "__init__" = some (some (.ref A.f_Web__init))
  fn_Web__init : PySem.W.isFn K (.ref A.f_Web__init) = true
  kp_Web__init : PySem.W.keepIn K (.ref A.f_Web__init) = true
  b_Web__init : Binds K A.fd_Web__init ["self", "places", "ties"] []
  u_Web_places : C8.Fun K "places" "Web.places" s_Web_places A.f_Web_places A.fd_Web_places
  fi_Web_places : PySem.W.findIn K (.ref A.C_Web) "places" = some (some (.ref A.f_Web_places))
  fn_Web_places : PySem.W.isFn K (.ref A.f_Web_places) = true
  kp_Web_places : PySem.W.keepIn K (.ref A.f_Web_places) = true
  b_Web_places : Binds K A.fd_Web_places ["self"] []
  u_Web_ties : C8.Fun K "ties" "Web.ties" s_Web_ties A.f_Web_ties A.fd_Web_ties
  fi_Web_ties : PySem.W.findIn K (.ref A.C_Web) "ties" = some (some (.ref A.f_Web_ties))
  fn_Web_ties : PySem.W.isFn K (.ref A.f_Web_ties) = true
  kp_Web_ties : PySem.W.keepIn K (.ref A.f_Web_ties) = true
  b_Web_ties : Binds K A.fd_Web_ties ["self"] []
  u_Web_ends : C8.Fun K "ends" "Web.ends" s_Web_ends A.f_Web_ends A.fd_Web_ends
  fi_Web_ends : PySem.W.findIn K (.ref A.C_Web) "ends" = some (some (.ref A.f_Web_ends))
  fn_Web_ends : PySem.W.isFn K (.ref A.f_Web_ends) = true
  kp_Web_ends : PySem.W.keepIn K (.ref A.f_Web_ends) = true
  b_Web_ends : Binds K A.fd_Web_ends ["self", "tie"] []
  u_Web__eq : C8.Fun K "__eq__" "Web.__eq__" s_Web__eq A.f_Web__eq A.fd_Web__eq
  fi_Web__eq : PySem.W.findIn K (.ref A.C_Web) "__eq__" = some (some (.ref A.f_Web__eq))
  fn_Web__eq : PySem.W.isFn K (.ref A.f_Web__eq) = true
  kp_Web__eq : PySem.W.keepIn K (.ref A.f_Web__eq) = true
  b_Web__eq : Binds K A.fd_Web__eq ["self", "other"] []
  d_checked_ties : C8.Def K mg "_checked_ties" s_checked_ties A.f_checked_ties A.fd_checked_ties
  b_checked_ties : Binds K A.fd_checked_ties ["ties", "places"] []
  d_are_ends : C8.Def K mg "_are_ends" s_are_ends A.f_are_ends A.fd_are_ends
  b_are_ends : Binds K A.fd_are_ends ["value", "places"] []
  d_law_source : C8.Def K mg "_law_source" s_law_source A.f_law_source A.fd_law_source
  b_law_source : Binds K A.fd_law_source ["cell"] []
  d_law_draw : C8.Def K mg "_law_draw" s_law_draw A.f_law_draw A.fd_law_draw
  b_law_draw : Binds K A.fd_law_draw ["well", "many"] []
  d_law_pick : C8.Def K mg "_law_pick" s_law_pick A.f_law_pick A.fd_law_pick
  b_law_pick : Binds K A.fd_law_pick ["well", "some"] []
  d_law_names : C8.Def K mg "_law_names" s_law_names A.f_law_names A.fd_law_names
  b_law_names : Binds K A.fd_law_names ["well", "many"] []
  d_law_shuffled : C8.Def K mg "_law_shuffled" s_law_shuffled A.f_law_shuffled A.fd_law_shuffled
  b_law_shuffled : Binds K A.fd_law_shuffled ["well", "some"] []
  d_law_is_name : C8.Def K mg "_law_is_name" s_law_is_name A.f_law_is_name A.fd_law_is_name
  b_law_is_name : Binds K A.fd_law_is_name ["word"] []
  d_law_due : C8.Def K mg "_law_due" s_law_due A.f_law_due A.fd_law_due
  b_law_due : Binds K A.fd_law_due ["places", "ties"] []
  d_law_told : C8.Def K mg "_law_told" s_law_told A.f_law_told A.fd_law_told
  b_law_told : Binds K A.fd_law_told ["places", "ties"] []
  d_law_drawn : C8.Def K mg "_law_drawn" s_law_drawn A.f_law_drawn A.fd_law_drawn
  b_law_drawn : Binds K A.fd_law_drawn ["well"] []
  d_law_spoiled : C8.Def K mg "_law_spoiled" s_law_spoiled A.f_law_spoiled A.fd_law_spoiled
  b_law_spoiled : Binds K A.fd_law_spoiled ["well", "places", "ties"] []
  d_law_ends_refused : C8.Def K mg "_law_ends_refused" s_law_ends_refused A.f_law_ends_refused A.fd_law_ends_refused
  b_law_ends_refused : Binds K A.fd_law_ends_refused ["web", "word"] []
  d_law_web_right : C8.Def K mg "_law_web_right" s_law_web_right A.f_law_web_right A.fd_law_web_right
  b_law_web_right : Binds K A.fd_law_web_right ["well", "places", "ties"] []
  d_law_right : C8.Def K mg "_law_right" s_law_right A.f_law_right A.fd_law_right
  b_law_right : Binds K A.fd_law_right ["well"] []
  d_law : C8.Def K mg "law" s_law A.f_law A.fd_law
  b_law : Binds K A.fd_law ["script"] []
  cl_Web : Cls K A.C_Web
  mk_Web : PySem.W.makesIn K A.C_Web = true
  kc_Web : PySem.W.keepIn K (.ref A.C_Web) = true
  na_Web__places : NoAttr K A.C_Web "_places"
  na_Web__ties : NoAttr K A.C_Web "_ties"
  wc_Web : PySem.W.findIn K (.ref A.C_Web) "__class__" = some (some (.builtin "object.__class__"))
  wg_Web : PySem.W.specialIn K (.builtin "object.__class__") "__get__" = some (some (.builtin "getset_descriptor.__get__"))
  wt_Web : PySem.W.takesIn K (.builtin "object.__class__") = some true
  wm_Web : PySem.W.mroIn K A.C_Web (.type "object") = some true
  wk_Web : PySem.W.kitOne K (.ref A.C_Web) (.ref A.C_Web) = some true
  nc_Web : NeC K A.C_Web A.f_Web__eq
  ox_NoThing : OexC K A.C_NoThing
  xf_NoThing : XfC K A.C_NoThing
  nx_NoThing_thing : PySem.W.findIn K (.ref A.C_NoThing) "thing" = some none
  ox_TooMany : OexC K A.C_TooMany
  xf_TooMany : XfC K A.C_TooMany
  nx_TooMany_limit : PySem.W.findIn K (.ref A.C_TooMany) "limit" = some none
  ox_BadPlaces : OexC K A.C_BadPlaces
  xf_BadPlaces : XfC K A.C_BadPlaces
  nx_BadPlaces_index : PySem.W.findIn K (.ref A.C_BadPlaces) "index" = some none
  ox_BadTies : OexC K A.C_BadTies
  xf_BadTies : XfC K A.C_BadTies
  nx_BadTies_name : PySem.W.findIn K (.ref A.C_BadTies) "name" = some none
  xm_BadPlaces_BadPlaces : PySem.W.exmOne K (.ref A.C_BadPlaces) (.ref A.C_BadPlaces) = some true
  xm_BadTies_BadPlaces : PySem.W.exmOne K (.ref A.C_BadTies) (.ref A.C_BadPlaces) = some false
  xm_BadTies_BadTies : PySem.W.exmOne K (.ref A.C_BadTies) (.ref A.C_BadTies) = some true
  xm_TooMany_BadPlaces : PySem.W.exmOne K (.ref A.C_TooMany) (.ref A.C_BadPlaces) = some false
  xm_TooMany_BadTies : PySem.W.exmOne K (.ref A.C_TooMany) (.ref A.C_BadTies) = some false
  xm_TooMany_TooMany : PySem.W.exmOne K (.ref A.C_TooMany) (.ref A.C_TooMany) = some true
  xm_NoThing_NoThing : PySem.W.exmOne K (.ref A.C_NoThing) (.ref A.C_NoThing) = some true
  z_all : mg "all" = none
  z_any : mg "any" = none
  z_dict : mg "dict" = none
  z_enumerate : mg "enumerate" = none
  z_int : mg "int" = none
  z_isinstance : mg "isinstance" = none
  z_len : mg "len" = none
  z_list : mg "list" = none
  z_range : mg "range" = none
  z_set : mg "set" = none
  z_sorted : mg "sorted" = none
  z_str : mg "str" = none
  z_tuple : mg "tuple" = none
  g_LONGEST_NAME : ∃ t, mg "LONGEST_NAME" = some (.int 8 t)
  g_MOST_WEB_PLACES : ∃ t, mg "MOST_WEB_PLACES" = some (.int 16 t)
  g_MOST_TIES : ∃ t, mg "MOST_TIES" = some (.int 24 t)
section
variable {P : Program} {w : World} {K : PySem.W.Frag} {mg : Str → Option Value} {base : Heap} {A : Ad}
theorem cal_law_source (T : Txt K mg A) : Cal P w K mg base 1 "_law_source" spSource [] := by
  refine cal0 T.d_law_source T.b_law_source .nil sc_law_source (fun vs H Q E h => ?_) (fun cdv B outer s H vs Q E hr h => ?_)
  · obtain ⟨c, rfl, _⟩ := h
    rfl
  · obtain ⟨c, rfl, k⟩ := h
    refine ⟨_, (pss_cons (ps_set (i := 1) sc_law_source.nd rfl (by first | exact Or.inl rfl | exact Or.inr rfl) (pe_ifExp (pt_cmpR op_ge (pv 0) pe_int (nomark _)) (pv 0) (pe_op op_sub (pe_op op_sub pe_int (pe_op op_mul pe_int (pv 0))) pe_int)))
 (pss_one (ps_ret (pe_lst (pa_cons (pe_op op_mul (pv 1) (pe_callTy call_int1 (by rfl) T.z_int (by decide +kernel) (pa_cons (pe_cmpR op_ge (pv 1) (pe_op op_pow pe_int pe_int) (nomark _)) pa_nil))) (pa_cons (pe_op op_mod (pe_callTy call_int1 (by rfl) T.z_int (by decide +kernel) (pa_cons (pv 1) pa_nil)) pe_int) (pa_cons pe_int pa_nil))))))), ?_⟩
    (repeat (first | refine ⟨_, rfl, ?_⟩ | refine ⟨rfl, ?_⟩ | refine ⟨_, _, rfl, rfl, ?_⟩ | refine iteT ?_ | refine iteF ?_ | refine ⟨(by show (0 : Int) < _; omega), ?_⟩ | refine ⟨(⟨by omega, by omega⟩ : CDiv _ _), ?_⟩ | refine ⟨(⟨by decide, by decide, by decide⟩ : CPow _ _), ?_⟩ | refine ⟨(.inl ⟨by omega, by omega⟩ : CMul _ _), ?_⟩ | refine ⟨(.inr ⟨by omega, by omega⟩ : CMul _ _), ?_⟩ | refine Or.inl ⟨_, rfl, ?_⟩ | refine Or.inr ⟨_, rfl, ?_⟩ | refine ⟨_, _, _, _, true, rfl, .ty _, .base (.str _), kit_ty (by decide +kernel), ?_⟩ | refine ⟨_, _, rfl, ⟨by rw [sizeLine_eq]; omega, rfl⟩, ?_⟩ | refine ⟨_, _, rfl, .inl ⟨_, SqL.of (by assumption), rfl⟩, ?_⟩ | refine ⟨_, _, rfl, .inr ⟨_, SqT.of (by assumption), rfl⟩, ?_⟩))
    refine ite2 (fun _ => ?_) (fun _ => ?_)
    all_goals
      (repeat (first | refine ⟨_, rfl, ?_⟩ | refine ⟨rfl, ?_⟩ | refine ⟨_, _, rfl, rfl, ?_⟩ | refine iteT ?_ | refine iteF ?_ | refine ⟨(by show (0 : Int) < _; omega), ?_⟩ | refine ⟨(⟨by omega, by omega⟩ : CDiv _ _), ?_⟩ | refine ⟨(⟨by decide, by decide, by decide⟩ : CPow _ _), ?_⟩ | refine ⟨(.inl ⟨by omega, by omega⟩ : CMul _ _), ?_⟩ | refine ⟨(.inr ⟨by omega, by omega⟩ : CMul _ _), ?_⟩ | refine Or.inl ⟨_, rfl, ?_⟩ | refine Or.inr ⟨_, rfl, ?_⟩ | refine ⟨_, _, _, _, true, rfl, .ty _, .base (.str _), kit_ty (by decide +kernel), ?_⟩ | refine ⟨_, _, rfl, ⟨by rw [sizeLine_eq]; omega, rfl⟩, ?_⟩ | refine ⟨_, _, rfl, .inl ⟨_, SqL.of (by assumption), rfl⟩, ?_⟩ | refine ⟨_, _, rfl, .inr ⟨_, SqT.of (by assumption), rfl⟩, ?_⟩))
      exact ⟨(by show 3 ≤ sizeLine; rw [sizeLine_eq]; omega), fun p np => k p _ np (Same.new np) ⟨_, _, _, upd_same⟩⟩
theorem cal_law_draw (T : Txt K mg A) : Cal P w K mg base 1 "_law_draw" spDraw [] := by
  refine cal0 T.d_law_draw T.b_law_draw .nil sc_law_draw (fun vs H Q E h => ?_) (fun cdv B outer s H vs Q E hr h => ?_)
  · obtain ⟨c, m, rfl, _⟩ := h
    rfl
  · obtain ⟨wl, m, rfl, ⟨x, y, z, hw⟩, h1, h2, k⟩ := h
    refine ⟨_, (pss_cons (ps_if (pt_cmpR op_gt (pe_ix (ixLK K) (pv 0) pe_int (fun _ _ => rfl)) pe_int (nomark _)) (pss_cons (ps_set (i := 2) sc_law_draw.nd rfl (by first | exact Or.inl rfl | exact Or.inr rfl) (pe_op op_mod (pe_callTy call_int1 (by rfl) T.z_int (by decide +kernel) (pa_cons (pe_ix (ixLK K) (pv 0) pe_int (fun _ _ => rfl)) pa_nil)) (pv 1)))
 (pss_cons (ps_asg (pe_op op_fdiv (pe_ix (ixLK K) (pv 0) pe_int (fun _ _ => rfl)) (pv 1)) (pg_sub (pv 0) pe_int set_list))
 (pss_one (ps_ret (pv 2))))) pss_nil)
 (pss_cons (ps_asg (pe_op op_add (pe_ix (ixLK K) (pv 0) pe_int (fun _ _ => rfl)) pe_int) (pg_sub (pv 0) pe_int set_list))
 (pss_cons (ps_set (i := 3) sc_law_draw.nd rfl (by first | exact Or.inl rfl | exact Or.inr rfl) (pe_op op_mod (pe_callTy call_int1 (by rfl) T.z_int (by decide +kernel) (pa_cons (pe_op op_mul (pe_op op_add (pe_op op_add (pe_ix (ixLK K) (pv 0) pe_int (fun _ _ => rfl)) (pe_op op_mul pe_int (pe_ix (ixLK K) (pv 0) pe_int (fun _ _ => rfl)))) pe_int) pe_int) pa_nil)) pe_int))
 (pss_cons (ps_set (i := 3) sc_law_draw.nd rfl (by first | exact Or.inl rfl | exact Or.inr rfl) (pe_op op_mod (pe_callTy call_int1 (by rfl) T.z_int (by decide +kernel) (pa_cons (pe_op op_mul (pv 3) (pe_op op_add (pe_op op_add (pe_op op_fdiv (pv 3) pe_int) pe_int) (pe_ix (ixLK K) (pv 0) pe_int (fun _ _ => rfl)))) pa_nil)) pe_int))
 (pss_one (ps_ret (pe_op op_mod (pe_callTy call_int1 (by rfl) T.z_int (by decide +kernel) (pa_cons (pe_op op_fdiv (pe_op op_mod (pe_callTy call_int1 (by rfl) T.z_int (by decide +kernel) (pa_cons (pe_op op_mul (pv 3) (pe_op op_add (pe_op op_fdiv (pv 3) pe_int) pe_int)) pa_nil)) pe_int) pe_int) pa_nil)) (pv 1)))))))), ?_⟩
    (repeat (first | refine ⟨_, rfl, ?_⟩ | refine ⟨rfl, ?_⟩ | refine ⟨_, _, rfl, rfl, ?_⟩ | refine iteT ?_ | refine iteF ?_ | refine ⟨(by show (0 : Int) < _; omega), ?_⟩ | refine ⟨(⟨by omega, by omega⟩ : CDiv _ _), ?_⟩ | refine ⟨(⟨by decide, by decide, by decide⟩ : CPow _ _), ?_⟩ | refine ⟨(.inl ⟨by omega, by omega⟩ : CMul _ _), ?_⟩ | refine ⟨(.inr ⟨by omega, by omega⟩ : CMul _ _), ?_⟩ | refine Or.inl ⟨_, rfl, ?_⟩ | refine Or.inr ⟨_, rfl, ?_⟩ | refine ⟨_, _, _, _, true, rfl, .ty _, .base (.str _), kit_ty (by decide +kernel), ?_⟩ | refine ⟨_, _, rfl, ⟨by rw [sizeLine_eq]; omega, rfl⟩, ?_⟩ | refine ⟨_, _, rfl, .inl ⟨_, SqL.of (by assumption), rfl⟩, ?_⟩ | refine ⟨_, _, rfl, .inr ⟨_, SqT.of (by assumption), rfl⟩, ?_⟩ | refine ⟨_, _, _, _, rfl, rfl, SqL.of hw, rfl, ?_⟩))
    refine ite2 (fun _ => ?_) (fun _ => ?_)
    · (repeat (first | refine ⟨_, rfl, ?_⟩ | refine ⟨rfl, ?_⟩ | refine ⟨_, _, rfl, rfl, ?_⟩ | refine iteT ?_ | refine iteF ?_ | refine ⟨(by show (0 : Int) < _; omega), ?_⟩ | refine ⟨(⟨by omega, by omega⟩ : CDiv _ _), ?_⟩ | refine ⟨(⟨by decide, by decide, by decide⟩ : CPow _ _), ?_⟩ | refine ⟨(.inl ⟨by omega, by omega⟩ : CMul _ _), ?_⟩ | refine ⟨(.inr ⟨by omega, by omega⟩ : CMul _ _), ?_⟩ | refine Or.inl ⟨_, rfl, ?_⟩ | refine Or.inr ⟨_, rfl, ?_⟩ | refine ⟨_, _, _, _, true, rfl, .ty _, .base (.str _), kit_ty (by decide +kernel), ?_⟩ | refine ⟨_, _, rfl, ⟨by rw [sizeLine_eq]; omega, rfl⟩, ?_⟩ | refine ⟨_, _, rfl, .inl ⟨_, SqL.of (by assumption), rfl⟩, ?_⟩ | refine ⟨_, _, rfl, .inr ⟨_, SqT.of (by assumption), rfl⟩, ?_⟩ | refine ⟨_, _, _, _, rfl, rfl, SqL.of hw, rfl, ?_⟩))
      refine ⟨wl, _, _, 0, rfl, rfl, hw, rfl, _, rfl, ?_⟩
      exact k _ _ (Int.emod_nonneg _ (by omega)) (Int.emod_lt_of_pos _ (by omega)) Kp.set
    · (repeat (first | refine ⟨_, rfl, ?_⟩ | refine ⟨rfl, ?_⟩ | refine ⟨_, _, rfl, rfl, ?_⟩ | refine iteT ?_ | refine iteF ?_ | refine ⟨(by show (0 : Int) < _; omega), ?_⟩ | refine ⟨(⟨by omega, by omega⟩ : CDiv _ _), ?_⟩ | refine ⟨(⟨by decide, by decide, by decide⟩ : CPow _ _), ?_⟩ | refine ⟨(.inl ⟨by omega, by omega⟩ : CMul _ _), ?_⟩ | refine ⟨(.inr ⟨by omega, by omega⟩ : CMul _ _), ?_⟩ | refine Or.inl ⟨_, rfl, ?_⟩ | refine Or.inr ⟨_, rfl, ?_⟩ | refine ⟨_, _, _, _, true, rfl, .ty _, .base (.str _), kit_ty (by decide +kernel), ?_⟩ | refine ⟨_, _, rfl, ⟨by rw [sizeLine_eq]; omega, rfl⟩, ?_⟩ | refine ⟨_, _, rfl, .inl ⟨_, SqL.of (by assumption), rfl⟩, ?_⟩ | refine ⟨_, _, rfl, .inr ⟨_, SqT.of (by assumption), rfl⟩, ?_⟩ | refine ⟨_, _, _, _, rfl, rfl, SqL.of hw, rfl, ?_⟩))
      refine ⟨wl, _, _, 2, rfl, rfl, hw, rfl, ?_⟩
      have hw := upd_same (H := H) (a := wl) (o := .lst ([V.int x, .int y, .int z].set 2 (.int (z + 1))))
      (repeat (first | refine ⟨_, rfl, ?_⟩ | refine ⟨rfl, ?_⟩ | refine ⟨_, _, rfl, rfl, ?_⟩ | refine iteT ?_ | refine iteF ?_ | refine ⟨(by show (0 : Int) < _; omega), ?_⟩ | refine ⟨(⟨by omega, by omega⟩ : CDiv _ _), ?_⟩ | refine ⟨(⟨by decide, by decide, by decide⟩ : CPow _ _), ?_⟩ | refine ⟨(.inl ⟨by omega, by omega⟩ : CMul _ _), ?_⟩ | refine ⟨(.inr ⟨by omega, by omega⟩ : CMul _ _), ?_⟩ | refine Or.inl ⟨_, rfl, ?_⟩ | refine Or.inr ⟨_, rfl, ?_⟩ | refine ⟨_, _, _, _, true, rfl, .ty _, .base (.str _), kit_ty (by decide +kernel), ?_⟩ | refine ⟨_, _, rfl, ⟨by rw [sizeLine_eq]; omega, rfl⟩, ?_⟩ | refine ⟨_, _, rfl, .inl ⟨_, SqL.of (by assumption), rfl⟩, ?_⟩ | refine ⟨_, _, rfl, .inr ⟨_, SqT.of (by assumption), rfl⟩, ?_⟩ | refine ⟨_, _, _, _, rfl, rfl, SqL.of hw, rfl, ?_⟩))
      exact k _ _ (Int.emod_nonneg _ (by omega)) (Int.emod_lt_of_pos _ (by omega)) Kp.set
theorem cal_law_pick (T : Txt K mg A) : Cal P w K mg base 2 "_law_pick" spPick [] := by
  refine cal0 T.d_law_pick T.b_law_pick .nil sc_law_pick (fun vs H Q E h => ?_) (fun cdv B outer s H vs Q E hr h => ?_)
  · obtain ⟨c, m, rfl, _⟩ := h
    rfl
  · obtain ⟨wl, x, rfl, hw, h⟩ := h
    refine ⟨_, (pss_one (ps_ret (pe_ix (ixQK K) (pv 1) (pe_c (cal_law_draw T) hr (by decide) rfl (pa_cons (pv 0) (pa_cons (pe_callB (lenK K) (by rfl) T.z_len (by decide +kernel) (pa_cons (pv 1) pa_nil)) pa_nil))) (fun _ _ => rfl)))), ?_⟩
    rcases h with ⟨a, xs, rfl, ha, hnw, hne, hl, k⟩ | ⟨z, rfl, hz1, hz2, k⟩
    · (repeat (first | refine ⟨_, rfl, ?_⟩ | refine ⟨rfl, ?_⟩ | refine ⟨_, _, rfl, rfl, ?_⟩ | refine iteT ?_ | refine iteF ?_ | refine ⟨(by show (0 : Int) < _; omega), ?_⟩ | refine ⟨(⟨by omega, by omega⟩ : CDiv _ _), ?_⟩ | refine ⟨(⟨by decide, by decide, by decide⟩ : CPow _ _), ?_⟩ | refine ⟨(.inl ⟨by omega, by omega⟩ : CMul _ _), ?_⟩ | refine ⟨(.inr ⟨by omega, by omega⟩ : CMul _ _), ?_⟩ | refine Or.inl ⟨_, rfl, ?_⟩ | refine Or.inr ⟨_, rfl, ?_⟩ | refine ⟨_, _, _, _, true, rfl, .ty _, .base (.str _), kit_ty (by decide +kernel), ?_⟩ | refine ⟨_, _, rfl, ⟨by rw [sizeLine_eq]; omega, rfl⟩, ?_⟩ | refine ⟨_, _, rfl, .inl ⟨_, SqL.of (by assumption), rfl⟩, ?_⟩ | refine ⟨_, _, rfl, .inr ⟨_, SqT.of (by assumption), rfl⟩, ?_⟩))
      refine ⟨wl, _, rfl, hw, ?_, by omega, fun n H1 h0 h1 kp => ?_⟩
      · have : xs.length ≠ 0 := fun e => hne (List.length_eq_zero_iff.mp e)
        omega
      have hn : n.toNat < xs.length := by omega
      refine .inl ⟨a, xs, n, xs[n.toNat], rfl, rfl, SqL.of (kp.get hw ha hnw), ?_, k _ _ (List.getElem_mem hn) kp⟩
      exact atI_of h0 hn
    · (repeat (first | refine ⟨_, rfl, ?_⟩ | refine ⟨rfl, ?_⟩ | refine ⟨_, _, rfl, rfl, ?_⟩ | refine iteT ?_ | refine iteF ?_ | refine ⟨(by show (0 : Int) < _; omega), ?_⟩ | refine ⟨(⟨by omega, by omega⟩ : CDiv _ _), ?_⟩ | refine ⟨(⟨by decide, by decide, by decide⟩ : CPow _ _), ?_⟩ | refine ⟨(.inl ⟨by omega, by omega⟩ : CMul _ _), ?_⟩ | refine ⟨(.inr ⟨by omega, by omega⟩ : CMul _ _), ?_⟩ | refine Or.inl ⟨_, rfl, ?_⟩ | refine Or.inr ⟨_, rfl, ?_⟩ | refine ⟨_, _, _, _, true, rfl, .ty _, .base (.str _), kit_ty (by decide +kernel), ?_⟩ | refine ⟨_, _, rfl, ⟨by rw [sizeLine_eq]; omega, rfl⟩, ?_⟩ | refine ⟨_, _, rfl, .inl ⟨_, SqL.of (by assumption), rfl⟩, ?_⟩ | refine ⟨_, _, rfl, .inr ⟨_, SqT.of (by assumption), rfl⟩, ?_⟩))
      refine ⟨wl, _, rfl, hw, by omega, by omega, fun n H1 h0 h1 kp => ?_⟩
      have hn : n.toNat < z.cps.toList.length := by
        rw [Array.length_toList]
        have : z.length = z.cps.size := rfl
        omega
      refine .inr (.inr ⟨z, n, z.cps.toList[n.toNat], rfl, rfl, by rw [sizeLine_eq]; omega, ?_, k _ _ (List.getElem_mem hn) kp⟩)
      exact atN_of h0 hn
end
end BF
set_option Elab.async false
set_option linter.all false
set_option maxRecDepth 100000
set_option maxHeartbeats 4000000
namespace BF
open PySem PySem.Spec PyProof.Rows L2
open C8 (Cal CalAt Met Mak cal0 met0 mak0 fn0 pe_c pe_mk pe_mt pe_mt0 pe_gc fnScope fnBody fnArgs fnScope_by)
open SX
section
variable {P : Program} {w : World} {K : PySem.W.Frag} {mg : Str → Option Value} {base : Heap} {A : Ad}
theorem cal_law_is_name (T : Txt K mg A) : Cal P w K mg base 1 "_law_is_name" spIsName [] := by
  refine cal0 T.d_law_is_name T.b_law_is_name .nil sc_law_is_name (fun vs H Q E h => ?_) (fun cdv B outer s H vs Q E hr h => ?_)
  · obtain ⟨c, rfl, _⟩ := h
    rfl
  · obtain ⟨x, rfl, hx, k⟩ := h
    refine ⟨_, (pss_cons (ps_set (i := 1) sc_law_is_name.nd rfl (by first | exact Or.inl rfl | exact Or.inr rfl) pe_str)
 (pss_one (ps_ret (pe_and (pe_callB (isiK K) (by rfl) T.z_isinstance (by decide +kernel) (pa_cons (pv 0) (pa_cons (pe_bltn (v := .ty "str") (by rfl) T.z_str (by decide +kernel) rfl) pa_nil))) (pe_and (pe_chain op_le op_le pe_int (pe_callB (lenK K) (by rfl) T.z_len (by decide +kernel) (pa_cons (pv 0) pa_nil)) pe_int) (pe_one (pe_callB (allK K rfl) (by rfl) T.z_all (by decide +kernel) (pa_cons (pe_lc (own := [("letter", 2)]) (g := gName 2) rfl sc_law_is_name.nd (pi_str (pv 0)) (blkOk_by (own := [("letter", 2)]) (N := N_law_is_name) (sc := fnScope s_law_is_name) (by decide +kernel)) (fun _ _ _ _ _ => (pg_name (i := 2) sc_law_is_name.nd rfl (by first | exact Or.inl rfl | exact Or.inr rfl))) (fun _ _ _ _ _ => pts_nil) (fun _ _ _ _ _ => (pe_cmpR op_in_sign (pv 2) (pv 1) rfl))) pa_nil)))))))), ?_⟩
    have hz : x.cps.size ≤ 1000 := hx
    (repeat (first | refine ⟨_, rfl, ?_⟩ | refine ⟨rfl, ?_⟩ | refine ⟨_, _, rfl, rfl, ?_⟩ | refine iteT ?_ | refine iteF ?_ | refine ⟨(by show (0 : Int) < _; omega), ?_⟩ | refine ⟨(⟨by omega, by omega⟩ : CDiv _ _), ?_⟩ | refine ⟨(⟨by decide, by decide, by decide⟩ : CPow _ _), ?_⟩ | refine ⟨(.inl ⟨by omega, by omega⟩ : CMul _ _), ?_⟩ | refine ⟨(.inr ⟨by omega, by omega⟩ : CMul _ _), ?_⟩ | refine Or.inl ⟨_, rfl, ?_⟩ | refine Or.inr ⟨_, rfl, ?_⟩ | refine ⟨_, _, _, _, true, rfl, .ty _, .base (.str _), kit_ty (by decide +kernel), ?_⟩ | refine ⟨_, _, rfl, ⟨by rw [sizeLine_eq]; omega, rfl⟩, ?_⟩ | refine ⟨_, _, rfl, .inl ⟨_, SqL.of (by assumption), rfl⟩, ?_⟩ | refine ⟨_, _, rfl, .inr ⟨_, SqT.of (by assumption), rfl⟩, ?_⟩))
    refine ite2 (fun h1 => ?_) (fun h1 => ?_)
    · (repeat (first | refine ⟨_, rfl, ?_⟩ | refine ⟨rfl, ?_⟩ | refine ⟨_, _, rfl, rfl, ?_⟩ | refine iteT ?_ | refine iteF ?_ | refine ⟨(by show (0 : Int) < _; omega), ?_⟩ | refine ⟨(⟨by omega, by omega⟩ : CDiv _ _), ?_⟩ | refine ⟨(⟨by decide, by decide, by decide⟩ : CPow _ _), ?_⟩ | refine ⟨(.inl ⟨by omega, by omega⟩ : CMul _ _), ?_⟩ | refine ⟨(.inr ⟨by omega, by omega⟩ : CMul _ _), ?_⟩ | refine Or.inl ⟨_, rfl, ?_⟩ | refine Or.inr ⟨_, rfl, ?_⟩ | refine ⟨_, _, _, _, true, rfl, .ty _, .base (.str _), kit_ty (by decide +kernel), ?_⟩ | refine ⟨_, _, rfl, ⟨by rw [sizeLine_eq]; omega, rfl⟩, ?_⟩ | refine ⟨_, _, rfl, .inl ⟨_, SqL.of (by assumption), rfl⟩, ?_⟩ | refine ⟨_, _, rfl, .inr ⟨_, SqT.of (by assumption), rfl⟩, ?_⟩))
      refine ite2 (fun h2 => ?_) (fun h2 => ?_)
      · (repeat (first | refine ⟨_, rfl, ?_⟩ | refine ⟨rfl, ?_⟩ | refine ⟨_, _, rfl, rfl, ?_⟩ | refine iteT ?_ | refine iteF ?_ | refine ⟨(by show (0 : Int) < _; omega), ?_⟩ | refine ⟨(⟨by omega, by omega⟩ : CDiv _ _), ?_⟩ | refine ⟨(⟨by decide, by decide, by decide⟩ : CPow _ _), ?_⟩ | refine ⟨(.inl ⟨by omega, by omega⟩ : CMul _ _), ?_⟩ | refine ⟨(.inr ⟨by omega, by omega⟩ : CMul _ _), ?_⟩ | refine Or.inl ⟨_, rfl, ?_⟩ | refine Or.inr ⟨_, rfl, ?_⟩ | refine ⟨_, _, _, _, true, rfl, .ty _, .base (.str _), kit_ty (by decide +kernel), ?_⟩ | refine ⟨_, _, rfl, ⟨by rw [sizeLine_eq]; omega, rfl⟩, ?_⟩ | refine ⟨_, _, rfl, .inl ⟨_, SqL.of (by assumption), rfl⟩, ?_⟩ | refine ⟨_, _, rfl, .inr ⟨_, SqT.of (by assumption), rfl⟩, ?_⟩))
        intro D nD
        refine lc_it walk_str (fun i H' => Same H H' ∧ H' D = some (.lst (((x.cps.toList.take i).map isLow).map V.bl))) ⟨Same.new nD, upd_same⟩ (fun _ _ _ _ => True.intro) ?_ ?_
        · rintro i v H1 H' hi ⟨s1, hD⟩ ⟨rfl, c, hc, rfl⟩
          refine ⟨rfl, ?_⟩
          (repeat (first | refine ⟨_, rfl, ?_⟩ | refine ⟨rfl, ?_⟩ | refine ⟨_, _, rfl, rfl, ?_⟩ | refine iteT ?_ | refine iteF ?_ | refine ⟨(by show (0 : Int) < _; omega), ?_⟩ | refine ⟨(⟨by omega, by omega⟩ : CDiv _ _), ?_⟩ | refine ⟨(⟨by decide, by decide, by decide⟩ : CPow _ _), ?_⟩ | refine ⟨(.inl ⟨by omega, by omega⟩ : CMul _ _), ?_⟩ | refine ⟨(.inr ⟨by omega, by omega⟩ : CMul _ _), ?_⟩ | refine Or.inl ⟨_, rfl, ?_⟩ | refine Or.inr ⟨_, rfl, ?_⟩ | refine ⟨_, _, _, _, true, rfl, .ty _, .base (.str _), kit_ty (by decide +kernel), ?_⟩ | refine ⟨_, _, rfl, ⟨by rw [sizeLine_eq]; omega, rfl⟩, ?_⟩ | refine ⟨_, _, rfl, .inl ⟨_, SqL.of (by assumption), rfl⟩, ?_⟩ | refine ⟨_, _, rfl, .inr ⟨_, SqT.of (by assumption), rfl⟩, ?_⟩))
          refine ⟨_, hD, small1000 (by simp only [List.length_map, List.length_take, Array.length_toList]; omega), Same.put s1 nD, ?_⟩
          have e : x.cps.toList[i]? = some c := by simpa using hc
          rw [upd_same, take_snoc isLow e, in_letters, List.map_append]
          rfl
        · rintro H1 ⟨s1, hD⟩
          refine ⟨D, _, rfl, SqL.of hD, ?_⟩
          have e := k H1 s1
          rw [isNm_true (by have := of_decide_eq_true h1; omega) (by have := of_decide_eq_true h2; omega)] at e
          rw [List.take_of_length_le (by simp)]
          exact e
      · (repeat (first | refine ⟨_, rfl, ?_⟩ | refine ⟨rfl, ?_⟩ | refine ⟨_, _, rfl, rfl, ?_⟩ | refine iteT ?_ | refine iteF ?_ | refine ⟨(by show (0 : Int) < _; omega), ?_⟩ | refine ⟨(⟨by omega, by omega⟩ : CDiv _ _), ?_⟩ | refine ⟨(⟨by decide, by decide, by decide⟩ : CPow _ _), ?_⟩ | refine ⟨(.inl ⟨by omega, by omega⟩ : CMul _ _), ?_⟩ | refine ⟨(.inr ⟨by omega, by omega⟩ : CMul _ _), ?_⟩ | refine Or.inl ⟨_, rfl, ?_⟩ | refine Or.inr ⟨_, rfl, ?_⟩ | refine ⟨_, _, _, _, true, rfl, .ty _, .base (.str _), kit_ty (by decide +kernel), ?_⟩ | refine ⟨_, _, rfl, ⟨by rw [sizeLine_eq]; omega, rfl⟩, ?_⟩ | refine ⟨_, _, rfl, .inl ⟨_, SqL.of (by assumption), rfl⟩, ?_⟩ | refine ⟨_, _, rfl, .inr ⟨_, SqT.of (by assumption), rfl⟩, ?_⟩))
        have e := k H (Same.refl H)
        rw [isNm_no (by simp at h1 h2; omega)] at e
        exact e
    · (repeat (first | refine ⟨_, rfl, ?_⟩ | refine ⟨rfl, ?_⟩ | refine ⟨_, _, rfl, rfl, ?_⟩ | refine iteT ?_ | refine iteF ?_ | refine ⟨(by show (0 : Int) < _; omega), ?_⟩ | refine ⟨(⟨by omega, by omega⟩ : CDiv _ _), ?_⟩ | refine ⟨(⟨by decide, by decide, by decide⟩ : CPow _ _), ?_⟩ | refine ⟨(.inl ⟨by omega, by omega⟩ : CMul _ _), ?_⟩ | refine ⟨(.inr ⟨by omega, by omega⟩ : CMul _ _), ?_⟩ | refine Or.inl ⟨_, rfl, ?_⟩ | refine Or.inr ⟨_, rfl, ?_⟩ | refine ⟨_, _, _, _, true, rfl, .ty _, .base (.str _), kit_ty (by decide +kernel), ?_⟩ | refine ⟨_, _, rfl, ⟨by rw [sizeLine_eq]; omega, rfl⟩, ?_⟩ | refine ⟨_, _, rfl, .inl ⟨_, SqL.of (by assumption), rfl⟩, ?_⟩ | refine ⟨_, _, rfl, .inr ⟨_, SqT.of (by assumption), rfl⟩, ?_⟩))
      have e := k H (Same.refl H)
      rw [isNm_no (by simp at h1; omega)] at e
      exact e
theorem cal_is_name (T : Txt K mg A) : Cal P w K mg base 1 "is_name" spIsName [] := by
  refine cal0 T.d_is_name T.b_is_name .nil sc_is_name (fun vs H Q E h => ?_) (fun cdv B outer s H vs Q E hr h => ?_)
  · obtain ⟨c, rfl, _⟩ := h
    rfl
  · obtain ⟨x, rfl, hx, k⟩ := h
    refine ⟨_, (pss_cons (ps_if (PW.pt (pw_or (pt_not (pt_val (pe_callB (isiK K) (by rfl) T.z_isinstance (by decide +kernel) (pa_cons (pv 0) (pa_cons (pe_bltn (v := .ty "str") (by rfl) T.z_str (by decide +kernel) rfl) pa_nil))))) (pw_or1 (pt_not (pt_chain op_le op_le pe_int (pe_callB (lenK K) (by rfl) T.z_len (by decide +kernel) (pa_cons (pv 0) pa_nil)) (pe_gint rfl T.g_LONGEST_NAME)))))) (pss_one (ps_ret pe_bl)) pss_nil)
 (pss_one (ps_ret (pe_callB (allK K rfl) (by rfl) T.z_all (by decide +kernel) (pa_cons (pe_lc (own := [("letter", 1)]) (g := gName 1) rfl sc_is_name.nd (pi_str (pv 0)) (blkOk_by (own := [("letter", 1)]) (N := N_is_name) (sc := fnScope s_is_name) (by decide +kernel)) (fun _ _ _ _ _ => (pg_name (i := 1) sc_is_name.nd rfl (by first | exact Or.inl rfl | exact Or.inr rfl))) (fun _ _ _ _ _ => pts_nil) (fun _ _ _ _ _ => (pe_chain op_le_str op_le_str pe_str (pv 1) pe_str))) pa_nil))))), ?_⟩
    have hz : x.cps.size ≤ 1000 := hx
    (repeat (first | refine ⟨_, rfl, ?_⟩ | refine ⟨rfl, ?_⟩ | refine ⟨_, _, rfl, rfl, ?_⟩ | refine iteT ?_ | refine iteF ?_ | refine ⟨(by show (0 : Int) < _; omega), ?_⟩ | refine ⟨(⟨by omega, by omega⟩ : CDiv _ _), ?_⟩ | refine ⟨(⟨by decide, by decide, by decide⟩ : CPow _ _), ?_⟩ | refine ⟨(.inl ⟨by omega, by omega⟩ : CMul _ _), ?_⟩ | refine ⟨(.inr ⟨by omega, by omega⟩ : CMul _ _), ?_⟩ | refine Or.inl ⟨_, rfl, ?_⟩ | refine Or.inr ⟨_, rfl, ?_⟩ | refine ⟨_, _, _, _, true, rfl, .ty _, .base (.str _), kit_ty (by decide +kernel), ?_⟩ | refine ⟨_, _, rfl, ⟨by rw [sizeLine_eq]; omega, rfl⟩, ?_⟩ | refine ⟨_, _, rfl, .inl ⟨_, SqL.of (by assumption), rfl⟩, ?_⟩ | refine ⟨_, _, rfl, .inr ⟨_, SqT.of (by assumption), rfl⟩, ?_⟩))
    refine ite2 (fun h1 => ?_) (fun h1 => ?_)
    · (repeat (first | refine ⟨_, rfl, ?_⟩ | refine ⟨rfl, ?_⟩ | refine ⟨_, _, rfl, rfl, ?_⟩ | refine iteT ?_ | refine iteF ?_ | refine ⟨(by show (0 : Int) < _; omega), ?_⟩ | refine ⟨(⟨by omega, by omega⟩ : CDiv _ _), ?_⟩ | refine ⟨(⟨by decide, by decide, by decide⟩ : CPow _ _), ?_⟩ | refine ⟨(.inl ⟨by omega, by omega⟩ : CMul _ _), ?_⟩ | refine ⟨(.inr ⟨by omega, by omega⟩ : CMul _ _), ?_⟩ | refine Or.inl ⟨_, rfl, ?_⟩ | refine Or.inr ⟨_, rfl, ?_⟩ | refine ⟨_, _, _, _, true, rfl, .ty _, .base (.str _), kit_ty (by decide +kernel), ?_⟩ | refine ⟨_, _, rfl, ⟨by rw [sizeLine_eq]; omega, rfl⟩, ?_⟩ | refine ⟨_, _, rfl, .inl ⟨_, SqL.of (by assumption), rfl⟩, ?_⟩ | refine ⟨_, _, rfl, .inr ⟨_, SqT.of (by assumption), rfl⟩, ?_⟩))
      by_cases h2 : (x.length : Int) ≤ 8
      · rw [decide_eq_true h2]
        (repeat (first | refine ⟨_, rfl, ?_⟩ | refine ⟨rfl, ?_⟩ | refine ⟨_, _, rfl, rfl, ?_⟩ | refine iteT ?_ | refine iteF ?_ | refine ⟨(by show (0 : Int) < _; omega), ?_⟩ | refine ⟨(⟨by omega, by omega⟩ : CDiv _ _), ?_⟩ | refine ⟨(⟨by decide, by decide, by decide⟩ : CPow _ _), ?_⟩ | refine ⟨(.inl ⟨by omega, by omega⟩ : CMul _ _), ?_⟩ | refine ⟨(.inr ⟨by omega, by omega⟩ : CMul _ _), ?_⟩ | refine Or.inl ⟨_, rfl, ?_⟩ | refine Or.inr ⟨_, rfl, ?_⟩ | refine ⟨_, _, _, _, true, rfl, .ty _, .base (.str _), kit_ty (by decide +kernel), ?_⟩ | refine ⟨_, _, rfl, ⟨by rw [sizeLine_eq]; omega, rfl⟩, ?_⟩ | refine ⟨_, _, rfl, .inl ⟨_, SqL.of (by assumption), rfl⟩, ?_⟩ | refine ⟨_, _, rfl, .inr ⟨_, SqT.of (by assumption), rfl⟩, ?_⟩))
        intro D nD
        refine lc_it walk_str (fun i H' => Same H H' ∧ H' D = some (.lst (((x.cps.toList.take i).map isLow).map V.bl))) ⟨Same.new nD, upd_same⟩ (fun _ _ _ _ => True.intro) ?_ ?_
        · rintro i v H1 H' hi ⟨s1, hD⟩ ⟨rfl, c, hc, rfl⟩
          have e : x.cps.toList[i]? = some c := by simpa using hc
          have fin : ∀ b, b = isLow c → ∃ acc, H' D = some (.lst acc) ∧ acc.length < sizeLine ∧ Same H (upd H' D (.lst (acc ++ [V.bl b]))) ∧ upd H' D (.lst (acc ++ [V.bl b])) D = some (.lst (((x.cps.toList.take (i + 1)).map isLow).map V.bl)) := by
            rintro b rfl
            refine ⟨_, hD, small1000 (by simp only [List.length_map, List.length_take, Array.length_toList]; omega), Same.put s1 nD, ?_⟩
            rw [upd_same, take_snoc isLow e, List.map_append]
            rfl
          refine ⟨rfl, ?_⟩
          (repeat (first | refine ⟨_, rfl, ?_⟩ | refine ⟨rfl, ?_⟩ | refine ⟨_, _, rfl, rfl, ?_⟩ | refine iteT ?_ | refine iteF ?_ | refine ⟨(by show (0 : Int) < _; omega), ?_⟩ | refine ⟨(⟨by omega, by omega⟩ : CDiv _ _), ?_⟩ | refine ⟨(⟨by decide, by decide, by decide⟩ : CPow _ _), ?_⟩ | refine ⟨(.inl ⟨by omega, by omega⟩ : CMul _ _), ?_⟩ | refine ⟨(.inr ⟨by omega, by omega⟩ : CMul _ _), ?_⟩ | refine Or.inl ⟨_, rfl, ?_⟩ | refine Or.inr ⟨_, rfl, ?_⟩ | refine ⟨_, _, _, _, true, rfl, .ty _, .base (.str _), kit_ty (by decide +kernel), ?_⟩ | refine ⟨_, _, rfl, ⟨by rw [sizeLine_eq]; omega, rfl⟩, ?_⟩ | refine ⟨_, _, rfl, .inl ⟨_, SqL.of (by assumption), rfl⟩, ?_⟩ | refine ⟨_, _, rfl, .inr ⟨_, SqT.of (by assumption), rfl⟩, ?_⟩))
          refine ite2 (fun h3 => ?_) (fun h3 => ?_)
          · (repeat (first | refine ⟨_, rfl, ?_⟩ | refine ⟨rfl, ?_⟩ | refine ⟨_, _, rfl, rfl, ?_⟩ | refine iteT ?_ | refine iteF ?_ | refine ⟨(by show (0 : Int) < _; omega), ?_⟩ | refine ⟨(⟨by omega, by omega⟩ : CDiv _ _), ?_⟩ | refine ⟨(⟨by decide, by decide, by decide⟩ : CPow _ _), ?_⟩ | refine ⟨(.inl ⟨by omega, by omega⟩ : CMul _ _), ?_⟩ | refine ⟨(.inr ⟨by omega, by omega⟩ : CMul _ _), ?_⟩ | refine Or.inl ⟨_, rfl, ?_⟩ | refine Or.inr ⟨_, rfl, ?_⟩ | refine ⟨_, _, _, _, true, rfl, .ty _, .base (.str _), kit_ty (by decide +kernel), ?_⟩ | refine ⟨_, _, rfl, ⟨by rw [sizeLine_eq]; omega, rfl⟩, ?_⟩ | refine ⟨_, _, rfl, .inl ⟨_, SqL.of (by assumption), rfl⟩, ?_⟩ | refine ⟨_, _, rfl, .inr ⟨_, SqT.of (by assumption), rfl⟩, ?_⟩))
            rw [from_a] at h3
            exact fin _ (by rw [to_z]; unfold isLow; rw [h3]; rfl)
          · (repeat (first | refine ⟨_, rfl, ?_⟩ | refine ⟨rfl, ?_⟩ | refine ⟨_, _, rfl, rfl, ?_⟩ | refine iteT ?_ | refine iteF ?_ | refine ⟨(by show (0 : Int) < _; omega), ?_⟩ | refine ⟨(⟨by omega, by omega⟩ : CDiv _ _), ?_⟩ | refine ⟨(⟨by decide, by decide, by decide⟩ : CPow _ _), ?_⟩ | refine ⟨(.inl ⟨by omega, by omega⟩ : CMul _ _), ?_⟩ | refine ⟨(.inr ⟨by omega, by omega⟩ : CMul _ _), ?_⟩ | refine Or.inl ⟨_, rfl, ?_⟩ | refine Or.inr ⟨_, rfl, ?_⟩ | refine ⟨_, _, _, _, true, rfl, .ty _, .base (.str _), kit_ty (by decide +kernel), ?_⟩ | refine ⟨_, _, rfl, ⟨by rw [sizeLine_eq]; omega, rfl⟩, ?_⟩ | refine ⟨_, _, rfl, .inl ⟨_, SqL.of (by assumption), rfl⟩, ?_⟩ | refine ⟨_, _, rfl, .inr ⟨_, SqT.of (by assumption), rfl⟩, ?_⟩))
            rw [from_a] at h3
            have h4 : decide (97 ≤ c) = false := by simpa using h3
            exact fin _ (by unfold isLow; rw [h4]; rfl)
        · rintro H1 ⟨s1, hD⟩
          refine ⟨D, _, rfl, SqL.of hD, ?_⟩
          have e := k H1 s1
          rw [isNm_true (by have := of_decide_eq_true h1; omega) (by omega)] at e
          rw [List.take_of_length_le (by simp)]
          exact e
      · rw [decide_eq_false h2]
        (repeat (first | refine ⟨_, rfl, ?_⟩ | refine ⟨rfl, ?_⟩ | refine ⟨_, _, rfl, rfl, ?_⟩ | refine iteT ?_ | refine iteF ?_ | refine ⟨(by show (0 : Int) < _; omega), ?_⟩ | refine ⟨(⟨by omega, by omega⟩ : CDiv _ _), ?_⟩ | refine ⟨(⟨by decide, by decide, by decide⟩ : CPow _ _), ?_⟩ | refine ⟨(.inl ⟨by omega, by omega⟩ : CMul _ _), ?_⟩ | refine ⟨(.inr ⟨by omega, by omega⟩ : CMul _ _), ?_⟩ | refine Or.inl ⟨_, rfl, ?_⟩ | refine Or.inr ⟨_, rfl, ?_⟩ | refine ⟨_, _, _, _, true, rfl, .ty _, .base (.str _), kit_ty (by decide +kernel), ?_⟩ | refine ⟨_, _, rfl, ⟨by rw [sizeLine_eq]; omega, rfl⟩, ?_⟩ | refine ⟨_, _, rfl, .inl ⟨_, SqL.of (by assumption), rfl⟩, ?_⟩ | refine ⟨_, _, rfl, .inr ⟨_, SqT.of (by assumption), rfl⟩, ?_⟩))
        have e := k H (Same.refl H)
        rw [isNm_no (by simp at h1; omega)] at e
        exact e
    · (repeat (first | refine ⟨_, rfl, ?_⟩ | refine ⟨rfl, ?_⟩ | refine ⟨_, _, rfl, rfl, ?_⟩ | refine iteT ?_ | refine iteF ?_ | refine ⟨(by show (0 : Int) < _; omega), ?_⟩ | refine ⟨(⟨by omega, by omega⟩ : CDiv _ _), ?_⟩ | refine ⟨(⟨by decide, by decide, by decide⟩ : CPow _ _), ?_⟩ | refine ⟨(.inl ⟨by omega, by omega⟩ : CMul _ _), ?_⟩ | refine ⟨(.inr ⟨by omega, by omega⟩ : CMul _ _), ?_⟩ | refine Or.inl ⟨_, rfl, ?_⟩ | refine Or.inr ⟨_, rfl, ?_⟩ | refine ⟨_, _, _, _, true, rfl, .ty _, .base (.str _), kit_ty (by decide +kernel), ?_⟩ | refine ⟨_, _, rfl, ⟨by rw [sizeLine_eq]; omega, rfl⟩, ?_⟩ | refine ⟨_, _, rfl, .inl ⟨_, SqL.of (by assumption), rfl⟩, ?_⟩ | refine ⟨_, _, rfl, .inr ⟨_, SqT.of (by assumption), rfl⟩, ?_⟩))
      have e := k H (Same.refl H)
      rw [isNm_no (by simp at h1; omega)] at e
      exact e
theorem cal_law_shuffled (T : Txt K mg A) : Cal P w K mg base 2 "_law_shuffled" spShuffled [] := by
  refine cal0 T.d_law_shuffled T.b_law_shuffled .nil sc_law_shuffled (fun vs H Q E h => ?_) (fun cdv B outer s H vs Q E hr h => ?_)
  · obtain ⟨wl, a, xs, rfl, _⟩ := h
    rfl
  · obtain ⟨wl, a, xs, rfl, hw, ha, hnw, hl, k⟩ := h
    refine ⟨_, (pss_cons (ps_par (i := 2) (j := 3) (by rfl) sc_law_shuffled.nd rfl rfl (by decide) rfl rfl (pa_cons (pe_callTy (listK K) (by rfl) T.z_list (by decide +kernel) (pa_cons (pv 1) pa_nil)) (pa_cons (pe_lst pa_nil) pa_nil)) (by rfl))
 (pss_cons (ps_for PassesOwn.never rfl (pi_range1 (by rfl) T.z_range (pa_cons (pe_callB (lenK K) (by rfl) T.z_len (by decide +kernel) (pa_cons (pv 1) pa_nil)) pa_nil)) (pg_name (i := 4) sc_law_shuffled.nd rfl (by first | exact Or.inl rfl | exact Or.inr rfl)) (pss_one (ps_expr (pe_bm PySem.F.plainAttrs_list PySem.F.slot_list_append PySem.F.type_list_append mt_append (pv 3) (pa_cons (pe_bm PySem.F.plainAttrs_list PySem.F.slot_list_pop PySem.F.type_list_pop mt_popAt (pv 2) (pa_cons (pe_c (cal_law_draw T) hr (by decide) rfl (pa_cons (pv 0) (pa_cons (pe_callB (lenK K) (by rfl) T.z_len (by decide +kernel) (pa_cons (pv 2) pa_nil)) pa_nil))) pa_nil)) pa_nil)))))
 (pss_one (ps_ret (pv 3))))), ?_⟩
    (repeat (first | refine ⟨_, rfl, ?_⟩ | refine ⟨rfl, ?_⟩ | refine ⟨_, _, rfl, rfl, ?_⟩ | refine iteT ?_ | refine iteF ?_ | refine ⟨(by show (0 : Int) < _; omega), ?_⟩ | refine ⟨(⟨by omega, by omega⟩ : CDiv _ _), ?_⟩ | refine ⟨(⟨by decide, by decide, by decide⟩ : CPow _ _), ?_⟩ | refine ⟨(.inl ⟨by omega, by omega⟩ : CMul _ _), ?_⟩ | refine ⟨(.inr ⟨by omega, by omega⟩ : CMul _ _), ?_⟩ | refine Or.inl ⟨_, rfl, ?_⟩ | refine Or.inr ⟨_, rfl, ?_⟩ | refine ⟨_, _, _, _, true, rfl, .ty _, .base (.str _), kit_ty (by decide +kernel), ?_⟩ | refine ⟨_, _, rfl, ⟨by rw [sizeLine_eq]; omega, rfl⟩, ?_⟩ | refine ⟨_, _, rfl, .inl ⟨_, SqL.of (by assumption), rfl⟩, ?_⟩ | refine ⟨_, _, rfl, .inr ⟨_, SqT.of (by assumption), rfl⟩, ?_⟩))
    refine ⟨a, xs, rfl, .inl (SqL.of ha), fun r nr => ?_⟩
    (repeat (first | refine ⟨_, rfl, ?_⟩ | refine ⟨rfl, ?_⟩ | refine ⟨_, _, rfl, rfl, ?_⟩ | refine iteT ?_ | refine iteF ?_ | refine ⟨(by show (0 : Int) < _; omega), ?_⟩ | refine ⟨(⟨by omega, by omega⟩ : CDiv _ _), ?_⟩ | refine ⟨(⟨by decide, by decide, by decide⟩ : CPow _ _), ?_⟩ | refine ⟨(.inl ⟨by omega, by omega⟩ : CMul _ _), ?_⟩ | refine ⟨(.inr ⟨by omega, by omega⟩ : CMul _ _), ?_⟩ | refine Or.inl ⟨_, rfl, ?_⟩ | refine Or.inr ⟨_, rfl, ?_⟩ | refine ⟨_, _, _, _, true, rfl, .ty _, .base (.str _), kit_ty (by decide +kernel), ?_⟩ | refine ⟨_, _, rfl, ⟨by rw [sizeLine_eq]; omega, rfl⟩, ?_⟩ | refine ⟨_, _, rfl, .inl ⟨_, SqL.of (by assumption), rfl⟩, ?_⟩ | refine ⟨_, _, rfl, .inr ⟨_, SqT.of (by assumption), rfl⟩, ?_⟩))
    refine ⟨Nat.zero_le _, fun f nf => ?_⟩
    have nfr : f ≠ r := fun e => by rw [e, upd_same] at nf; cases nf
    have nf' : H f = none := by rw [upd_ne nfr] at nf; exact nf
    have kp0 : Kp wl H (upd (upd H r (.lst xs)) f (.lst [])) := ((Kp.refl wl H).put hw nr).put hw nf'
    have ha1 := kp0.get hw ha hnw
    refine ⟨_, _, rfl, ?_⟩
    (repeat (first | refine ⟨_, rfl, ?_⟩ | refine ⟨rfl, ?_⟩ | refine ⟨_, _, rfl, rfl, ?_⟩ | refine iteT ?_ | refine iteF ?_ | refine ⟨(by show (0 : Int) < _; omega), ?_⟩ | refine ⟨(⟨by omega, by omega⟩ : CDiv _ _), ?_⟩ | refine ⟨(⟨by decide, by decide, by decide⟩ : CPow _ _), ?_⟩ | refine ⟨(.inl ⟨by omega, by omega⟩ : CMul _ _), ?_⟩ | refine ⟨(.inr ⟨by omega, by omega⟩ : CMul _ _), ?_⟩ | refine Or.inl ⟨_, rfl, ?_⟩ | refine Or.inr ⟨_, rfl, ?_⟩ | refine ⟨_, _, _, _, true, rfl, .ty _, .base (.str _), kit_ty (by decide +kernel), ?_⟩ | refine ⟨_, _, rfl, ⟨by rw [sizeLine_eq]; omega, rfl⟩, ?_⟩ | refine ⟨_, _, rfl, .inl ⟨_, SqL.of (by assumption), rfl⟩, ?_⟩ | refine ⟨_, _, rfl, .inr ⟨_, SqT.of (by assumption), rfl⟩, ?_⟩))
    refine ⟨by omega, by omega, for_it walk_range (fun i σ H' => ∃ (rs fs : List V) (v : Option V), σ = [some (.ref wl), some (.ref a), some (.ref r), some (.ref f), v] ∧ Kp wl H H' ∧ H' r = some (.lst rs) ∧ H' f = some (.lst fs) ∧ fs.length = i ∧ (fs ++ rs).Perm xs)
      ⟨xs, [], _, rfl, kp0, Eq.trans (upd_ne nfr.symm) upd_same, upd_same, rfl, List.Perm.refl _⟩ (fun _ _ _ _ _ => True.intro) ?_ ?_⟩
    · rintro i v σ H1 H2 hi ⟨rs, fs, v4, rfl, kp, hR, hF, hlen, pm⟩ ⟨rfl, rfl⟩
      have hrs : rs.length + i = xs.length := by
        have := pm.length_eq
        rw [List.length_append] at this
        omega
      refine ⟨_, rfl, .inl ⟨rfl, _, SqL.of hF⟩, _, rfl, .inl ⟨rfl, _, SqL.of hR⟩, ?_⟩
      (repeat (first | refine ⟨_, rfl, ?_⟩ | refine ⟨rfl, ?_⟩ | refine ⟨_, _, rfl, rfl, ?_⟩ | refine iteT ?_ | refine iteF ?_ | refine ⟨(by show (0 : Int) < _; omega), ?_⟩ | refine ⟨(⟨by omega, by omega⟩ : CDiv _ _), ?_⟩ | refine ⟨(⟨by decide, by decide, by decide⟩ : CPow _ _), ?_⟩ | refine ⟨(.inl ⟨by omega, by omega⟩ : CMul _ _), ?_⟩ | refine ⟨(.inr ⟨by omega, by omega⟩ : CMul _ _), ?_⟩ | refine Or.inl ⟨_, rfl, ?_⟩ | refine Or.inr ⟨_, rfl, ?_⟩ | refine ⟨_, _, _, _, true, rfl, .ty _, .base (.str _), kit_ty (by decide +kernel), ?_⟩ | refine ⟨_, _, rfl, ⟨by rw [sizeLine_eq]; omega, rfl⟩, ?_⟩ | refine ⟨_, _, rfl, .inl ⟨_, SqL.of (by assumption), rfl⟩, ?_⟩ | refine ⟨_, _, rfl, .inr ⟨_, SqT.of (by assumption), rfl⟩, ?_⟩))
      refine ⟨wl, _, rfl, kp.well hw, by omega, by omega, fun n H3 h0 h1 kq => ?_⟩
      have hR3 : H3 r = some (.lst rs) := kq.keep _ _ (hw.ne nr) hR
      have hF3 : H3 f = some (.lst fs) := kq.keep _ _ (hw.ne nf') hF
      have hn : n.toNat < rs.length := by omega
      refine ⟨r, rs, n, n.toNat, rs[n.toNat], rfl, rfl, hR3, by omega, by omega, ?_, by simp, ?_⟩
      · exact seqIndex_of h0 h1
      refine ⟨f, fs, _, rfl, rfl, Eq.trans (upd_ne nfr) hF3, small1000 (by omega), ?_⟩
      refine ⟨rs.eraseIdx n.toNat, fs ++ [rs[n.toNat]], _, rfl, ((kp.trans kq).put hw nr).put hw nf', Eq.trans (upd_ne nfr.symm) upd_same, upd_same, by simp [hlen], ?_⟩
      refine List.Perm.trans ?_ pm
      rw [List.append_assoc]
      exact List.Perm.append_left _ (erase_perm hn)
    · rintro σ H1 ⟨rs, fs, v4, rfl, kp, hR, hF, hlen, pm⟩
      have : rs = [] := by
        have := pm.length_eq
        rw [List.length_append] at this
        exact List.length_eq_zero_iff.mp (by omega)
      subst this
      rw [List.append_nil] at pm
      exact ⟨_, rfl, k f fs H1 nf' kp hF pm⟩
theorem cal_law_shuffledD (T : Txt K mg A) : Cal P w K mg base 2 "_law_shuffled" spShuffledD [] := by
  refine cal0 T.d_law_shuffled T.b_law_shuffled .nil sc_law_shuffled (fun vs H Q E h => ?_) (fun cdv B outer s H vs Q E hr h => ?_)
  · obtain ⟨wl, a, xs, rfl, _⟩ := h
    rfl
  · obtain ⟨wl, a, kvs, rfl, hw, ha, hl, k⟩ := h
    generalize hxs : (kvs.map fun kv => kV kv.1) = xs at k
    have hlx : xs.length = kvs.length := by rw [← hxs, List.length_map]
    refine ⟨_, (pss_cons (ps_par (i := 2) (j := 3) (by rfl) sc_law_shuffled.nd rfl rfl (by decide) rfl rfl (pa_cons (pe_callTy (call_listD rfl) (by rfl) T.z_list (by decide +kernel) (pa_cons (pv 1) pa_nil)) (pa_cons (pe_lst pa_nil) pa_nil)) (by rfl))
 (pss_cons (ps_for PassesOwn.never rfl (pi_range1 (by rfl) T.z_range (pa_cons (pe_callB call_lenD (by rfl) T.z_len (by decide +kernel) (pa_cons (pv 1) pa_nil)) pa_nil)) (pg_name (i := 4) sc_law_shuffled.nd rfl (by first | exact Or.inl rfl | exact Or.inr rfl)) (pss_one (ps_expr (pe_bm PySem.F.plainAttrs_list PySem.F.slot_list_append PySem.F.type_list_append mt_append (pv 3) (pa_cons (pe_bm PySem.F.plainAttrs_list PySem.F.slot_list_pop PySem.F.type_list_pop mt_popAt (pv 2) (pa_cons (pe_c (cal_law_draw T) hr (by decide) rfl (pa_cons (pv 0) (pa_cons (pe_callB (lenK K) (by rfl) T.z_len (by decide +kernel) (pa_cons (pv 2) pa_nil)) pa_nil))) pa_nil)) pa_nil)))))
 (pss_one (ps_ret (pv 3))))), ?_⟩
    (repeat (first | refine ⟨_, rfl, ?_⟩ | refine ⟨rfl, ?_⟩ | refine ⟨_, _, rfl, rfl, ?_⟩ | refine iteT ?_ | refine iteF ?_ | refine ⟨(by show (0 : Int) < _; omega), ?_⟩ | refine ⟨(⟨by omega, by omega⟩ : CDiv _ _), ?_⟩ | refine ⟨(⟨by decide, by decide, by decide⟩ : CPow _ _), ?_⟩ | refine ⟨(.inl ⟨by omega, by omega⟩ : CMul _ _), ?_⟩ | refine ⟨(.inr ⟨by omega, by omega⟩ : CMul _ _), ?_⟩ | refine Or.inl ⟨_, rfl, ?_⟩ | refine Or.inr ⟨_, rfl, ?_⟩ | refine ⟨_, _, _, _, true, rfl, .ty _, .base (.str _), kit_ty (by decide +kernel), ?_⟩ | refine ⟨_, _, rfl, ⟨by rw [sizeLine_eq]; omega, rfl⟩, ?_⟩ | refine ⟨_, _, rfl, .inl ⟨_, SqL.of (by assumption), rfl⟩, ?_⟩ | refine ⟨_, _, rfl, .inr ⟨_, SqT.of (by assumption), rfl⟩, ?_⟩))
    refine ⟨a, kvs, rfl, .inl ha, fun r nr => ?_⟩
    rw [hxs]
    (repeat (first | refine ⟨_, rfl, ?_⟩ | refine ⟨rfl, ?_⟩ | refine ⟨_, _, rfl, rfl, ?_⟩ | refine iteT ?_ | refine iteF ?_ | refine ⟨(by show (0 : Int) < _; omega), ?_⟩ | refine ⟨(⟨by omega, by omega⟩ : CDiv _ _), ?_⟩ | refine ⟨(⟨by decide, by decide, by decide⟩ : CPow _ _), ?_⟩ | refine ⟨(.inl ⟨by omega, by omega⟩ : CMul _ _), ?_⟩ | refine ⟨(.inr ⟨by omega, by omega⟩ : CMul _ _), ?_⟩ | refine Or.inl ⟨_, rfl, ?_⟩ | refine Or.inr ⟨_, rfl, ?_⟩ | refine ⟨_, _, _, _, true, rfl, .ty _, .base (.str _), kit_ty (by decide +kernel), ?_⟩ | refine ⟨_, _, rfl, ⟨by rw [sizeLine_eq]; omega, rfl⟩, ?_⟩ | refine ⟨_, _, rfl, .inl ⟨_, SqL.of (by assumption), rfl⟩, ?_⟩ | refine ⟨_, _, rfl, .inr ⟨_, SqT.of (by assumption), rfl⟩, ?_⟩))
    refine ⟨Nat.zero_le _, fun f nf => ?_⟩
    have nfr : f ≠ r := fun e => by rw [e, upd_same] at nf; cases nf
    have nf' : H f = none := by rw [upd_ne nfr] at nf; exact nf
    have kp0 : Kp wl H (upd (upd H r (.lst xs)) f (.lst [])) := ((Kp.refl wl H).put hw nr).put hw nf'
    have ha1 := kp0.get hw ha
    refine ⟨_, _, rfl, ?_⟩
    (repeat (first | refine ⟨_, rfl, ?_⟩ | refine ⟨rfl, ?_⟩ | refine ⟨_, _, rfl, rfl, ?_⟩ | refine iteT ?_ | refine iteF ?_ | refine ⟨(by show (0 : Int) < _; omega), ?_⟩ | refine ⟨(⟨by omega, by omega⟩ : CDiv _ _), ?_⟩ | refine ⟨(⟨by decide, by decide, by decide⟩ : CPow _ _), ?_⟩ | refine ⟨(.inl ⟨by omega, by omega⟩ : CMul _ _), ?_⟩ | refine ⟨(.inr ⟨by omega, by omega⟩ : CMul _ _), ?_⟩ | refine Or.inl ⟨_, rfl, ?_⟩ | refine Or.inr ⟨_, rfl, ?_⟩ | refine ⟨_, _, _, _, true, rfl, .ty _, .base (.str _), kit_ty (by decide +kernel), ?_⟩ | refine ⟨_, _, rfl, ⟨by rw [sizeLine_eq]; omega, rfl⟩, ?_⟩ | refine ⟨_, _, rfl, .inl ⟨_, SqL.of (by assumption), rfl⟩, ?_⟩ | refine ⟨_, _, rfl, .inr ⟨_, SqT.of (by assumption), rfl⟩, ?_⟩))
    refine ⟨a, kvs, rfl, ha1, ?_⟩
    (repeat (first | refine ⟨_, rfl, ?_⟩ | refine ⟨rfl, ?_⟩ | refine ⟨_, _, rfl, rfl, ?_⟩ | refine iteT ?_ | refine iteF ?_ | refine ⟨(by show (0 : Int) < _; omega), ?_⟩ | refine ⟨(⟨by omega, by omega⟩ : CDiv _ _), ?_⟩ | refine ⟨(⟨by decide, by decide, by decide⟩ : CPow _ _), ?_⟩ | refine ⟨(.inl ⟨by omega, by omega⟩ : CMul _ _), ?_⟩ | refine ⟨(.inr ⟨by omega, by omega⟩ : CMul _ _), ?_⟩ | refine Or.inl ⟨_, rfl, ?_⟩ | refine Or.inr ⟨_, rfl, ?_⟩ | refine ⟨_, _, _, _, true, rfl, .ty _, .base (.str _), kit_ty (by decide +kernel), ?_⟩ | refine ⟨_, _, rfl, ⟨by rw [sizeLine_eq]; omega, rfl⟩, ?_⟩ | refine ⟨_, _, rfl, .inl ⟨_, SqL.of (by assumption), rfl⟩, ?_⟩ | refine ⟨_, _, rfl, .inr ⟨_, SqT.of (by assumption), rfl⟩, ?_⟩))
    refine ⟨by omega, by omega, for_it walk_range (fun i σ H' => ∃ (rs fs : List V) (v : Option V), σ = [some (.ref wl), some (.ref a), some (.ref r), some (.ref f), v] ∧ Kp wl H H' ∧ H' r = some (.lst rs) ∧ H' f = some (.lst fs) ∧ fs.length = i ∧ (fs ++ rs).Perm xs)
      ⟨xs, [], _, rfl, kp0, Eq.trans (upd_ne nfr.symm) upd_same, upd_same, rfl, List.Perm.refl _⟩ (fun _ _ _ _ _ => True.intro) ?_ ?_⟩
    · rintro i v σ H1 H2 hi ⟨rs, fs, v4, rfl, kp, hR, hF, hlen, pm⟩ ⟨rfl, rfl⟩
      have hrs : rs.length + i = xs.length := by
        have := pm.length_eq
        rw [List.length_append] at this
        omega
      refine ⟨_, rfl, .inl ⟨rfl, _, SqL.of hF⟩, _, rfl, .inl ⟨rfl, _, SqL.of hR⟩, ?_⟩
      (repeat (first | refine ⟨_, rfl, ?_⟩ | refine ⟨rfl, ?_⟩ | refine ⟨_, _, rfl, rfl, ?_⟩ | refine iteT ?_ | refine iteF ?_ | refine ⟨(by show (0 : Int) < _; omega), ?_⟩ | refine ⟨(⟨by omega, by omega⟩ : CDiv _ _), ?_⟩ | refine ⟨(⟨by decide, by decide, by decide⟩ : CPow _ _), ?_⟩ | refine ⟨(.inl ⟨by omega, by omega⟩ : CMul _ _), ?_⟩ | refine ⟨(.inr ⟨by omega, by omega⟩ : CMul _ _), ?_⟩ | refine Or.inl ⟨_, rfl, ?_⟩ | refine Or.inr ⟨_, rfl, ?_⟩ | refine ⟨_, _, _, _, true, rfl, .ty _, .base (.str _), kit_ty (by decide +kernel), ?_⟩ | refine ⟨_, _, rfl, ⟨by rw [sizeLine_eq]; omega, rfl⟩, ?_⟩ | refine ⟨_, _, rfl, .inl ⟨_, SqL.of (by assumption), rfl⟩, ?_⟩ | refine ⟨_, _, rfl, .inr ⟨_, SqT.of (by assumption), rfl⟩, ?_⟩))
      refine ⟨wl, _, rfl, kp.well hw, by omega, by omega, fun n H3 h0 h1 kq => ?_⟩
      have hR3 : H3 r = some (.lst rs) := kq.keep _ _ (hw.ne nr) hR
      have hF3 : H3 f = some (.lst fs) := kq.keep _ _ (hw.ne nf') hF
      have hn : n.toNat < rs.length := by omega
      refine ⟨r, rs, n, n.toNat, rs[n.toNat], rfl, rfl, hR3, by omega, by omega, ?_, by simp, ?_⟩
      · exact seqIndex_of h0 h1
      refine ⟨f, fs, _, rfl, rfl, Eq.trans (upd_ne nfr) hF3, small1000 (by omega), ?_⟩
      refine ⟨rs.eraseIdx n.toNat, fs ++ [rs[n.toNat]], _, rfl, ((kp.trans kq).put hw nr).put hw nf', Eq.trans (upd_ne nfr.symm) upd_same, upd_same, by simp [hlen], ?_⟩
      refine List.Perm.trans ?_ pm
      rw [List.append_assoc]
      exact List.Perm.append_left _ (erase_perm hn)
    · rintro σ H1 ⟨rs, fs, v4, rfl, kp, hR, hF, hlen, pm⟩
      have : rs = [] := by
        have := pm.length_eq
        rw [List.length_append] at this
        exact List.length_eq_zero_iff.mp (by omega)
      subst this
      rw [List.append_nil] at pm
      exact ⟨_, rfl, k f fs H1 nf' kp hF pm⟩
theorem at_is_name (T : Txt K mg A) : C8.CalAt P w K mg base 1 A.f_is_name spIsName := by
  have c := cal_is_name (P := P) (w := w) (base := base) T
  obtain ⟨f, fd, ps, ds, F, hm, kp, b, d⟩ := c.ex
  have e := hm.symm.trans T.d_is_name.mgf
  cases e
  cases d
  exact ⟨fd, ps, F, kp, b⟩
theorem cal_first_wrong (T : Txt K mg A) : Cal P w K mg base 2 "first_wrong" (spFirst A.f_is_name) [] := by
  refine cal0 T.d_first_wrong T.b_first_wrong .nil sc_first_wrong (fun vs H Q E h => ?_) (fun cdv B outer s H vs Q E hr h => ?_)
  · obtain ⟨a, xs, rfl, _⟩ := h
    rfl
  · obtain ⟨a, xs, rfl, ha, hl, hx, k⟩ := h
    refine ⟨_, (pss_cons (ps_set (i := 2) sc_first_wrong.nd rfl (by first | exact Or.inl rfl | exact Or.inr rfl) (pe_callTy0 cr_set0K (by rfl) T.z_set (by decide +kernel)))
 (pss_cons (ps_for PassesOwn.never rfl (pi_enum (by rfl) T.z_enumerate (pa_cons (pv 0) pa_nil)) (pg_tup (by rfl) (pgs_cons (pg_name (i := 3) sc_first_wrong.nd rfl (by first | exact Or.inl rfl | exact Or.inr rfl)) (pgs_cons (pg_name (i := 4) sc_first_wrong.nd rfl (by first | exact Or.inl rfl | exact Or.inr rfl)) pgs_nil))) (pss_cons (ps_if (PW.pt (pw_or (pt_not (pt_val (pe_cl (i := 1) (at_is_name T) hr (by decide) rfl (by first | exact Or.inl rfl | exact Or.inr (Or.inl rfl) | exact Or.inr (Or.inr rfl)) (pa_cons (pv 4) pa_nil)))) (pw_or1 (pt_cmpR or_sinK (pv 4) (pv 2) rfl)))) (pss_one (ps_ret (pv 3))) pss_nil)
 (pss_one (ps_expr (pe_saddK (pv 2) (pa_cons (pv 4) pa_nil))))))
 (pss_one (ps_ret pe_non)))), ?_⟩
    refine ⟨rfl, fun se nse => ?_⟩
    have s0 : Same H (upd H se (SetK P w se (fun _ => false) 0)) := Same.new nse
    (repeat (first | refine ⟨_, rfl, ?_⟩ | refine ⟨rfl, ?_⟩ | refine ⟨_, _, rfl, rfl, ?_⟩ | refine iteT ?_ | refine iteF ?_ | refine ⟨(by show (0 : Int) < _; omega), ?_⟩ | refine ⟨(⟨by omega, by omega⟩ : CDiv _ _), ?_⟩ | refine ⟨(⟨by decide, by decide, by decide⟩ : CPow _ _), ?_⟩ | refine ⟨(.inl ⟨by omega, by omega⟩ : CMul _ _), ?_⟩ | refine ⟨(.inr ⟨by omega, by omega⟩ : CMul _ _), ?_⟩ | refine Or.inl ⟨_, rfl, ?_⟩ | refine Or.inr ⟨_, rfl, ?_⟩ | refine ⟨_, _, _, _, true, rfl, .ty _, .base (.str _), kit_ty (by decide +kernel), ?_⟩ | refine ⟨_, _, rfl, ⟨by rw [sizeLine_eq]; omega, rfl⟩, ?_⟩ | refine ⟨_, _, rfl, .inl ⟨_, SqL.of (by assumption), rfl⟩, ?_⟩ | refine ⟨_, _, rfl, .inr ⟨_, SqT.of (by assumption), rfl⟩, ?_⟩))
    refine ⟨a, _, rfl, SqL.of (s0 _ _ ha), for_it walk_enum (fun i σ H' => ∃ (S : Key → Bool) (n : Nat) (v3 v4 : Option V), σ = [some (.ref a), some (.ref A.f_is_name), some (.ref se), v3, v4] ∧ Same H H' ∧ H' se = some (SetK P w se S n) ∧ n ≤ i ∧ (∀ x, S (.inr x) = decide (x ∈ xs.take i)) ∧ ∀ j, j < i → okAt xs j = true)
      ⟨_, 0, _, _, rfl, s0, upd_same, Nat.le_refl _, fun x => by simp, fun j hj => absurd hj (Nat.not_lt_zero _)⟩ (fun i σ H' _ ⟨_, _, _, _, _, s1, _⟩ => SqL.of (s1 _ _ ha)) ?_ ?_⟩
    · rintro i v σ H1 H2 hi ⟨S, n, v3, v4, rfl, s1, hS, hn, hmem, hok⟩ ⟨tp, y1, y2, rfl, ntp, rfl, e1, e2⟩
      rw [List.length_map] at hi
      obtain ⟨x, hxi⟩ : ∃ x, xs[i]? = some x := ⟨xs[i], by simp [hi]⟩
      have e2 : (xs.map V.str)[i]? = some y2 := e2
      have ey : y2 = V.str x := by
        rw [List.getElem?_map, hxi] at e2
        exact (Option.some.inj e2).symm
      cases Option.some.inj e1
      subst ey
      have hlx := hx x (List.mem_of_getElem? hxi)
      have s2 : Same H (upd H1 tp (.tup [V.int (i : Nat), V.str x])) := fun b o e => by rw [upd_ne (ne_of_none (s1 _ _ e) ntp)]; exact s1 _ _ e
      have ne : se ≠ tp := ne_of_none hS ntp
      refine ⟨tp, _, rfl, SqT.of upd_same, rfl, _, _, rfl, _, _, rfl, rfl, rfl, _, rfl, x, rfl, hlx, fun H3 s3 => ⟨_, rfl, ?_⟩⟩
      have s4 : Same H H3 := s2.trans s3
      have hS3 : H3 se = some (SetK P w se S n) := s3 _ _ (Eq.trans (upd_ne ne) hS)
      cases hnm : isNm x with
      | false =>
        (repeat (first | refine ⟨_, rfl, ?_⟩ | refine ⟨rfl, ?_⟩ | refine ⟨_, _, rfl, rfl, ?_⟩ | refine iteT ?_ | refine iteF ?_ | refine ⟨(by show (0 : Int) < _; omega), ?_⟩ | refine ⟨(⟨by omega, by omega⟩ : CDiv _ _), ?_⟩ | refine ⟨(⟨by decide, by decide, by decide⟩ : CPow _ _), ?_⟩ | refine ⟨(.inl ⟨by omega, by omega⟩ : CMul _ _), ?_⟩ | refine ⟨(.inr ⟨by omega, by omega⟩ : CMul _ _), ?_⟩ | refine Or.inl ⟨_, rfl, ?_⟩ | refine Or.inr ⟨_, rfl, ?_⟩ | refine ⟨_, _, _, _, true, rfl, .ty _, .base (.str _), kit_ty (by decide +kernel), ?_⟩ | refine ⟨_, _, rfl, ⟨by rw [sizeLine_eq]; omega, rfl⟩, ?_⟩ | refine ⟨_, _, rfl, .inl ⟨_, SqL.of (by assumption), rfl⟩, ?_⟩ | refine ⟨_, _, rfl, .inr ⟨_, SqT.of (by assumption), rfl⟩, ?_⟩))
        have e : fwF xs = some i := fw_some hi (by unfold okAt; rw [hxi]; simp [hnm]) hok
        have q := k H3 s4
        unfold fwV at q
        rw [e] at q
        exact q
      | true =>
        refine ⟨_, rfl, _, rfl, .inr x, se, S, n, rfl, rfl, hS3, _, rfl, ?_⟩
        have ei : (if false = true then !S (Sum.inr x) else S (Sum.inr x)) = decide (x ∈ xs.take i) := by rw [if_neg Bool.false_ne_true, hmem]
        by_cases hin : x ∈ xs.take i
        · rw [ei, decide_eq_true hin]
          (repeat (first | refine ⟨_, rfl, ?_⟩ | refine ⟨rfl, ?_⟩ | refine ⟨_, _, rfl, rfl, ?_⟩ | refine iteT ?_ | refine iteF ?_ | refine ⟨(by show (0 : Int) < _; omega), ?_⟩ | refine ⟨(⟨by omega, by omega⟩ : CDiv _ _), ?_⟩ | refine ⟨(⟨by decide, by decide, by decide⟩ : CPow _ _), ?_⟩ | refine ⟨(.inl ⟨by omega, by omega⟩ : CMul _ _), ?_⟩ | refine ⟨(.inr ⟨by omega, by omega⟩ : CMul _ _), ?_⟩ | refine Or.inl ⟨_, rfl, ?_⟩ | refine Or.inr ⟨_, rfl, ?_⟩ | refine ⟨_, _, _, _, true, rfl, .ty _, .base (.str _), kit_ty (by decide +kernel), ?_⟩ | refine ⟨_, _, rfl, ⟨by rw [sizeLine_eq]; omega, rfl⟩, ?_⟩ | refine ⟨_, _, rfl, .inl ⟨_, SqL.of (by assumption), rfl⟩, ?_⟩ | refine ⟨_, _, rfl, .inr ⟨_, SqT.of (by assumption), rfl⟩, ?_⟩))
          have e : fwF xs = some i := fw_some hi (by unfold okAt; rw [hxi]; simp [hnm, hin]) hok
          have q := k H3 s4
          unfold fwV at q
          rw [e] at q
          exact q
        · rw [ei, decide_eq_false hin]
          refine iteF ⟨_, rfl, ⟨se, S, n, rfl, hS3⟩, _, rfl, se, .inr x, S, n, rfl, rfl, hS3, ?_, _, _, _, _, rfl, fun b o e => ?_, upd_same, ?_, fun y => ?_, fun j hj => ?_⟩
          · have : (1001 : Nat) < scanBound := by decide
            omega
          · rw [upd_ne (ne_of_none e nse)]
            exact s4 _ _ e
          · split <;> omega
          · rw [List.take_succ, hxi, hmem]
            by_cases hy : y = x
            · subst hy
              simp
            · simp [hy]
          · by_cases e : j = i
            · subst e
              unfold okAt
              rw [hxi]
              simp [hnm, hin]
            · exact hok j (by omega)
    · rintro σ H1 ⟨S, n, v3, v4, rfl, s1, hS, hn, hmem, hok⟩
      rw [List.length_map] at hok
      have q := k H1 s1
      unfold fwV at q
      rw [fw_none (fun j hj => hok j hj)] at q
      exact q
end
end BF
set_option Elab.async false
set_option linter.all false
set_option maxRecDepth 100000
set_option maxHeartbeats 4000000
namespace BF
open PySem PySem.Spec PyProof.Rows L2
open C8 (Cal CalAt Met Mak cal0 met0 mak0 fn0 pe_c pe_mk pe_mt pe_mt0 pe_gc fnScope fnBody fnArgs fnScope_by)
open SX
section
variable {P : Program} {w : World} {K : PySem.W.Frag} {mg : Str → Option Value} {base : Heap} {A : Ad}
theorem cal_law_names (T : Txt K mg A) : Cal P w K mg base 3 "_law_names" spNames [] := by
  refine cal0 T.d_law_names T.b_law_names .nil sc_law_names (fun vs H Q E h => ?_) (fun cdv B outer s H vs Q E hr h => ?_)
  · obtain ⟨wl, m, rfl, _⟩ := h
    rfl
  · obtain ⟨wl, m, rfl, hw, h0, hm, k⟩ := h
    refine ⟨_, (pss_cons (ps_set (i := 2) sc_law_names.nd rfl (by first | exact Or.inl rfl | exact Or.inr rfl) pe_str)
 (pss_cons (ps_set (i := 3) sc_law_names.nd rfl (by first | exact Or.inl rfl | exact Or.inr rfl) (pe_lst pa_nil))
 (pss_cons (ps_for PassesOwn.never rfl (pi_range1 (by rfl) T.z_range (pa_cons (pv 1) pa_nil)) (pg_name (i := 4) sc_law_names.nd rfl (by first | exact Or.inl rfl | exact Or.inr rfl)) (pss_cons (ps_set (i := 5) sc_law_names.nd rfl (by first | exact Or.inl rfl | exact Or.inr rfl) (pe_slice C8.sl_txt (pe_join pe_str (pe_lc (own := [("j", 7)]) (g := gName 7) rfl sc_law_names.nd (pi_range1 (by rfl) T.z_range (pa_cons (pe_op op_add pe_int (pe_op op_mul (pe_c (cal_law_draw T) hr (by decide) rfl (pa_cons (pv 0) (pa_cons pe_int pa_nil))) (pe_c (cal_law_draw T) hr (by decide) rfl (pa_cons (pv 0) (pa_cons pe_int pa_nil))))) pa_nil)) (blkOk_by (own := [("j", 7)]) (N := N_law_names) (sc := fnScope s_law_names) (by decide +kernel)) (fun _ _ _ _ _ => (pg_name (i := 7) sc_law_names.nd rfl (by first | exact Or.inl rfl | exact Or.inr rfl))) (fun _ _ _ _ _ => pts_nil) (fun _ _ _ _ _ => (pe_c (cal_law_pick T) hr (by decide) rfl (pa_cons (pv 0) (pa_cons (pv 2) pa_nil)))))) po_none (po_some pe_int)))
 (pss_cons (ps_for PassesOwn.never rfl (pi_str (pv 2)) (pg_name (i := 6) sc_law_names.nd rfl (by first | exact Or.inl rfl | exact Or.inr rfl)) (pss_one (ps_if (PW.pt (pw_and (pt_cmpR (in_seqK K) (pv 5) (pv 3) rfl) (pw_and1 (pt_cmpR (notIn_seqK K) (pv 6) (pv 3) rfl)))) (pss_one (ps_set (i := 5) sc_law_names.nd rfl (by first | exact Or.inl rfl | exact Or.inr rfl) (pv 6))) pss_nil)))
 (pss_one (ps_expr (pe_bm PySem.F.plainAttrs_list PySem.F.slot_list_append PySem.F.type_list_append mt_append (pv 3) (pa_cons (pv 5) pa_nil)))))))
 (pss_one (ps_ret (pv 3)))))), ?_⟩
    (repeat (first | refine ⟨_, rfl, ?_⟩ | refine ⟨rfl, ?_⟩ | refine ⟨_, _, rfl, rfl, ?_⟩ | refine iteT ?_ | refine iteF ?_ | refine ⟨(by show (0 : Int) < _; omega), ?_⟩ | refine ⟨(⟨by omega, by omega⟩ : CDiv _ _), ?_⟩ | refine ⟨(⟨by decide, by decide, by decide⟩ : CPow _ _), ?_⟩ | refine ⟨(.inl ⟨by omega, by omega⟩ : CMul _ _), ?_⟩ | refine ⟨(.inr ⟨by omega, by omega⟩ : CMul _ _), ?_⟩ | refine Or.inl ⟨_, rfl, ?_⟩ | refine Or.inr ⟨_, rfl, ?_⟩ | refine ⟨_, _, _, _, true, rfl, .ty _, .base (.str _), kit_ty (by decide +kernel), ?_⟩ | refine ⟨_, _, rfl, ⟨by rw [sizeLine_eq]; omega, rfl⟩, ?_⟩ | refine ⟨_, _, rfl, .inl ⟨_, SqL.of (by assumption), rfl⟩, ?_⟩ | refine ⟨_, _, rfl, .inr ⟨_, SqT.of (by assumption), rfl⟩, ?_⟩))
    refine ⟨Nat.zero_le _, fun f nf => ?_⟩
    have kp0 : Kp wl H (upd H f (.lst [])) := (Kp.refl wl H).put hw nf
    (repeat (first | refine ⟨_, rfl, ?_⟩ | refine ⟨rfl, ?_⟩ | refine ⟨_, _, rfl, rfl, ?_⟩ | refine iteT ?_ | refine iteF ?_ | refine ⟨(by show (0 : Int) < _; omega), ?_⟩ | refine ⟨(⟨by omega, by omega⟩ : CDiv _ _), ?_⟩ | refine ⟨(⟨by decide, by decide, by decide⟩ : CPow _ _), ?_⟩ | refine ⟨(.inl ⟨by omega, by omega⟩ : CMul _ _), ?_⟩ | refine ⟨(.inr ⟨by omega, by omega⟩ : CMul _ _), ?_⟩ | refine Or.inl ⟨_, rfl, ?_⟩ | refine Or.inr ⟨_, rfl, ?_⟩ | refine ⟨_, _, _, _, true, rfl, .ty _, .base (.str _), kit_ty (by decide +kernel), ?_⟩ | refine ⟨_, _, rfl, ⟨by rw [sizeLine_eq]; omega, rfl⟩, ?_⟩ | refine ⟨_, _, rfl, .inl ⟨_, SqL.of (by assumption), rfl⟩, ?_⟩ | refine ⟨_, _, rfl, .inr ⟨_, SqT.of (by assumption), rfl⟩, ?_⟩))
    refine ⟨by omega, by omega, for_it walk_range (fun i σ H' => ∃ (xs : List Str) (v4 v5 v6 v7 : Option V), σ = [some (.ref wl), some (.int m), some (.str letters), some (.ref f), v4, v5, v6, v7] ∧ Kp wl H H' ∧ H' f = some (.lst (xs.map V.str)) ∧ xs.length = i ∧ ∀ x ∈ xs, Short x)
      ⟨[], _, _, _, _, rfl, kp0, upd_same, rfl, fun x hx => by cases hx⟩ (fun _ _ _ _ _ => True.intro) ?_ ?_⟩
    · rintro i v σ H1 H2 hi ⟨xs, v4, v5, v6, v7, rfl, kp, hF, hlen, hsh⟩ ⟨rfl, rfl⟩
      (repeat (first | refine ⟨_, rfl, ?_⟩ | refine ⟨rfl, ?_⟩ | refine ⟨_, _, rfl, rfl, ?_⟩ | refine iteT ?_ | refine iteF ?_ | refine ⟨(by show (0 : Int) < _; omega), ?_⟩ | refine ⟨(⟨by omega, by omega⟩ : CDiv _ _), ?_⟩ | refine ⟨(⟨by decide, by decide, by decide⟩ : CPow _ _), ?_⟩ | refine ⟨(.inl ⟨by omega, by omega⟩ : CMul _ _), ?_⟩ | refine ⟨(.inr ⟨by omega, by omega⟩ : CMul _ _), ?_⟩ | refine Or.inl ⟨_, rfl, ?_⟩ | refine Or.inr ⟨_, rfl, ?_⟩ | refine ⟨_, _, _, _, true, rfl, .ty _, .base (.str _), kit_ty (by decide +kernel), ?_⟩ | refine ⟨_, _, rfl, ⟨by rw [sizeLine_eq]; omega, rfl⟩, ?_⟩ | refine ⟨_, _, rfl, .inl ⟨_, SqL.of (by assumption), rfl⟩, ?_⟩ | refine ⟨_, _, rfl, .inr ⟨_, SqT.of (by assumption), rfl⟩, ?_⟩))
      refine ⟨⟨_, rfl⟩, ?_⟩
      (repeat (first | refine ⟨_, rfl, ?_⟩ | refine ⟨rfl, ?_⟩ | refine ⟨_, _, rfl, rfl, ?_⟩ | refine iteT ?_ | refine iteF ?_ | refine ⟨(by show (0 : Int) < _; omega), ?_⟩ | refine ⟨(⟨by omega, by omega⟩ : CDiv _ _), ?_⟩ | refine ⟨(⟨by decide, by decide, by decide⟩ : CPow _ _), ?_⟩ | refine ⟨(.inl ⟨by omega, by omega⟩ : CMul _ _), ?_⟩ | refine ⟨(.inr ⟨by omega, by omega⟩ : CMul _ _), ?_⟩ | refine Or.inl ⟨_, rfl, ?_⟩ | refine Or.inr ⟨_, rfl, ?_⟩ | refine ⟨_, _, _, _, true, rfl, .ty _, .base (.str _), kit_ty (by decide +kernel), ?_⟩ | refine ⟨_, _, rfl, ⟨by rw [sizeLine_eq]; omega, rfl⟩, ?_⟩ | refine ⟨_, _, rfl, .inl ⟨_, SqL.of (by assumption), rfl⟩, ?_⟩ | refine ⟨_, _, rfl, .inr ⟨_, SqT.of (by assumption), rfl⟩, ?_⟩))
      refine ⟨wl, 3, rfl, kp.well hw, by omega, by omega, fun n1 H3 a1 b1 k1 => ?_⟩
      (repeat (first | refine ⟨_, rfl, ?_⟩ | refine ⟨rfl, ?_⟩ | refine ⟨_, _, rfl, rfl, ?_⟩ | refine iteT ?_ | refine iteF ?_ | refine ⟨(by show (0 : Int) < _; omega), ?_⟩ | refine ⟨(⟨by omega, by omega⟩ : CDiv _ _), ?_⟩ | refine ⟨(⟨by decide, by decide, by decide⟩ : CPow _ _), ?_⟩ | refine ⟨(.inl ⟨by omega, by omega⟩ : CMul _ _), ?_⟩ | refine ⟨(.inr ⟨by omega, by omega⟩ : CMul _ _), ?_⟩ | refine Or.inl ⟨_, rfl, ?_⟩ | refine Or.inr ⟨_, rfl, ?_⟩ | refine ⟨_, _, _, _, true, rfl, .ty _, .base (.str _), kit_ty (by decide +kernel), ?_⟩ | refine ⟨_, _, rfl, ⟨by rw [sizeLine_eq]; omega, rfl⟩, ?_⟩ | refine ⟨_, _, rfl, .inl ⟨_, SqL.of (by assumption), rfl⟩, ?_⟩ | refine ⟨_, _, rfl, .inr ⟨_, SqT.of (by assumption), rfl⟩, ?_⟩))
      refine ⟨wl, 4, rfl, (kp.trans k1).well hw, by omega, by omega, fun n2 H4 a2 b2 k2 => ?_⟩
      have kp4 := (kp.trans k1).trans k2
      have hp : 0 ≤ n1 * n2 ∧ n1 * n2 ≤ 6 ∧ n1 * n2 ≠ 5 := by
        have : n1 = 0 ∨ n1 = 1 ∨ n1 = 2 := by omega
        rcases this with rfl | rfl | rfl <;> omega
      (repeat (first | refine ⟨_, rfl, ?_⟩ | refine ⟨rfl, ?_⟩ | refine ⟨_, _, rfl, rfl, ?_⟩ | refine iteT ?_ | refine iteF ?_ | refine ⟨(by show (0 : Int) < _; omega), ?_⟩ | refine ⟨(⟨by omega, by omega⟩ : CDiv _ _), ?_⟩ | refine ⟨(⟨by decide, by decide, by decide⟩ : CPow _ _), ?_⟩ | refine ⟨(.inl ⟨by omega, by omega⟩ : CMul _ _), ?_⟩ | refine ⟨(.inr ⟨by omega, by omega⟩ : CMul _ _), ?_⟩ | refine Or.inl ⟨_, rfl, ?_⟩ | refine Or.inr ⟨_, rfl, ?_⟩ | refine ⟨_, _, _, _, true, rfl, .ty _, .base (.str _), kit_ty (by decide +kernel), ?_⟩ | refine ⟨_, _, rfl, ⟨by rw [sizeLine_eq]; omega, rfl⟩, ?_⟩ | refine ⟨_, _, rfl, .inl ⟨_, SqL.of (by assumption), rfl⟩, ?_⟩ | refine ⟨_, _, rfl, .inr ⟨_, SqT.of (by assumption), rfl⟩, ?_⟩))
      refine ⟨by omega, by omega, fun D nD => ?_⟩
      have nD0 : H D = none := kp4.free hw nD
      have nfD : f ≠ D := ne_of_none (k2.keep _ _ (hw.ne nf) (k1.keep _ _ (hw.ne nf) hF)) nD
      refine lc_it walk_range (fun i H' => ∃ cs : List Nat, Kp wl H H' ∧ H' f = some (.lst (xs.map V.str)) ∧ H' D = some (.lst (((cs.map fun c => [c]).map S).map V.str)) ∧ cs.length = i ∧ ∀ c ∈ cs, isLow c = true)
        ⟨[], kp4.put hw nD0, Eq.trans (upd_ne nfD) (k2.keep _ _ (hw.ne nf) (k1.keep _ _ (hw.ne nf) hF)), upd_same, rfl, fun c hc => by cases hc⟩ (fun _ _ _ _ => True.intro) ?_ ?_
      · rintro j v H5 H6 hj ⟨cs, kp5, hF5, hD5, hcl, hlow⟩ ⟨rfl, rfl⟩
        refine ⟨rfl, ?_⟩
        (repeat (first | refine ⟨_, rfl, ?_⟩ | refine ⟨rfl, ?_⟩ | refine ⟨_, _, rfl, rfl, ?_⟩ | refine iteT ?_ | refine iteF ?_ | refine ⟨(by show (0 : Int) < _; omega), ?_⟩ | refine ⟨(⟨by omega, by omega⟩ : CDiv _ _), ?_⟩ | refine ⟨(⟨by decide, by decide, by decide⟩ : CPow _ _), ?_⟩ | refine ⟨(.inl ⟨by omega, by omega⟩ : CMul _ _), ?_⟩ | refine ⟨(.inr ⟨by omega, by omega⟩ : CMul _ _), ?_⟩ | refine Or.inl ⟨_, rfl, ?_⟩ | refine Or.inr ⟨_, rfl, ?_⟩ | refine ⟨_, _, _, _, true, rfl, .ty _, .base (.str _), kit_ty (by decide +kernel), ?_⟩ | refine ⟨_, _, rfl, ⟨by rw [sizeLine_eq]; omega, rfl⟩, ?_⟩ | refine ⟨_, _, rfl, .inl ⟨_, SqL.of (by assumption), rfl⟩, ?_⟩ | refine ⟨_, _, rfl, .inr ⟨_, SqT.of (by assumption), rfl⟩, ?_⟩))
        refine ⟨wl, _, rfl, kp5.well hw, .inr ⟨letters, rfl, by rw [letters_len]; omega, by rw [letters_len]; omega, fun c H7 hc k7 => ?_⟩⟩
        have nDw := hw.ne nD0
        refine ⟨_, k7.keep _ _ nDw hD5, small1000 (by simp only [List.length_map]; omega), cs ++ [c], (kp5.trans k7).put hw nD0, Eq.trans (upd_ne nfD) (k7.keep _ _ (hw.ne nf) hF5), ?_, by simp [hcl], ?_⟩
        · rw [upd_same]
          simp
        · intro d hd
          rcases List.mem_append.mp hd with hd | hd
          · exact hlow d hd
          · rw [List.mem_singleton.mp hd]
            exact (letters_mem c).mp hc
      · rintro H5 ⟨cs, kp5, hF5, hD5, hcl, hlow⟩
        have hcs : 1 ≤ cs.length ∧ cs.length ≤ 7 ∧ cs.length ≠ 6 := by omega
        refine ⟨_, D, (cs.map fun c => [c]).map S, rfl, rfl, .inl (SqL.of hD5), ?_, ?_⟩
        · rw [bf_sum, List.length_map, List.length_map, show (Str.ofString "").length = 0 by decide +kernel]
          omega
        (repeat (first | refine ⟨_, rfl, ?_⟩ | refine ⟨rfl, ?_⟩ | refine ⟨_, _, rfl, rfl, ?_⟩ | refine iteT ?_ | refine iteF ?_ | refine ⟨(by show (0 : Int) < _; omega), ?_⟩ | refine ⟨(⟨by omega, by omega⟩ : CDiv _ _), ?_⟩ | refine ⟨(⟨by decide, by decide, by decide⟩ : CPow _ _), ?_⟩ | refine ⟨(.inl ⟨by omega, by omega⟩ : CMul _ _), ?_⟩ | refine ⟨(.inr ⟨by omega, by omega⟩ : CMul _ _), ?_⟩ | refine Or.inl ⟨_, rfl, ?_⟩ | refine Or.inr ⟨_, rfl, ?_⟩ | refine ⟨_, _, _, _, true, rfl, .ty _, .base (.str _), kit_ty (by decide +kernel), ?_⟩ | refine ⟨_, _, rfl, ⟨by rw [sizeLine_eq]; omega, rfl⟩, ?_⟩ | refine ⟨_, _, rfl, .inl ⟨_, SqL.of (by assumption), rfl⟩, ?_⟩ | refine ⟨_, _, rfl, .inr ⟨_, SqT.of (by assumption), rfl⟩, ?_⟩))
        rw [bf_join]
        refine ⟨by rw [S_len, sizeLine_eq]; omega, ?_⟩
        rw [slice_8 (by omega)]
        have hsc : Short (S cs) := short_of hcs.1 hcs.2.1 hcs.2.2 hlow
        (repeat (first | refine ⟨_, rfl, ?_⟩ | refine ⟨rfl, ?_⟩ | refine ⟨_, _, rfl, rfl, ?_⟩ | refine iteT ?_ | refine iteF ?_ | refine ⟨(by show (0 : Int) < _; omega), ?_⟩ | refine ⟨(⟨by omega, by omega⟩ : CDiv _ _), ?_⟩ | refine ⟨(⟨by decide, by decide, by decide⟩ : CPow _ _), ?_⟩ | refine ⟨(.inl ⟨by omega, by omega⟩ : CMul _ _), ?_⟩ | refine ⟨(.inr ⟨by omega, by omega⟩ : CMul _ _), ?_⟩ | refine Or.inl ⟨_, rfl, ?_⟩ | refine Or.inr ⟨_, rfl, ?_⟩ | refine ⟨_, _, _, _, true, rfl, .ty _, .base (.str _), kit_ty (by decide +kernel), ?_⟩ | refine ⟨_, _, rfl, ⟨by rw [sizeLine_eq]; omega, rfl⟩, ?_⟩ | refine ⟨_, _, rfl, .inl ⟨_, SqL.of (by assumption), rfl⟩, ?_⟩ | refine ⟨_, _, rfl, .inr ⟨_, SqT.of (by assumption), rfl⟩, ?_⟩))
        refine for_it walk_str (fun j σ H' => ∃ (x : Str) (v6 : Option V), σ = [some (.ref wl), some (.int m), some (.str letters), some (.ref f), some (.int (0 + (i : Nat))), some (.str x), v6, v7] ∧ H' = H5 ∧ Short x) ⟨S cs, _, rfl, rfl, hsc⟩ (fun _ _ _ _ _ => True.intro) ?_ ?_
        · rintro j v σ H6 H7 hj ⟨x, v6', rfl, rfl, hx⟩ ⟨rfl, c, hc, rfl⟩
          have hlc : isLow c = true := (letters_mem c).mp (by
            have e : letters.cps.toList[j]? = some c := by simpa using hc
            exact List.mem_of_getElem? e)
          have hs1 : Short (S [c]) := short_of (Nat.le_refl 1) (by show 1 ≤ 7; omega) (by show 1 ≠ 6; omega) (fun d hd => by rw [List.mem_singleton.mp hd]; exact hlc)
          refine ⟨_, rfl, _, rfl, f, _, rfl, .inl (SqL.of hF5), rfl, flat_strs xs, _, rfl, ite2 (fun _ => ?_) (fun _ => ?_)⟩
          · refine ⟨_, rfl, _, rfl, f, _, rfl, .inl (SqL.of hF5), rfl, flat_strs xs, _, rfl, ite2 (fun _ => ?_) (fun _ => ?_)⟩
            · exact ⟨_, rfl, S [c], _, rfl, rfl, hs1⟩
            · exact ⟨x, _, rfl, rfl, hx⟩
          · exact iteF ⟨x, _, rfl, rfl, hx⟩
        · rintro σ H6 ⟨x, v6', rfl, rfl, hx⟩
          refine ⟨_, rfl, .inl ⟨rfl, _, SqL.of hF5⟩, _, rfl, f, _, _, rfl, rfl, hF5, small1000 (by simp; omega), xs ++ [x], _, _, _, _, rfl, kp5.put hw nf, by rw [upd_same]; simp, by simp [hlen], ?_⟩
          intro y hy
          rcases List.mem_append.mp hy with hy | hy
          · exact hsh y hy
          · rw [List.mem_singleton.mp hy]
            exact hx
    · rintro σ H1 ⟨xs, v4, v5, v6, v7, rfl, kp, hF, hlen, hsh⟩
      exact ⟨_, rfl, k f xs H1 nf kp hF (by omega) hsh⟩
end
end BF
set_option Elab.async false
set_option linter.all false
set_option maxRecDepth 100000
set_option maxHeartbeats 4000000
namespace BF
open PySem PySem.Spec PyProof.Rows L2
open C8 (Cal CalAt Met Mak cal0 met0 mak0 fn0 pe_c pe_mk pe_mt pe_mt0 pe_gc fnScope fnBody fnArgs fnScope_by)
open SX
section
variable {X : Cx} {A : Ad} {e : Expr} {ta : TA} {p pos : Pos}
theorem pm_BadPlaces (T : Txt X.K X.mg A) (hr : Room 2 X.A) (ha : PA X [e] ta) (hg : Gl X "BadPlaces" := by rfl) (he : starEach (e :: []) X.env = (false, eval e X.env) :: starEach [] X.env := by rfl) (hpl : (backTo pos (starEach [] X.env)).any (·.1) = false := by rfl) :
    PMk X (.Call (.Name "BadPlaces" p) [e] [] pos) (tErr A.C_BadPlaces "index" ta) :=
  pmk_err T.ox_BadPlaces T.fi_BadPlaces__init T.fn_BadPlaces__init (ok_errinit T.u_BadPlaces__init sc_BadPlaces__init rfl T.ox_BadPlaces T.nx_BadPlaces_index rfl rfl (by decide) (by decide) (fun _ => rfl)) hr T.b_BadPlaces__init hg T.gC_BadPlaces ha (by decide) he hpl
theorem pm_BadTies (T : Txt X.K X.mg A) (hr : Room 2 X.A) (ha : PA X [e] ta) (hg : Gl X "BadTies" := by rfl) (he : starEach (e :: []) X.env = (false, eval e X.env) :: starEach [] X.env := by rfl) (hpl : (backTo pos (starEach [] X.env)).any (·.1) = false := by rfl) :
    PMk X (.Call (.Name "BadTies" p) [e] [] pos) (tErr A.C_BadTies "name" ta) :=
  pmk_err T.ox_BadTies T.fi_BadTies__init T.fn_BadTies__init (ok_errinit T.u_BadTies__init sc_BadTies__init rfl T.ox_BadTies T.nx_BadTies_name rfl rfl (by decide) (by decide) (fun _ => rfl)) hr T.b_BadTies__init hg T.gC_BadTies ha (by decide) he hpl
theorem pm_TooMany (T : Txt X.K X.mg A) (hr : Room 2 X.A) (ha : PA X [e] ta) (hg : Gl X "TooMany" := by rfl) (he : starEach (e :: []) X.env = (false, eval e X.env) :: starEach [] X.env := by rfl) (hpl : (backTo pos (starEach [] X.env)).any (·.1) = false := by rfl) :
    PMk X (.Call (.Name "TooMany" p) [e] [] pos) (tErr A.C_TooMany "limit" ta) :=
  pmk_err T.ox_TooMany T.fi_TooMany__init T.fn_TooMany__init (ok_errinit T.u_TooMany__init sc_TooMany__init rfl T.ox_TooMany T.nx_TooMany_limit rfl rfl (by decide) (by decide) (fun _ => rfl)) hr T.b_TooMany__init hg T.gC_TooMany ha (by decide) he hpl
theorem pm_NoThing (T : Txt X.K X.mg A) (hr : Room 2 X.A) (ha : PA X [e] ta) (hg : Gl X "NoThing" := by rfl) (he : starEach (e :: []) X.env = (false, eval e X.env) :: starEach [] X.env := by rfl) (hpl : (backTo pos (starEach [] X.env)).any (·.1) = false := by rfl) :
    PMk X (.Call (.Name "NoThing" p) [e] [] pos) (tErr A.C_NoThing "thing" ta) :=
  pmk_err T.ox_NoThing T.fi_NoThing__init T.fn_NoThing__init (ok_errinit T.u_NoThing__init sc_NoThing__init rfl T.ox_NoThing T.nx_NoThing_thing rfl rfl (by decide) (by decide) (fun _ => rfl)) hr T.b_NoThing__init hg T.gC_NoThing ha (by decide) he hpl
end
section
variable {P : Program} {w : World} {K : PySem.W.Frag} {mg : Str → Option Value} {base : Heap} {A : Ad}
def spCP (A : Ad) : Sp := fun vs H Q E => ∃ (a : Addr) (ps : List Str), vs = [.ref a, .int 16] ∧ H a = some (.lst (ps.map V.str)) ∧ ps.length ≤ 63 ∧ (∀ x ∈ ps, x.length ≤ 1000) ∧
  (∀ k, plF ps = some k → ∀ d H', Same H H' → H' d = some (.xd [("index", .int k)]) → E (.ref A.C_BadPlaces) (some d) H') ∧
  (plF ps = none → ∀ p H', H p = none → Same H H' → H' p = some (.lst ((sortS ps).map V.str)) → Q (.ref p) H')
theorem cal_sorted_places (T : Txt K mg A) : CalX P w K mg base 3 "sorted_places" (spCP A) := by
  refine ⟨_, _, _, fnX T.d_sorted_places.fn sc_sorted_places (fun vs H Q E h => ?_) (fun cdv B outer s H vs Q E hr h => ?_), T.d_sorted_places.mgf, T.d_sorted_places.kp, T.b_sorted_places⟩
  · obtain ⟨a, ps, rfl, _⟩ := h
    rfl
  · obtain ⟨a, ps, rfl, ha, hl, hx, kE, kQ⟩ := h
    refine ⟨_, (pss_cons (ps_set (i := 2) sc_sorted_places.nd rfl (by first | exact Or.inl rfl | exact Or.inr rfl) (pe_ifExp (pt_chain op_le op_le pe_int (pe_callB (lenK K) (by rfl) T.z_len (by decide +kernel) (pa_cons (pv 0) pa_nil)) (pv 1)) (pe_c (cal_first_wrong T) hr (by decide) rfl (pa_cons (pv 0) (pa_cons (pe_gc (v := .ref A.f_is_name) rfl ⟨_, T.d_is_name.mgf, rfl⟩) pa_nil))) (pe_un un_neg pe_int)))
 (pss_cons (ps_if (pt_cmpR op_notN (pv 2) pe_non (nomark _)) (pss_one (ps_raise rfl (takes_of rfl rfl rfl rfl) (pm_BadPlaces T (hr.mono (by decide)) (pa_cons (pv 2) pa_nil)))) pss_nil)
 (pss_one (ps_ret (pe_callB (sortedSK K) (by rfl) T.z_sorted (by decide +kernel) (pa_cons (pv 0) pa_nil)))))), ?_⟩
    have bad : ¬ (1 ≤ ps.length ∧ ps.length ≤ 16) → plF ps = some (-1) := fun h => by unfold plF; rw [if_neg h]
    (repeat (first | refine ⟨_, rfl, ?_⟩ | refine ⟨rfl, ?_⟩ | refine ⟨_, _, rfl, rfl, ?_⟩ | refine iteT ?_ | refine iteF ?_ | refine ⟨(by show (0 : Int) < _; omega), ?_⟩ | refine ⟨(⟨by omega, by omega⟩ : CDiv _ _), ?_⟩ | refine ⟨(⟨by decide, by decide, by decide⟩ : CPow _ _), ?_⟩ | refine ⟨(.inl ⟨by omega, by omega⟩ : CMul _ _), ?_⟩ | refine ⟨(.inr ⟨by omega, by omega⟩ : CMul _ _), ?_⟩ | refine Or.inl ⟨_, rfl, ?_⟩ | refine Or.inr ⟨_, rfl, ?_⟩ | refine ⟨_, _, _, _, true, rfl, .ty _, .base (.str _), kit_ty (by decide +kernel), ?_⟩ | refine ⟨_, _, rfl, ⟨by rw [sizeLine_eq]; omega, rfl⟩, ?_⟩ | refine ⟨_, _, rfl, .inl ⟨_, SqL.of (by assumption), rfl⟩, ?_⟩ | refine ⟨_, _, rfl, .inr ⟨_, SqT.of (by assumption), rfl⟩, ?_⟩))
    by_cases h1 : (1 : Int) ≤ ((ps.map V.str).length : Int)
    · rw [decide_eq_true h1]
      (repeat (first | refine ⟨_, rfl, ?_⟩ | refine ⟨rfl, ?_⟩ | refine ⟨_, _, rfl, rfl, ?_⟩ | refine iteT ?_ | refine iteF ?_ | refine ⟨(by show (0 : Int) < _; omega), ?_⟩ | refine ⟨(⟨by omega, by omega⟩ : CDiv _ _), ?_⟩ | refine ⟨(⟨by decide, by decide, by decide⟩ : CPow _ _), ?_⟩ | refine ⟨(.inl ⟨by omega, by omega⟩ : CMul _ _), ?_⟩ | refine ⟨(.inr ⟨by omega, by omega⟩ : CMul _ _), ?_⟩ | refine Or.inl ⟨_, rfl, ?_⟩ | refine Or.inr ⟨_, rfl, ?_⟩ | refine ⟨_, _, _, _, true, rfl, .ty _, .base (.str _), kit_ty (by decide +kernel), ?_⟩ | refine ⟨_, _, rfl, ⟨by rw [sizeLine_eq]; omega, rfl⟩, ?_⟩ | refine ⟨_, _, rfl, .inl ⟨_, SqL.of (by assumption), rfl⟩, ?_⟩ | refine ⟨_, _, rfl, .inr ⟨_, SqT.of (by assumption), rfl⟩, ?_⟩))
      by_cases h2 : ((ps.map V.str).length : Int) ≤ 16
      · rw [decide_eq_true h2]
        rw [List.length_map] at h1 h2
        have hin : 1 ≤ ps.length ∧ ps.length ≤ 16 := by omega
        (repeat (first | refine ⟨_, rfl, ?_⟩ | refine ⟨rfl, ?_⟩ | refine ⟨_, _, rfl, rfl, ?_⟩ | refine iteT ?_ | refine iteF ?_ | refine ⟨(by show (0 : Int) < _; omega), ?_⟩ | refine ⟨(⟨by omega, by omega⟩ : CDiv _ _), ?_⟩ | refine ⟨(⟨by decide, by decide, by decide⟩ : CPow _ _), ?_⟩ | refine ⟨(.inl ⟨by omega, by omega⟩ : CMul _ _), ?_⟩ | refine ⟨(.inr ⟨by omega, by omega⟩ : CMul _ _), ?_⟩ | refine Or.inl ⟨_, rfl, ?_⟩ | refine Or.inr ⟨_, rfl, ?_⟩ | refine ⟨_, _, _, _, true, rfl, .ty _, .base (.str _), kit_ty (by decide +kernel), ?_⟩ | refine ⟨_, _, rfl, ⟨by rw [sizeLine_eq]; omega, rfl⟩, ?_⟩ | refine ⟨_, _, rfl, .inl ⟨_, SqL.of (by assumption), rfl⟩, ?_⟩ | refine ⟨_, _, rfl, .inr ⟨_, SqT.of (by assumption), rfl⟩, ?_⟩))
        refine ⟨a, ps, rfl, ha, by omega, hx, fun H1 s1 => ?_⟩
        have ha1 := s1 _ _ ha
        cases hf : fwF ps with
        | some k =>
          have e : fwV ps = .int (k : Nat) := by unfold fwV; rw [hf]
          rw [e]
          (repeat (first | refine ⟨_, rfl, ?_⟩ | refine ⟨rfl, ?_⟩ | refine ⟨_, _, rfl, rfl, ?_⟩ | refine iteT ?_ | refine iteF ?_ | refine ⟨(by show (0 : Int) < _; omega), ?_⟩ | refine ⟨(⟨by omega, by omega⟩ : CDiv _ _), ?_⟩ | refine ⟨(⟨by decide, by decide, by decide⟩ : CPow _ _), ?_⟩ | refine ⟨(.inl ⟨by omega, by omega⟩ : CMul _ _), ?_⟩ | refine ⟨(.inr ⟨by omega, by omega⟩ : CMul _ _), ?_⟩ | refine Or.inl ⟨_, rfl, ?_⟩ | refine Or.inr ⟨_, rfl, ?_⟩ | refine ⟨_, _, _, _, true, rfl, .ty _, .base (.str _), kit_ty (by decide +kernel), ?_⟩ | refine ⟨_, _, rfl, ⟨by rw [sizeLine_eq]; omega, rfl⟩, ?_⟩ | refine ⟨_, _, rfl, .inl ⟨_, SqL.of (by assumption), rfl⟩, ?_⟩ | refine ⟨_, _, rfl, .inr ⟨_, SqT.of (by assumption), rfl⟩, ?_⟩))
          refine fun d H2 _ s2 hd => kE k ?_ d H2 (s1.trans s2) hd
          unfold plF
          rw [if_pos hin, hf]
          rfl
        | none =>
          have e : fwV ps = .non := by unfold fwV; rw [hf]
          rw [e]
          (repeat (first | refine ⟨_, rfl, ?_⟩ | refine ⟨rfl, ?_⟩ | refine ⟨_, _, rfl, rfl, ?_⟩ | refine iteT ?_ | refine iteF ?_ | refine ⟨(by show (0 : Int) < _; omega), ?_⟩ | refine ⟨(⟨by omega, by omega⟩ : CDiv _ _), ?_⟩ | refine ⟨(⟨by decide, by decide, by decide⟩ : CPow _ _), ?_⟩ | refine ⟨(.inl ⟨by omega, by omega⟩ : CMul _ _), ?_⟩ | refine ⟨(.inr ⟨by omega, by omega⟩ : CMul _ _), ?_⟩ | refine Or.inl ⟨_, rfl, ?_⟩ | refine Or.inr ⟨_, rfl, ?_⟩ | refine ⟨_, _, _, _, true, rfl, .ty _, .base (.str _), kit_ty (by decide +kernel), ?_⟩ | refine ⟨_, _, rfl, ⟨by rw [sizeLine_eq]; omega, rfl⟩, ?_⟩ | refine ⟨_, _, rfl, .inl ⟨_, SqL.of (by assumption), rfl⟩, ?_⟩ | refine ⟨_, _, rfl, .inr ⟨_, SqT.of (by assumption), rfl⟩, ?_⟩))
          refine ⟨a, ps, rfl, SqL.of ha1, by omega, fun ys p pm so np => ?_⟩
          rw [sortS_eq pm so]
          refine kQ ?_ p _ (s1.free np) (Same.put s1 (s1.free np)) upd_same
          unfold plF
          rw [if_pos hin, hf]
          rfl
      · rw [decide_eq_false h2]
        rw [List.length_map] at h2
        (repeat (first | refine ⟨_, rfl, ?_⟩ | refine ⟨rfl, ?_⟩ | refine ⟨_, _, rfl, rfl, ?_⟩ | refine iteT ?_ | refine iteF ?_ | refine ⟨(by show (0 : Int) < _; omega), ?_⟩ | refine ⟨(⟨by omega, by omega⟩ : CDiv _ _), ?_⟩ | refine ⟨(⟨by decide, by decide, by decide⟩ : CPow _ _), ?_⟩ | refine ⟨(.inl ⟨by omega, by omega⟩ : CMul _ _), ?_⟩ | refine ⟨(.inr ⟨by omega, by omega⟩ : CMul _ _), ?_⟩ | refine Or.inl ⟨_, rfl, ?_⟩ | refine Or.inr ⟨_, rfl, ?_⟩ | refine ⟨_, _, _, _, true, rfl, .ty _, .base (.str _), kit_ty (by decide +kernel), ?_⟩ | refine ⟨_, _, rfl, ⟨by rw [sizeLine_eq]; omega, rfl⟩, ?_⟩ | refine ⟨_, _, rfl, .inl ⟨_, SqL.of (by assumption), rfl⟩, ?_⟩ | refine ⟨_, _, rfl, .inr ⟨_, SqT.of (by assumption), rfl⟩, ?_⟩))
        exact fun d H2 _ s2 hd => kE (-1) (bad (by omega)) d H2 s2 hd
    · rw [decide_eq_false h1]
      rw [List.length_map] at h1
      (repeat (first | refine ⟨_, rfl, ?_⟩ | refine ⟨rfl, ?_⟩ | refine ⟨_, _, rfl, rfl, ?_⟩ | refine iteT ?_ | refine iteF ?_ | refine ⟨(by show (0 : Int) < _; omega), ?_⟩ | refine ⟨(⟨by omega, by omega⟩ : CDiv _ _), ?_⟩ | refine ⟨(⟨by decide, by decide, by decide⟩ : CPow _ _), ?_⟩ | refine ⟨(.inl ⟨by omega, by omega⟩ : CMul _ _), ?_⟩ | refine ⟨(.inr ⟨by omega, by omega⟩ : CMul _ _), ?_⟩ | refine Or.inl ⟨_, rfl, ?_⟩ | refine Or.inr ⟨_, rfl, ?_⟩ | refine ⟨_, _, _, _, true, rfl, .ty _, .base (.str _), kit_ty (by decide +kernel), ?_⟩ | refine ⟨_, _, rfl, ⟨by rw [sizeLine_eq]; omega, rfl⟩, ?_⟩ | refine ⟨_, _, rfl, .inl ⟨_, SqL.of (by assumption), rfl⟩, ?_⟩ | refine ⟨_, _, rfl, .inr ⟨_, SqT.of (by assumption), rfl⟩, ?_⟩))
      exact fun d H2 _ s2 hd => kE (-1) (bad (by omega)) d H2 s2 hd
def spAE (K : PySem.W.Frag) : Sp := fun vs H Q _ => ∃ (v : V) (tv : TV) (a : Addr) (ps : List Str), vs = [v, .ref a] ∧ TVr K H v tv ∧ H a = some (.lst (ps.map V.str)) ∧ ∀ H', Same H H' → Q (.bl (goodT ps tv)) H'
theorem cal_are_ends (T : Txt K mg A) : Cal P w K mg base 1 "_are_ends" (spAE K) [] := by
  refine cal0 T.d_are_ends T.b_are_ends .nil sc_are_ends (fun vs H Q E h => ?_) (fun cdv B outer s H vs Q E hr h => ?_)
  · obtain ⟨v, tv, a, ps, rfl, _⟩ := h
    rfl
  · obtain ⟨v, tv, a, ps, rfl, hv, ha, k⟩ := h
    refine ⟨_, (pss_cons (ps_if (PW.pt (pw_or (pt_not (pt_val (pe_callB (isiK K) (by rfl) T.z_isinstance (by decide +kernel) (pa_cons (pv 0) (pa_cons (pe_bltn (v := .ty "tuple") (by rfl) T.z_tuple (by decide +kernel) rfl) pa_nil))))) (pw_or1 (pt_cmpR op_ne (pe_callB (lenK K) (by rfl) T.z_len (by decide +kernel) (pa_cons (pv 0) pa_nil)) pe_int (nomark _))))) (pss_one (ps_ret pe_bl)) pss_nil)
 (pss_one (ps_ret (pe_callB (allK K rfl) (by rfl) T.z_all (by decide +kernel) (pa_cons (pe_lc (own := [("end", 2)]) (g := gName 2) rfl sc_are_ends.nd (pi_tup (pv 0)) (blkOk_by (own := [("end", 2)]) (N := N_are_ends) (sc := fnScope s_are_ends) (by decide +kernel)) (fun _ _ _ _ _ => (pg_name (i := 2) sc_are_ends.nd rfl (by first | exact Or.inl rfl | exact Or.inr rfl))) (fun _ _ _ _ _ => pts_nil) (fun _ _ _ _ _ => (pe_and (pe_callB (isiK K) (by rfl) T.z_isinstance (by decide +kernel) (pa_cons (pv 2) (pa_cons (pe_bltn (v := .ty "str") (by rfl) T.z_str (by decide +kernel) rfl) pa_nil))) (pe_one (pe_cmpR (in_seqK K) (pv 2) (pv 1) rfl))))) pa_nil))))), ?_⟩
    (repeat (first | refine ⟨_, rfl, ?_⟩ | refine ⟨rfl, ?_⟩ | refine ⟨_, _, rfl, rfl, ?_⟩ | refine iteT ?_ | refine iteF ?_ | refine ⟨(by show (0 : Int) < _; omega), ?_⟩ | refine ⟨(⟨by omega, by omega⟩ : CDiv _ _), ?_⟩ | refine ⟨(⟨by decide, by decide, by decide⟩ : CPow _ _), ?_⟩ | refine ⟨(.inl ⟨by omega, by omega⟩ : CMul _ _), ?_⟩ | refine ⟨(.inr ⟨by omega, by omega⟩ : CMul _ _), ?_⟩ | refine Or.inl ⟨_, rfl, ?_⟩ | refine Or.inr ⟨_, rfl, ?_⟩ | refine ⟨_, _, _, _, true, rfl, .ty _, .base (.str _), kit_ty (by decide +kernel), ?_⟩ | refine ⟨_, _, rfl, ⟨by rw [sizeLine_eq]; omega, rfl⟩, ?_⟩ | refine ⟨_, _, rfl, .inl ⟨_, SqL.of (by assumption), rfl⟩, ?_⟩ | refine ⟨_, _, rfl, .inr ⟨_, SqT.of (by assumption), rfl⟩, ?_⟩))
    cases hv with
    | no ty kt =>
      refine ⟨_, _, _, _, false, rfl, .ty _, ty, kt, ?_⟩
      (repeat (first | refine ⟨_, rfl, ?_⟩ | refine ⟨rfl, ?_⟩ | refine ⟨_, _, rfl, rfl, ?_⟩ | refine iteT ?_ | refine iteF ?_ | refine ⟨(by show (0 : Int) < _; omega), ?_⟩ | refine ⟨(⟨by omega, by omega⟩ : CDiv _ _), ?_⟩ | refine ⟨(⟨by decide, by decide, by decide⟩ : CPow _ _), ?_⟩ | refine ⟨(.inl ⟨by omega, by omega⟩ : CMul _ _), ?_⟩ | refine ⟨(.inr ⟨by omega, by omega⟩ : CMul _ _), ?_⟩ | refine Or.inl ⟨_, rfl, ?_⟩ | refine Or.inr ⟨_, rfl, ?_⟩ | refine ⟨_, _, _, _, true, rfl, .ty _, .base (.str _), kit_ty (by decide +kernel), ?_⟩ | refine ⟨_, _, rfl, ⟨by rw [sizeLine_eq]; omega, rfl⟩, ?_⟩ | refine ⟨_, _, rfl, .inl ⟨_, SqL.of (by assumption), rfl⟩, ?_⟩ | refine ⟨_, _, rfl, .inr ⟨_, SqT.of (by assumption), rfl⟩, ?_⟩))
      exact k H (Same.refl H)
    | long hp hn =>
      refine ⟨_, _, _, _, true, rfl, .ty _, .base (.tup hp), kit_ty (by decide +kernel), ?_⟩
      (repeat (first | refine ⟨_, rfl, ?_⟩ | refine ⟨rfl, ?_⟩ | refine ⟨_, _, rfl, rfl, ?_⟩ | refine iteT ?_ | refine iteF ?_ | refine ⟨(by show (0 : Int) < _; omega), ?_⟩ | refine ⟨(⟨by omega, by omega⟩ : CDiv _ _), ?_⟩ | refine ⟨(⟨by decide, by decide, by decide⟩ : CPow _ _), ?_⟩ | refine ⟨(.inl ⟨by omega, by omega⟩ : CMul _ _), ?_⟩ | refine ⟨(.inr ⟨by omega, by omega⟩ : CMul _ _), ?_⟩ | refine Or.inl ⟨_, rfl, ?_⟩ | refine Or.inr ⟨_, rfl, ?_⟩ | refine ⟨_, _, _, _, true, rfl, .ty _, .base (.str _), kit_ty (by decide +kernel), ?_⟩ | refine ⟨_, _, rfl, ⟨by rw [sizeLine_eq]; omega, rfl⟩, ?_⟩ | refine ⟨_, _, rfl, .inl ⟨_, SqL.of (by assumption), rfl⟩, ?_⟩ | refine ⟨_, _, rfl, .inr ⟨_, SqT.of (by assumption), rfl⟩, ?_⟩))
      rw [decide_eq_false (fun e => hn (by have := V.int.inj e; omega))]
      exact k H (Same.refl H)
    | @pair p x y oa ob hp hx hy =>
      refine ⟨_, _, _, _, true, rfl, .ty _, .base (.tup hp), kit_ty (by decide +kernel), ?_⟩
      (repeat (first | refine ⟨_, rfl, ?_⟩ | refine ⟨rfl, ?_⟩ | refine ⟨_, _, rfl, rfl, ?_⟩ | refine iteT ?_ | refine iteF ?_ | refine ⟨(by show (0 : Int) < _; omega), ?_⟩ | refine ⟨(⟨by omega, by omega⟩ : CDiv _ _), ?_⟩ | refine ⟨(⟨by decide, by decide, by decide⟩ : CPow _ _), ?_⟩ | refine ⟨(.inl ⟨by omega, by omega⟩ : CMul _ _), ?_⟩ | refine ⟨(.inr ⟨by omega, by omega⟩ : CMul _ _), ?_⟩ | refine Or.inl ⟨_, rfl, ?_⟩ | refine Or.inr ⟨_, rfl, ?_⟩ | refine ⟨_, _, _, _, true, rfl, .ty _, .base (.str _), kit_ty (by decide +kernel), ?_⟩ | refine ⟨_, _, rfl, ⟨by rw [sizeLine_eq]; omega, rfl⟩, ?_⟩ | refine ⟨_, _, rfl, .inl ⟨_, SqL.of (by assumption), rfl⟩, ?_⟩ | refine ⟨_, _, rfl, .inr ⟨_, SqT.of (by assumption), rfl⟩, ?_⟩))
      refine ⟨⟨_, SqT.of hp⟩, fun D nD => ?_⟩
      have elem : ∀ (z : V) (o : Option Str) (H2 : Hp) (R : VK), IsS K H2 z o → H2 a = some (.lst (ps.map V.str)) → R (.bl (inO ps o)) H2 →
          tAndV (tCB (rIsi K) (tCons (tVar 2) (tCons (tC (.ty "str")) tNil))) (tOp (rIn K false) (tVar 2) (tVar 1)) [some (.ref p), some (.ref a), some z] H2 R := by
        intro z o H2 R hz ha2 q
        cases hz with
        | str z =>
          refine ⟨_, rfl, _, _, _, _, true, rfl, .ty _, .base (.str _), kit_ty (by decide +kernel), _, rfl, iteT ⟨_, rfl, _, rfl, a, _, rfl, .inl (SqL.of ha2), rfl, flat_strs ps, ?_⟩⟩
          rw [inV_strs]
          exact q
        | no ty kt => exact ⟨_, rfl, _, _, _, _, false, rfl, .ty _, ty, kt, _, rfl, iteF q⟩
      refine lc_tup (K := K) (a := p) (xs := [x, y]) (fun i H' => Same H H' ∧ H' D = some (.lst ((([inO ps oa, inO ps ob] : List Bool).take i).map V.bl))) ⟨Same.new nD, upd_same⟩ (fun _ H' _ q => SqT.of (q.1 _ _ hp)) ?_ ?_
      · rintro i v H1 hi ⟨s1, hD⟩
        refine ⟨rfl, ?_⟩
        match i, hi with
        | 0, hi =>
          cases Option.some.inj hi
          exact elem x oa H1 _ (hx.same s1) (s1 _ _ ha) ⟨_, hD, small1000 (by simp), Same.put s1 nD, upd_same⟩
        | 1, hi =>
          cases Option.some.inj hi
          exact elem y ob H1 _ (hy.same s1) (s1 _ _ ha) ⟨_, hD, small1000 (by simp), Same.put s1 nD, upd_same⟩
        | i + 2, hi => simp at hi
      · rintro H1 ⟨s1, hD⟩
        refine ⟨D, _, rfl, SqL.of hD, ?_⟩
        have q := k H1 s1
        rw [goodT_of] at q
        exact q
end
end BF
set_option Elab.async false
set_option linter.all false
set_option maxRecDepth 100000
set_option maxHeartbeats 4000000
namespace BF
open PySem PySem.Spec PyProof.Rows L2
open C8 (Cal CalAt Met Mak cal0 met0 mak0 fn0 pe_c pe_mk pe_mt pe_mt0 pe_gc fnScope fnBody fnArgs fnScope_by)
open SX
section
variable {P : Program} {w : World} {K : PySem.W.Frag} {mg : Str → Option Value} {base : Heap} {A : Ad}
def spCT (K : PySem.W.Frag) (A : Ad) : Sp := fun vs H Q E => ∃ (d a : Addr) (es : List (Str × TV)) (ps : List Str), vs = [.ref d, .ref a] ∧ TiesR K H d es ∧ es.length ≤ 63 ∧ (∀ e ∈ es, e.1.length ≤ 1000) ∧ H a = some (.lst (ps.map V.str)) ∧
  (∀ n, tiF ps es = some n → ∀ dx H', Same H H' → H' dx = some (.xd [("name", .str n)]) → E (.ref A.C_BadTies) (some dx) H') ∧
  (tiF ps es = none → 24 < es.length → ∀ dx H', Same H H' → H' dx = some (.xd [("limit", .int 24)]) → E (.ref A.C_TooMany) (some dx) H') ∧
  (tiF ps es = none → es.length ≤ 24 → ∀ p H' kvs, H p = none → Same H H' → H' p = some (.dK kvs) → Paired (Tup2 H') kvs (webTies es) → Q (.ref p) H')
theorem cal_checked_ties (T : Txt K mg A) : CalX P w K mg base 3 "_checked_ties" (spCT K A) := by
  refine ⟨_, _, _, fnX T.d_checked_ties.fn sc_checked_ties (fun vs H Q E h => ?_) (fun cdv B outer s H vs Q E hr h => ?_), T.d_checked_ties.mgf, T.d_checked_ties.kp, T.b_checked_ties⟩
  · obtain ⟨d, a, es, ps, rfl, _⟩ := h
    rfl
  · obtain ⟨d, a, es, ps, rfl, hT, hl, hx, ha, kE, kM, kQ⟩ := h
    refine ⟨_, (pss_cons (ps_set (i := 2) sc_checked_ties.nd rfl (by first | exact Or.inl rfl | exact Or.inr rfl) pe_dnewK)
 (pss_cons (ps_for (passes_of rfl) rfl (pi_list (pe_callB (call_sortedD rfl) (by rfl) T.z_sorted (by decide +kernel) (pa_cons (pv 0) pa_nil))) (pg_name (i := 3) sc_checked_ties.nd rfl (by first | exact Or.inl rfl | exact Or.inr rfl)) (pss_cons (ps_if (PW.pt (pw_or (pt_not (pt_val (pe_c (cal_is_name T) hr (by decide) rfl (pa_cons (pv 3) pa_nil)))) (pw_or1 (pt_not (pt_val (pe_c (cal_are_ends T) hr (by decide) rfl (pa_cons (pe_dget (hu_of hr) (pv 0) (pv 3) (fun _ _ => rfl)) (pa_cons (pv 1) pa_nil)))))))) (pss_one (ps_raise rfl (takes_of rfl rfl rfl rfl) (pm_BadTies T (hr.mono (by decide)) (pa_cons (pv 3) pa_nil)))) pss_nil)
 (pss_cons (ps_asg (pe_callB (sortedTK K) (by rfl) T.z_sorted (by decide +kernel) (pa_cons (pe_dget (hu_of hr) (pv 0) (pv 3) (fun _ _ => rfl)) pa_nil)) (pg_unl rfl (pgs_cons (pg_name (i := 4) sc_checked_ties.nd rfl (by first | exact Or.inl rfl | exact Or.inr rfl)) (pgs_cons (pg_name (i := 5) sc_checked_ties.nd rfl (by first | exact Or.inl rfl | exact Or.inr rfl)) pgs_nil))))
 (pss_one (ps_dput (hu_of hr) (pv 2) (pv 3) (pe_tup (pa_cons (pv 4) (pa_cons (pv 5) pa_nil))) rfl)))))
 (pss_cons (ps_if (pt_cmpR op_gt (pe_callB call_lenD (by rfl) T.z_len (by decide +kernel) (pa_cons (pv 2) pa_nil)) (pe_gint rfl T.g_MOST_TIES) (nomark _)) (pss_one (ps_raise rfl (takes_of rfl rfl rfl rfl) (pm_TooMany T (hr.mono (by decide)) (pa_cons (pe_gint rfl T.g_MOST_TIES) pa_nil)))) pss_nil)
 (pss_one (ps_ret (pv 2)))))), ?_⟩
    refine fun chk nchk => ?_
    have s0 : Same H (upd H chk (.dK [])) := Same.new nchk
    obtain ⟨⟨kvs0, hd0, hp0⟩, hnd⟩ := id hT
    have hkey := tie_keys hp0
    have hlen0 : kvs0.length = es.length := hp0.length
    (repeat (first | refine ⟨_, rfl, ?_⟩ | refine ⟨rfl, ?_⟩ | refine ⟨_, _, rfl, rfl, ?_⟩ | refine iteT ?_ | refine iteF ?_ | refine ⟨(by show (0 : Int) < _; omega), ?_⟩ | refine ⟨(⟨by omega, by omega⟩ : CDiv _ _), ?_⟩ | refine ⟨(⟨by decide, by decide, by decide⟩ : CPow _ _), ?_⟩ | refine ⟨(.inl ⟨by omega, by omega⟩ : CMul _ _), ?_⟩ | refine ⟨(.inr ⟨by omega, by omega⟩ : CMul _ _), ?_⟩ | refine Or.inl ⟨_, rfl, ?_⟩ | refine Or.inr ⟨_, rfl, ?_⟩ | refine ⟨_, _, _, _, true, rfl, .ty _, .base (.str _), kit_ty (by decide +kernel), ?_⟩ | refine ⟨_, _, rfl, ⟨by rw [sizeLine_eq]; omega, rfl⟩, ?_⟩ | refine ⟨_, _, rfl, .inl ⟨_, SqL.of (by assumption), rfl⟩, ?_⟩ | refine ⟨_, _, rfl, .inr ⟨_, SqT.of (by assumption), rfl⟩, ?_⟩))
    refine ⟨d, kvs0, es.map (·.1), rfl, .inl (s0 _ _ hd0), hkey, by rw [List.length_map]; omega, fun ys lk pm so nlk => ?_⟩
    rw [sortS_eq pm so]
    have hll : (sortS (es.map (·.1))).length = es.length := by rw [sortS_length, List.length_map]
    have nlk' : H lk = none := s0.free nlk
    have ne : chk ≠ lk := ne_of_none (upd_same (H := H) (a := chk) (o := .dK [])) nlk
    (repeat (first | refine ⟨_, rfl, ?_⟩ | refine ⟨rfl, ?_⟩ | refine ⟨_, _, rfl, rfl, ?_⟩ | refine iteT ?_ | refine iteF ?_ | refine ⟨(by show (0 : Int) < _; omega), ?_⟩ | refine ⟨(⟨by omega, by omega⟩ : CDiv _ _), ?_⟩ | refine ⟨(⟨by decide, by decide, by decide⟩ : CPow _ _), ?_⟩ | refine ⟨(.inl ⟨by omega, by omega⟩ : CMul _ _), ?_⟩ | refine ⟨(.inr ⟨by omega, by omega⟩ : CMul _ _), ?_⟩ | refine Or.inl ⟨_, rfl, ?_⟩ | refine Or.inr ⟨_, rfl, ?_⟩ | refine ⟨_, _, _, _, true, rfl, .ty _, .base (.str _), kit_ty (by decide +kernel), ?_⟩ | refine ⟨_, _, rfl, ⟨by rw [sizeLine_eq]; omega, rfl⟩, ?_⟩ | refine ⟨_, _, rfl, .inl ⟨_, SqL.of (by assumption), rfl⟩, ?_⟩ | refine ⟨_, _, rfl, .inr ⟨_, SqT.of (by assumption), rfl⟩, ?_⟩))
    refine ⟨⟨_, SqL.of upd_same⟩, for_it walk_list (fun i σ H' => ∃ (kvs : List (Key × V)) (v3 v4 v5 : Option V), σ = [some (.ref d), some (.ref a), some (.ref chk), v3, v4, v5] ∧ Same H H' ∧ H' lk = some (.lst ((sortS (es.map (·.1))).map V.str)) ∧ H' chk = some (.dK kvs) ∧
        Paired (Tup2 H') kvs (((sortS (es.map (·.1))).take i).map fun n => (n, endsOf es n)) ∧ ∀ j, j < i → ∀ m, (sortS (es.map (·.1)))[j]? = some m → goodE ps es m = true)
      ⟨[], _, _, _, rfl, Same.put s0 nlk', upd_same, Eq.trans (upd_ne ne) upd_same, .nil, fun j hj => absurd hj (Nat.not_lt_zero _)⟩ (fun i σ H' _ ⟨_, _, _, _, _, _, h, _⟩ => SqL.of h) ?_ ?_⟩
    · rintro i v σ H1 H2 hi ⟨kvs, v3, v4, v5, rfl, s1, hL, hC, hP, hok⟩ ⟨rfl, hv⟩
      rw [List.length_map] at hi
      obtain ⟨n, hn⟩ : ∃ n, (sortS (es.map (·.1)))[i]? = some n := ⟨_, List.getElem?_eq_getElem hi⟩
      have ev : v = V.str n := by
        rw [List.getElem?_map, hn] at hv
        exact (Option.some.inj hv).symm
      subst ev
      have hmem : n ∈ es.map (·.1) := (mem_sortS _ _).mp (List.mem_of_getElem? hn)
      obtain ⟨v, tv, hg, hlk, hr1⟩ := tie_get hp0 hmem
      have hnx : n.length ≤ 1000 := by
        obtain ⟨e, he, e2⟩ := List.mem_map.mp hmem
        rw [← e2]
        exact hx e he
      (repeat (first | refine ⟨_, rfl, ?_⟩ | refine ⟨rfl, ?_⟩ | refine ⟨_, _, rfl, rfl, ?_⟩ | refine iteT ?_ | refine iteF ?_ | refine ⟨(by show (0 : Int) < _; omega), ?_⟩ | refine ⟨(⟨by omega, by omega⟩ : CDiv _ _), ?_⟩ | refine ⟨(⟨by decide, by decide, by decide⟩ : CPow _ _), ?_⟩ | refine ⟨(.inl ⟨by omega, by omega⟩ : CMul _ _), ?_⟩ | refine ⟨(.inr ⟨by omega, by omega⟩ : CMul _ _), ?_⟩ | refine Or.inl ⟨_, rfl, ?_⟩ | refine Or.inr ⟨_, rfl, ?_⟩ | refine ⟨_, _, _, _, true, rfl, .ty _, .base (.str _), kit_ty (by decide +kernel), ?_⟩ | refine ⟨_, _, rfl, ⟨by rw [sizeLine_eq]; omega, rfl⟩, ?_⟩ | refine ⟨_, _, rfl, .inl ⟨_, SqL.of (by assumption), rfl⟩, ?_⟩ | refine ⟨_, _, rfl, .inr ⟨_, SqT.of (by assumption), rfl⟩, ?_⟩))
      refine ⟨hnx, fun H3 s3 => ?_⟩
      have s13 := s1.trans s3
      have bad : goodE ps es n = false → tiF ps es = some n := fun h => tiF_some hn h hok
      have go : ∀ H4 : Hp, Same H H4 → H4 lk = some (.lst ((sortS (es.map (·.1))).map V.str)) → H4 chk = some (.dK kvs) → Paired (Tup2 H4) kvs (((sortS (es.map (·.1))).take i).map fun n => (n, endsOf es n)) → goodE ps es n = true → True := fun _ _ _ _ _ _ => trivial
      cases hnm : isNm n with
      | false =>
        (repeat (first | refine ⟨_, rfl, ?_⟩ | refine ⟨rfl, ?_⟩ | refine ⟨_, _, rfl, rfl, ?_⟩ | refine iteT ?_ | refine iteF ?_ | refine ⟨(by show (0 : Int) < _; omega), ?_⟩ | refine ⟨(⟨by omega, by omega⟩ : CDiv _ _), ?_⟩ | refine ⟨(⟨by decide, by decide, by decide⟩ : CPow _ _), ?_⟩ | refine ⟨(.inl ⟨by omega, by omega⟩ : CMul _ _), ?_⟩ | refine ⟨(.inr ⟨by omega, by omega⟩ : CMul _ _), ?_⟩ | refine Or.inl ⟨_, rfl, ?_⟩ | refine Or.inr ⟨_, rfl, ?_⟩ | refine ⟨_, _, _, _, true, rfl, .ty _, .base (.str _), kit_ty (by decide +kernel), ?_⟩ | refine ⟨_, _, rfl, ⟨by rw [sizeLine_eq]; omega, rfl⟩, ?_⟩ | refine ⟨_, _, rfl, .inl ⟨_, SqL.of (by assumption), rfl⟩, ?_⟩ | refine ⟨_, _, rfl, .inr ⟨_, SqT.of (by assumption), rfl⟩, ?_⟩))
        exact fun dx H4 _ s4 hdx => kE n (bad (by rw [goodE_of hlk, hnm]; rfl)) dx H4 (s13.trans s4) hdx
      | true =>
        (repeat (first | refine ⟨_, rfl, ?_⟩ | refine ⟨rfl, ?_⟩ | refine ⟨_, _, rfl, rfl, ?_⟩ | refine iteT ?_ | refine iteF ?_ | refine ⟨(by show (0 : Int) < _; omega), ?_⟩ | refine ⟨(⟨by omega, by omega⟩ : CDiv _ _), ?_⟩ | refine ⟨(⟨by decide, by decide, by decide⟩ : CPow _ _), ?_⟩ | refine ⟨(.inl ⟨by omega, by omega⟩ : CMul _ _), ?_⟩ | refine ⟨(.inr ⟨by omega, by omega⟩ : CMul _ _), ?_⟩ | refine Or.inl ⟨_, rfl, ?_⟩ | refine Or.inr ⟨_, rfl, ?_⟩ | refine ⟨_, _, _, _, true, rfl, .ty _, .base (.str _), kit_ty (by decide +kernel), ?_⟩ | refine ⟨_, _, rfl, ⟨by rw [sizeLine_eq]; omega, rfl⟩, ?_⟩ | refine ⟨_, _, rfl, .inl ⟨_, SqL.of (by assumption), rfl⟩, ?_⟩ | refine ⟨_, _, rfl, .inr ⟨_, SqT.of (by assumption), rfl⟩, ?_⟩))
        refine ⟨d, v, rfl, dget_s (.inl (s13 _ _ hd0)) hg, ?_⟩
        (repeat (first | refine ⟨_, rfl, ?_⟩ | refine ⟨rfl, ?_⟩ | refine ⟨_, _, rfl, rfl, ?_⟩ | refine iteT ?_ | refine iteF ?_ | refine ⟨(by show (0 : Int) < _; omega), ?_⟩ | refine ⟨(⟨by omega, by omega⟩ : CDiv _ _), ?_⟩ | refine ⟨(⟨by decide, by decide, by decide⟩ : CPow _ _), ?_⟩ | refine ⟨(.inl ⟨by omega, by omega⟩ : CMul _ _), ?_⟩ | refine ⟨(.inr ⟨by omega, by omega⟩ : CMul _ _), ?_⟩ | refine Or.inl ⟨_, rfl, ?_⟩ | refine Or.inr ⟨_, rfl, ?_⟩ | refine ⟨_, _, _, _, true, rfl, .ty _, .base (.str _), kit_ty (by decide +kernel), ?_⟩ | refine ⟨_, _, rfl, ⟨by rw [sizeLine_eq]; omega, rfl⟩, ?_⟩ | refine ⟨_, _, rfl, .inl ⟨_, SqL.of (by assumption), rfl⟩, ?_⟩ | refine ⟨_, _, rfl, .inr ⟨_, SqT.of (by assumption), rfl⟩, ?_⟩))
        refine ⟨v, tv, a, ps, rfl, hr1.same s13, s13 _ _ ha, fun H4 s4 => ?_⟩
        have s14 := s13.trans s4
        cases hgd : goodT ps tv with
        | false =>
          (repeat (first | refine ⟨_, rfl, ?_⟩ | refine ⟨rfl, ?_⟩ | refine ⟨_, _, rfl, rfl, ?_⟩ | refine iteT ?_ | refine iteF ?_ | refine ⟨(by show (0 : Int) < _; omega), ?_⟩ | refine ⟨(⟨by omega, by omega⟩ : CDiv _ _), ?_⟩ | refine ⟨(⟨by decide, by decide, by decide⟩ : CPow _ _), ?_⟩ | refine ⟨(.inl ⟨by omega, by omega⟩ : CMul _ _), ?_⟩ | refine ⟨(.inr ⟨by omega, by omega⟩ : CMul _ _), ?_⟩ | refine Or.inl ⟨_, rfl, ?_⟩ | refine Or.inr ⟨_, rfl, ?_⟩ | refine ⟨_, _, _, _, true, rfl, .ty _, .base (.str _), kit_ty (by decide +kernel), ?_⟩ | refine ⟨_, _, rfl, ⟨by rw [sizeLine_eq]; omega, rfl⟩, ?_⟩ | refine ⟨_, _, rfl, .inl ⟨_, SqL.of (by assumption), rfl⟩, ?_⟩ | refine ⟨_, _, rfl, .inr ⟨_, SqT.of (by assumption), rfl⟩, ?_⟩))
          exact fun dx H5 _ s5 hdx => kE n (bad (by rw [goodE_of hlk, hnm, hgd]; rfl)) dx H5 (s14.trans s5) hdx
        | true =>
          obtain ⟨x, y, rfl⟩ : ∃ x y, tv = .ends x y := by
            cases tv with
            | junk => cases hgd
            | ends x y => exact ⟨x, y, rfl⟩
          obtain ⟨tp, rfl, htp⟩ := (hr1.same s14).get
          have hC4 : H4 chk = some (.dK kvs) := s4 _ _ (s3 _ _ hC)
          have hL4 := s4 _ _ (s3 _ _ hL)
          (repeat (first | refine ⟨_, rfl, ?_⟩ | refine ⟨rfl, ?_⟩ | refine ⟨_, _, rfl, rfl, ?_⟩ | refine iteT ?_ | refine iteF ?_ | refine ⟨(by show (0 : Int) < _; omega), ?_⟩ | refine ⟨(⟨by omega, by omega⟩ : CDiv _ _), ?_⟩ | refine ⟨(⟨by decide, by decide, by decide⟩ : CPow _ _), ?_⟩ | refine ⟨(.inl ⟨by omega, by omega⟩ : CMul _ _), ?_⟩ | refine ⟨(.inr ⟨by omega, by omega⟩ : CMul _ _), ?_⟩ | refine Or.inl ⟨_, rfl, ?_⟩ | refine Or.inr ⟨_, rfl, ?_⟩ | refine ⟨_, _, _, _, true, rfl, .ty _, .base (.str _), kit_ty (by decide +kernel), ?_⟩ | refine ⟨_, _, rfl, ⟨by rw [sizeLine_eq]; omega, rfl⟩, ?_⟩ | refine ⟨_, _, rfl, .inl ⟨_, SqL.of (by assumption), rfl⟩, ?_⟩ | refine ⟨_, _, rfl, .inr ⟨_, SqT.of (by assumption), rfl⟩, ?_⟩))
          refine ⟨d, .ref tp, rfl, dget_s (.inl (s14 _ _ hd0)) hg, ?_⟩
          (repeat (first | refine ⟨_, rfl, ?_⟩ | refine ⟨rfl, ?_⟩ | refine ⟨_, _, rfl, rfl, ?_⟩ | refine iteT ?_ | refine iteF ?_ | refine ⟨(by show (0 : Int) < _; omega), ?_⟩ | refine ⟨(⟨by omega, by omega⟩ : CDiv _ _), ?_⟩ | refine ⟨(⟨by decide, by decide, by decide⟩ : CPow _ _), ?_⟩ | refine ⟨(.inl ⟨by omega, by omega⟩ : CMul _ _), ?_⟩ | refine ⟨(.inr ⟨by omega, by omega⟩ : CMul _ _), ?_⟩ | refine Or.inl ⟨_, rfl, ?_⟩ | refine Or.inr ⟨_, rfl, ?_⟩ | refine ⟨_, _, _, _, true, rfl, .ty _, .base (.str _), kit_ty (by decide +kernel), ?_⟩ | refine ⟨_, _, rfl, ⟨by rw [sizeLine_eq]; omega, rfl⟩, ?_⟩ | refine ⟨_, _, rfl, .inl ⟨_, SqL.of (by assumption), rfl⟩, ?_⟩ | refine ⟨_, _, rfl, .inr ⟨_, SqT.of (by assumption), rfl⟩, ?_⟩))
          refine ⟨tp, [x, y], rfl, SqT.of htp, by show 2 < 64; decide, fun zs sp pm2 so2 nsp => ?_⟩
          rw [sortS_eq pm2 so2, sortS_two]
          have s15 : Same H4 (upd H4 sp (.lst (([(srt2 x y).1, (srt2 x y).2]).map V.str))) := Same.new nsp
          refine ⟨sp, _, rfl, SqL.of upd_same, rfl, _, _, rfl, _, _, rfl, rfl, ?_⟩
          (repeat (first | refine ⟨_, rfl, ?_⟩ | refine ⟨rfl, ?_⟩ | refine ⟨_, _, rfl, rfl, ?_⟩ | refine iteT ?_ | refine iteF ?_ | refine ⟨(by show (0 : Int) < _; omega), ?_⟩ | refine ⟨(⟨by omega, by omega⟩ : CDiv _ _), ?_⟩ | refine ⟨(⟨by decide, by decide, by decide⟩ : CPow _ _), ?_⟩ | refine ⟨(.inl ⟨by omega, by omega⟩ : CMul _ _), ?_⟩ | refine ⟨(.inr ⟨by omega, by omega⟩ : CMul _ _), ?_⟩ | refine Or.inl ⟨_, rfl, ?_⟩ | refine Or.inr ⟨_, rfl, ?_⟩ | refine ⟨_, _, _, _, true, rfl, .ty _, .base (.str _), kit_ty (by decide +kernel), ?_⟩ | refine ⟨_, _, rfl, ⟨by rw [sizeLine_eq]; omega, rfl⟩, ?_⟩ | refine ⟨_, _, rfl, .inl ⟨_, SqL.of (by assumption), rfl⟩, ?_⟩ | refine ⟨_, _, rfl, .inr ⟨_, SqT.of (by assumption), rfl⟩, ?_⟩))
          refine ⟨(by show 2 ≤ sizeLine; rw [sizeLine_eq]; omega), fun tq ntq => ?_⟩
          have s16 : Same H4 (upd (upd H4 sp (.lst (([(srt2 x y).1, (srt2 x y).2]).map V.str))) tq (.tup [V.str (srt2 x y).1, V.str (srt2 x y).2])) := s15.trans (Same.new ntq)
          have hC6 := s16 _ _ hC4
          have hnk : valV kvs (.inr n) = none := by
            refine valV_none ?_
            rw [keys2 hP]
            intro hm
            obtain ⟨m, hm1, hm2⟩ := List.mem_map.mp hm
            have hm2 : m = n := Sum.inr.inj hm2
            subst hm2
            have hm1 : m ∈ (sortS (es.map (·.1))).take i := by
              obtain ⟨q3, hq3, e3⟩ := List.mem_map.mp hm1
              obtain ⟨q, hq, e⟩ := List.mem_map.mp hq3
              have e3 : q3.1 = m := e3
              rw [← e] at e3
              have e3 : q = m := e3
              rw [← e3]
              exact hq
            obtain ⟨j, hj, e⟩ := List.mem_iff_getElem.mp hm1
            rw [List.length_take] at hj
            rw [List.getElem_take] at e
            have := (List.getElem_inj (nodup_sortS hnd)).mp (e.trans (List.getElem?_eq_some_iff.mp hn).2.symm)
            omega
          have hkl : kvs.length ≤ 63 := by
            rw [hP.length, List.length_map, List.length_take, hll]
            omega
          (repeat (first | refine ⟨_, rfl, ?_⟩ | refine ⟨rfl, ?_⟩ | refine ⟨_, _, rfl, rfl, ?_⟩ | refine iteT ?_ | refine iteF ?_ | refine ⟨(by show (0 : Int) < _; omega), ?_⟩ | refine ⟨(⟨by omega, by omega⟩ : CDiv _ _), ?_⟩ | refine ⟨(⟨by decide, by decide, by decide⟩ : CPow _ _), ?_⟩ | refine ⟨(.inl ⟨by omega, by omega⟩ : CMul _ _), ?_⟩ | refine ⟨(.inr ⟨by omega, by omega⟩ : CMul _ _), ?_⟩ | refine Or.inl ⟨_, rfl, ?_⟩ | refine Or.inr ⟨_, rfl, ?_⟩ | refine ⟨_, _, _, _, true, rfl, .ty _, .base (.str _), kit_ty (by decide +kernel), ?_⟩ | refine ⟨_, _, rfl, ⟨by rw [sizeLine_eq]; omega, rfl⟩, ?_⟩ | refine ⟨_, _, rfl, .inl ⟨_, SqL.of (by assumption), rfl⟩, ?_⟩ | refine ⟨_, _, rfl, .inr ⟨_, SqT.of (by assumption), rfl⟩, ?_⟩))
          refine ⟨chk, _, rfl, DPut.k (k := .inr n) hC6 (small1000 (by omega)), kvs ++ [(.inr n, .ref tq)], _, _, _, rfl, Same.put (s14.trans s16) nchk, ?_, ?_, ?_, ?_⟩
          · rw [upd_ne ne.symm]
            exact s16 _ _ hL4
          · rw [upd_same, putK_new _ hnk]
          · rw [take_snoc (fun n => (n, endsOf es n)) hn]
            refine Paired.snoc ⟨rfl, tq, rfl, ?_⟩ (tup2_mono (fun t xs q => ?_) hP)
            · have hne : t ≠ chk := fun e => by rw [e, hC] at q; cases q
              rw [upd_ne hne]
              exact s16 _ _ (s4 _ _ (s3 _ _ q))
            · rw [upd_ne (fun e => by rw [e, s15 _ _ hC4] at ntq; cases ntq), upd_same, endsOf_eq hlk]
          · intro j hj m hm
            by_cases e : j = i
            · subst e
              rw [hn] at hm
              cases hm
              rw [goodE_of hlk, hnm, hgd]
              rfl
            · exact hok j (by omega) m hm
    · rintro σ H1 ⟨kvs, v3, v4, v5, rfl, s1, hL, hC, hP, hok⟩
      rw [List.length_map, hll] at hok hP
      have tn : tiF ps es = none := tiF_none hok
      have hkl : kvs.length = es.length := by
        rw [hP.length, List.length_map, List.length_take, hll]
        omega
      (repeat (first | refine ⟨_, rfl, ?_⟩ | refine ⟨rfl, ?_⟩ | refine ⟨_, _, rfl, rfl, ?_⟩ | refine iteT ?_ | refine iteF ?_ | refine ⟨(by show (0 : Int) < _; omega), ?_⟩ | refine ⟨(⟨by omega, by omega⟩ : CDiv _ _), ?_⟩ | refine ⟨(⟨by decide, by decide, by decide⟩ : CPow _ _), ?_⟩ | refine ⟨(.inl ⟨by omega, by omega⟩ : CMul _ _), ?_⟩ | refine ⟨(.inr ⟨by omega, by omega⟩ : CMul _ _), ?_⟩ | refine Or.inl ⟨_, rfl, ?_⟩ | refine Or.inr ⟨_, rfl, ?_⟩ | refine ⟨_, _, _, _, true, rfl, .ty _, .base (.str _), kit_ty (by decide +kernel), ?_⟩ | refine ⟨_, _, rfl, ⟨by rw [sizeLine_eq]; omega, rfl⟩, ?_⟩ | refine ⟨_, _, rfl, .inl ⟨_, SqL.of (by assumption), rfl⟩, ?_⟩ | refine ⟨_, _, rfl, .inr ⟨_, SqT.of (by assumption), rfl⟩, ?_⟩))
      refine ⟨chk, kvs, rfl, hC, ?_⟩
      (repeat (first | refine ⟨_, rfl, ?_⟩ | refine ⟨rfl, ?_⟩ | refine ⟨_, _, rfl, rfl, ?_⟩ | refine iteT ?_ | refine iteF ?_ | refine ⟨(by show (0 : Int) < _; omega), ?_⟩ | refine ⟨(⟨by omega, by omega⟩ : CDiv _ _), ?_⟩ | refine ⟨(⟨by decide, by decide, by decide⟩ : CPow _ _), ?_⟩ | refine ⟨(.inl ⟨by omega, by omega⟩ : CMul _ _), ?_⟩ | refine ⟨(.inr ⟨by omega, by omega⟩ : CMul _ _), ?_⟩ | refine Or.inl ⟨_, rfl, ?_⟩ | refine Or.inr ⟨_, rfl, ?_⟩ | refine ⟨_, _, _, _, true, rfl, .ty _, .base (.str _), kit_ty (by decide +kernel), ?_⟩ | refine ⟨_, _, rfl, ⟨by rw [sizeLine_eq]; omega, rfl⟩, ?_⟩ | refine ⟨_, _, rfl, .inl ⟨_, SqL.of (by assumption), rfl⟩, ?_⟩ | refine ⟨_, _, rfl, .inr ⟨_, SqT.of (by assumption), rfl⟩, ?_⟩))
      by_cases h24 : (24 : Int) < (kvs.length : Int)
      · rw [decide_eq_true h24]
        (repeat (first | refine ⟨_, rfl, ?_⟩ | refine ⟨rfl, ?_⟩ | refine ⟨_, _, rfl, rfl, ?_⟩ | refine iteT ?_ | refine iteF ?_ | refine ⟨(by show (0 : Int) < _; omega), ?_⟩ | refine ⟨(⟨by omega, by omega⟩ : CDiv _ _), ?_⟩ | refine ⟨(⟨by decide, by decide, by decide⟩ : CPow _ _), ?_⟩ | refine ⟨(.inl ⟨by omega, by omega⟩ : CMul _ _), ?_⟩ | refine ⟨(.inr ⟨by omega, by omega⟩ : CMul _ _), ?_⟩ | refine Or.inl ⟨_, rfl, ?_⟩ | refine Or.inr ⟨_, rfl, ?_⟩ | refine ⟨_, _, _, _, true, rfl, .ty _, .base (.str _), kit_ty (by decide +kernel), ?_⟩ | refine ⟨_, _, rfl, ⟨by rw [sizeLine_eq]; omega, rfl⟩, ?_⟩ | refine ⟨_, _, rfl, .inl ⟨_, SqL.of (by assumption), rfl⟩, ?_⟩ | refine ⟨_, _, rfl, .inr ⟨_, SqT.of (by assumption), rfl⟩, ?_⟩))
        exact fun dx H2 _ s2 hdx => kM tn (by omega) dx H2 (s1.trans s2) hdx
      · rw [decide_eq_false h24]
        (repeat (first | refine ⟨_, rfl, ?_⟩ | refine ⟨rfl, ?_⟩ | refine ⟨_, _, rfl, rfl, ?_⟩ | refine iteT ?_ | refine iteF ?_ | refine ⟨(by show (0 : Int) < _; omega), ?_⟩ | refine ⟨(⟨by omega, by omega⟩ : CDiv _ _), ?_⟩ | refine ⟨(⟨by decide, by decide, by decide⟩ : CPow _ _), ?_⟩ | refine ⟨(.inl ⟨by omega, by omega⟩ : CMul _ _), ?_⟩ | refine ⟨(.inr ⟨by omega, by omega⟩ : CMul _ _), ?_⟩ | refine Or.inl ⟨_, rfl, ?_⟩ | refine Or.inr ⟨_, rfl, ?_⟩ | refine ⟨_, _, _, _, true, rfl, .ty _, .base (.str _), kit_ty (by decide +kernel), ?_⟩ | refine ⟨_, _, rfl, ⟨by rw [sizeLine_eq]; omega, rfl⟩, ?_⟩ | refine ⟨_, _, rfl, .inl ⟨_, SqL.of (by assumption), rfl⟩, ?_⟩ | refine ⟨_, _, rfl, .inr ⟨_, SqT.of (by assumption), rfl⟩, ?_⟩))
        refine kQ tn (by omega) chk H1 kvs nchk s1 hC ?_
        rw [List.take_of_length_le (by omega)] at hP
        exact hP
end
end BF
set_option Elab.async false
set_option linter.all false
set_option maxRecDepth 100000
set_option maxHeartbeats 4000000
namespace BF
open PySem PySem.Spec PyProof.Rows L2
open C8 (Cal CalAt Met Mak cal0 met0 mak0 fn0 pe_c pe_mk pe_mt pe_mt0 pe_gc fnScope fnBody fnArgs fnScope_by)
open SX
theorem pt_ne : ¬ (("_places" : Str) = "_ties") := by decide +kernel
def wfl (lp td : Addr) : List (Str × V) := putF "_ties" (.ref td) (putF "_places" (.ref lp) [])
theorem wfl_places (lp td : Addr) : (wfl lp td).lookup ("_places" : Str) = some (.ref lp) := by
  unfold wfl
  rw [lookup_putF, if_neg pt_ne, lookup_putF, if_pos rfl]
theorem wfl_ties (lp td : Addr) : (wfl lp td).lookup ("_ties" : Str) = some (.ref td) := by
  unfold wfl
  rw [lookup_putF, if_pos rfl]
theorem wfl_no (lp td : Addr) {m : Str} (h1 : ¬ m = "_ties") (h2 : ¬ m = "_places") : (wfl lp td).lookup m = none := by
  unfold wfl
  rw [lookup_putF, if_neg h1, lookup_putF, if_neg h2]
  rfl
structure WebR (A : Ad) (H : Hp) (x : Addr) (ps : List Str) (ts : List (Str × Str × Str)) : Prop where
  ex : ∃ dx lp td kvs, H x = some (.ins A.C_Web dx (wfl lp td)) ∧ H lp = some (.lst (ps.map V.str)) ∧ H td = some (.dK kvs) ∧ Paired (Tup2 H) kvs ts
  nd : (ts.map (·.1)).Nodup
  op : ∀ p ∈ ps, PyData.strOk p = true
  ot : ∀ t ∈ ts, OkT t
  lp : ps.length ≤ 63
  lt : ts.length ≤ 63
theorem WebR.kp {A : Ad} {H H' : Hp} {w x : Addr} {ps : List Str} {ts : List (Str × Str × Str)} (h : WebR A H x ps ts) (k : Kp w H H') (hw : WellAt H w) : WebR A H' x ps ts := by
  obtain ⟨⟨dx, lp, td, kvs, h1, h2, h3, h4⟩, r1, r2, r3, r4, r5⟩ := h
  exact ⟨⟨dx, lp, td, kvs, k.get hw h1, k.get hw h2 (isW_strs ps), k.get hw h3, tup2_mono (fun t xs q => k.get hw q) h4⟩, r1, r2, r3, r4, r5⟩
theorem WebR.same {A : Ad} {H H' : Hp} {x : Addr} {ps : List Str} {ts : List (Str × Str × Str)} (h : WebR A H x ps ts) (s : Same H H') : WebR A H' x ps ts := by
  obtain ⟨⟨dx, lp, td, kvs, h1, h2, h3, h4⟩, r1, r2, r3, r4, r5⟩ := h
  exact ⟨⟨dx, lp, td, kvs, s _ _ h1, s _ _ h2, s _ _ h3, tup2_mono (fun t xs q => s _ _ q) h4⟩, r1, r2, r3, r4, r5⟩
theorem due_none {ps : List Str} {es : List (Str × TV)} (h : dueOf ps es = none) : (1 ≤ ps.length ∧ ps.length ≤ 16) ∧ fwF ps = none ∧ plF ps = none ∧ tiF ps es = none ∧ es.length ≤ 24 := by
  unfold dueOf at h
  cases e : plF ps with
  | some k => rw [e] at h; cases h
  | none =>
    rw [e] at h
    cases f : tiF ps es with
    | some k => rw [f] at h; cases h
    | none =>
      rw [f] at h
      have hl : es.length ≤ 24 := by
        by_cases c : 24 < es.length
        · simp only [if_pos c] at h
          cases h
        · omega
      unfold plF at e
      by_cases c : 1 ≤ ps.length ∧ ps.length ≤ 16
      · rw [if_pos c] at e
        refine ⟨c, ?_, rfl, rfl, hl⟩
        cases g : fwF ps with
        | none => rfl
        | some k => rw [g] at e; cases e
      · rw [if_neg c] at e
        cases e
theorem fw_names {ps : List Str} (h : fwF ps = none) : ∀ p ∈ ps, isNm p = true := by
  intro p hp
  obtain ⟨i, hi, e⟩ := List.mem_iff_getElem.mp hp
  have := fw_ok h hi
  unfold okAt at this
  rw [List.getElem?_eq_getElem hi, e] at this
  simp only [Bool.and_eq_true] at this
  exact this.1
theorem fw_nodup {ps : List Str} (h : fwF ps = none) : ps.Nodup := by
  rw [List.nodup_iff_pairwise_ne, List.pairwise_iff_getElem]
  intro i j hi hj hij e
  have := fw_ok h hj
  unfold okAt at this
  rw [List.getElem?_eq_getElem hj] at this
  simp only [Bool.and_eq_true, Bool.not_eq_true', decide_eq_false_iff_not] at this
  refine this.2 (List.mem_iff_getElem.mpr ⟨i, by rw [List.length_take]; omega, ?_⟩)
  rw [List.getElem_take]
  exact e
theorem ti_good {ps : List Str} {es : List (Str × TV)} (h : tiF ps es = none) : ∀ n ∈ es.map (·.1), goodE ps es n = true := by
  intro n hn
  unfold tiF at h
  rw [List.find?_eq_none] at h
  have := h n ((mem_sortS _ _).mpr hn)
  simpa using this
theorem srt2_mem {a b x : Str} (h : x = (srt2 a b).1 ∨ x = (srt2 a b).2) : x = a ∨ x = b := by
  unfold srt2 at h
  split at h
  · exact h
  · exact h.symm
theorem ends_ok {ps : List Str} {es : List (Str × TV)} (hp : ∀ p ∈ ps, isNm p = true) (h : tiF ps es = none) : ∀ t ∈ webTies es, OkT t := by
  intro t ht
  obtain ⟨n, hn, rfl⟩ := List.mem_map.mp ht
  obtain ⟨_, a, b, e, ha, hb⟩ := goodE_ends (ti_good h n ((mem_sortS _ _).mp hn))
  have q : ∀ x, x = (srt2 a b).1 ∨ x = (srt2 a b).2 → PyData.strOk x = true := fun x hx => by
    rcases srt2_mem hx with rfl | rfl
    · exact isNm_ok (hp _ ha)
    · exact isNm_ok (hp _ hb)
  unfold OkT
  rw [endsOf_eq e]
  exact ⟨q _ (.inl rfl), q _ (.inr rfl)⟩
def errC (A : Ad) : Due → Addr
  | .places _ => A.C_BadPlaces
  | .ties _ => A.C_BadTies
  | .many => A.C_TooMany
def errF : Due → Str × V
  | .places k => ("index", .int k)
  | .ties n => ("name", .str n)
  | .many => ("limit", .int 24)
/-- all but x stands -/
def FrX (x : Addr) (H H' : Hp) : Prop := ∀ b o, b ≠ x → H b = some o → H' b = some o
theorem wfl_inj {l1 t1 l2 t2 : Addr} (h : wfl l1 t1 = wfl l2 t2) : l1 = l2 ∧ t1 = t2 := by
  have e1 := wfl_places l1 t1
  have e2 := wfl_ties l1 t1
  rw [h, wfl_places] at e1
  rw [h, wfl_ties] at e2
  cases e1
  cases e2
  exact ⟨rfl, rfl⟩
/-- the object's list and dict are new -/
def FldNew (A : Ad) (H H' : Hp) (x : Addr) : Prop := ∀ dx lp td, H' x = some (.ins A.C_Web dx (wfl lp td)) → H lp = none ∧ H td = none
def spWI (K : PySem.W.Frag) (A : Ad) : Sp := fun vs H Q E => ∃ (x dx a d : Addr) (ps : List Str) (es : List (Str × TV)), vs = [.ref x, .ref a, .ref d] ∧ H x = some (.ins A.C_Web dx []) ∧ H a = some (.lst (ps.map V.str)) ∧ TiesR K H d es ∧
  ps.length ≤ 63 ∧ es.length ≤ 63 ∧ (∀ y ∈ ps, y.length ≤ 1000) ∧ (∀ e ∈ es, e.1.length ≤ 1000) ∧
  (∀ du, dueOf ps es = some du → ∀ ex H', FrX x H H' → H' ex = some (.xd [errF du]) → E (.ref (errC A du)) (some ex) H') ∧
  (dueOf ps es = none → ∀ H', FrX x H H' → WebR A H' x (sortS ps) (webTies es) → FldNew A H H' x → Q .non H')
section
variable {P : Program} {w : World} {K : PySem.W.Frag} {mg : Str → Option Value} {base : Heap} {A : Ad}
theorem ok_Web__init (T : Txt K mg A) : FnOk P w K mg base (L2.CX P w) 4 A.f_Web__init A.fd_Web__init ["self", "places", "ties"] (spWI K A) := by
  refine fnX T.u_Web__init sc_Web__init (fun vs H Q E h => ?_) (fun cdv B outer s H vs Q E hr h => ?_)
  · obtain ⟨x, dx, a, d, ps, es, rfl, _⟩ := h
    rfl
  · obtain ⟨x, dx, a, d, ps, es, rfl, hx, ha, hT, hl, hl2, hz, hz2, kE, kQ⟩ := h
    refine ⟨_, (pss_cons (ps_fld (pv 0) (by exact (pe_cX (cal_sorted_places T) hr (by decide) rfl (pa_cons (pv 1) (pa_cons (pe_gint rfl T.g_MOST_WEB_PLACES) pa_nil)) (takes_of rfl rfl rfl rfl))) rfl)
 (pss_one (ps_fld (pv 0) (by exact (pe_cX (cal_checked_ties T) hr (by decide) rfl (pa_cons (pv 2) (pa_cons (pe_fldK K (pv 0) rfl) pa_nil)) (takes_of rfl rfl rfl rfl))) rfl))), ?_⟩
    (repeat (first | refine ⟨_, rfl, ?_⟩ | refine ⟨rfl, ?_⟩ | refine ⟨_, _, rfl, rfl, ?_⟩ | refine iteT ?_ | refine iteF ?_ | refine ⟨(by show (0 : Int) < _; omega), ?_⟩ | refine ⟨(⟨by omega, by omega⟩ : CDiv _ _), ?_⟩ | refine ⟨(⟨by decide, by decide, by decide⟩ : CPow _ _), ?_⟩ | refine ⟨(.inl ⟨by omega, by omega⟩ : CMul _ _), ?_⟩ | refine ⟨(.inr ⟨by omega, by omega⟩ : CMul _ _), ?_⟩ | refine Or.inl ⟨_, rfl, ?_⟩ | refine Or.inr ⟨_, rfl, ?_⟩ | refine ⟨_, _, _, _, true, rfl, .ty _, .base (.str _), kit_ty (by decide +kernel), ?_⟩ | refine ⟨_, _, rfl, ⟨by rw [sizeLine_eq]; omega, rfl⟩, ?_⟩ | refine ⟨_, _, rfl, .inl ⟨_, SqL.of (by assumption), rfl⟩, ?_⟩ | refine ⟨_, _, rfl, .inr ⟨_, SqT.of (by assumption), rfl⟩, ?_⟩))
    refine ⟨a, ps, rfl, ha, hl, hz, fun k hk ex H1 s1 hd => kE (.places k) (by unfold dueOf; rw [hk]) ex H1 (fun b o _ e => s1 _ _ e) hd, fun hn p H1 hp s1 hL => ?_⟩
    have ne : p ≠ x := fun e => by rw [e, hx] at hp; cases hp
    refine ⟨_, rfl, x, A.C_Web, dx, [], rfl, s1 _ _ hx, T.cl_Web, T.na_Web__places, (by decide), ?_⟩
    have f1 : FrX x H (upd H1 x (.ins A.C_Web dx (putF "_places" (.ref p) []))) := fun b o n e => by rw [upd_ne n]; exact s1 _ _ e
    have hpm : ∀ y, y ∈ sortS ps ↔ y ∈ ps := mem_sortS ps
    (repeat (first | refine ⟨_, rfl, ?_⟩ | refine ⟨rfl, ?_⟩ | refine ⟨_, _, rfl, rfl, ?_⟩ | refine iteT ?_ | refine iteF ?_ | refine ⟨(by show (0 : Int) < _; omega), ?_⟩ | refine ⟨(⟨by omega, by omega⟩ : CDiv _ _), ?_⟩ | refine ⟨(⟨by decide, by decide, by decide⟩ : CPow _ _), ?_⟩ | refine ⟨(.inl ⟨by omega, by omega⟩ : CMul _ _), ?_⟩ | refine ⟨(.inr ⟨by omega, by omega⟩ : CMul _ _), ?_⟩ | refine Or.inl ⟨_, rfl, ?_⟩ | refine Or.inr ⟨_, rfl, ?_⟩ | refine ⟨_, _, _, _, true, rfl, .ty _, .base (.str _), kit_ty (by decide +kernel), ?_⟩ | refine ⟨_, _, rfl, ⟨by rw [sizeLine_eq]; omega, rfl⟩, ?_⟩ | refine ⟨_, _, rfl, .inl ⟨_, SqL.of (by assumption), rfl⟩, ?_⟩ | refine ⟨_, _, rfl, .inr ⟨_, SqT.of (by assumption), rfl⟩, ?_⟩))
    refine ⟨x, A.C_Web, dx, _, _, rfl, upd_same, T.cl_Web, T.na_Web__places, (by rfl), ?_⟩
    refine ⟨d, p, es, sortS ps, rfl, hT.fr (x := x) f1 hx upd_same, hl2, hz2, ?_, fun n hn ex H2 s2 hd => ?_, fun hm h24 ex H2 s2 hd => ?_, fun hm h24 td H2 kvs htd s2 hk hP => ?_⟩
    · rw [upd_ne ne]
      exact hL
    · rw [tiF_perm hpm] at hn
      exact kE (.ties n) (by unfold dueOf; rw [‹plF ps = none›, hn]) ex H2 (fun b o nb e => s2 _ _ (f1 b o nb e)) hd
    · rw [tiF_perm hpm] at hm
      exact kE .many (by unfold dueOf; rw [‹plF ps = none›, hm]; simp only [if_pos h24]) ex H2 (fun b o nb e => s2 _ _ (f1 b o nb e)) hd
    · rw [tiF_perm hpm] at hm
      have hx2 : H2 x = some (.ins A.C_Web dx (putF "_places" (.ref p) [])) := s2 _ _ upd_same
      have htx : td ≠ x := fun e => by rw [e, upd_same] at htd; cases htd
      have hdn : dueOf ps es = none := by
        unfold dueOf
        rw [‹plF ps = none›, hm]
        simp only [if_neg (show ¬ 24 < es.length by omega)]
      obtain ⟨_, hfw, _, _, _⟩ := due_none hdn
      have hnm := fw_names hfw
      refine ⟨_, rfl, x, A.C_Web, dx, _, rfl, hx2, T.cl_Web, T.na_Web__ties, (by show 1 < 1000; decide), ?_⟩
      refine kQ hdn _ (fun b o nb e => by rw [upd_ne nb]; exact s2 _ _ (f1 b o nb e)) ⟨⟨dx, p, td, kvs, upd_same, ?_, ?_, ?_⟩, ?_, ?_, ends_ok hnm hm, ?_, ?_⟩ ?_
      · rw [upd_ne ne]
        refine s2 _ _ ?_
        rw [upd_ne ne]
        exact hL
      · rw [upd_ne htx]
        exact hk
      · refine tup2_mono (fun t xs q => ?_) hP
        rw [upd_ne (fun e => by rw [e, hx2] at q; cases q)]
        exact q
      · exact webTies_nodup hT.nd
      · exact fun q hq => isNm_ok (hnm q ((mem_sortS _ _).mp hq))
      · rw [sortS_length]
        exact hl
      · unfold webTies
        rw [List.length_map, sortS_length, List.length_map]
        exact hl2
      · intro dx2 lp2 td2 h2
        rw [upd_same] at h2
        have h3 : wfl p td = wfl lp2 td2 := (HO.ins.inj (Option.some.inj h2)).2.2
        obtain ⟨rfl, rfl⟩ := wfl_inj h3
        exact ⟨hp, s1.free (by rw [upd_ne htx] at htd; exact htd)⟩
end
end BF
set_option Elab.async false
set_option linter.all false
set_option maxRecDepth 100000
set_option maxHeartbeats 4000000
namespace BF
open PySem PySem.Spec PyProof.Rows L2
open C8 (Cal CalAt Met Mak cal0 met0 mak0 fn0 pe_c pe_mk pe_mt pe_mt0 pe_gc fnScope fnBody fnArgs fnScope_by)
open SX
section
variable {P : Program} {w : World} {K : PySem.W.Frag} {mg : Str → Option Value} {base : Heap} {A : Ad}
theorem mak_Web (T : Txt K mg A) : MakX P w K mg base 4 "Web" A.C_Web (spWI K A) := ⟨_, _, _, ⟨T.mk_Web, T.fi_Web__init, T.fn_Web__init, T.kc_Web⟩, ok_Web__init T, T.gC_Web, T.b_Web__init⟩
def spWP (A : Ad) : Sp := fun vs H Q _ => ∃ (x : Addr) (ps : List Str) (ts : List (Str × Str × Str)), vs = [.ref x] ∧ WebR A H x ps ts ∧ ∀ p H', H p = none → Same H H' → H' p = some (.lst (ps.map V.str)) → Q (.ref p) H'
theorem met_Web_places (T : Txt K mg A) : Met P w K mg base 1 A.C_Web "places" (spWP A) [] := by
  refine met0 T.cl_Web ⟨T.fi_Web_places, T.fn_Web_places, T.kp_Web_places⟩ T.u_Web_places T.b_Web_places sc_Web_places (fun vs H Q E h => ?_) (fun cdv B outer s H vs Q E hr h => ?_)
  · obtain ⟨x, ps, ts, rfl, _⟩ := h
    rfl
  · obtain ⟨x, ps, ts, rfl, ⟨⟨dx, lp, td, kvs, h1, h2, h3, h4⟩, nd, op, ot, hl, hl2⟩, k⟩ := h
    refine ⟨_, (pss_one (ps_ret (pe_callTy (listK K) (by rfl) T.z_list (by decide +kernel) (pa_cons (pe_fldK K (pv 0) rfl) pa_nil)))), ?_⟩
    (repeat (first | refine ⟨_, rfl, ?_⟩ | refine ⟨rfl, ?_⟩ | refine ⟨_, _, rfl, rfl, ?_⟩ | refine iteT ?_ | refine iteF ?_ | refine ⟨(by show (0 : Int) < _; omega), ?_⟩ | refine ⟨(⟨by omega, by omega⟩ : CDiv _ _), ?_⟩ | refine ⟨(⟨by decide, by decide, by decide⟩ : CPow _ _), ?_⟩ | refine ⟨(.inl ⟨by omega, by omega⟩ : CMul _ _), ?_⟩ | refine ⟨(.inr ⟨by omega, by omega⟩ : CMul _ _), ?_⟩ | refine Or.inl ⟨_, rfl, ?_⟩ | refine Or.inr ⟨_, rfl, ?_⟩ | refine ⟨_, _, _, _, true, rfl, .ty _, .base (.str _), kit_ty (by decide +kernel), ?_⟩ | refine ⟨_, _, rfl, ⟨by rw [sizeLine_eq]; omega, rfl⟩, ?_⟩ | refine ⟨_, _, rfl, .inl ⟨_, SqL.of (by assumption), rfl⟩, ?_⟩ | refine ⟨_, _, rfl, .inr ⟨_, SqT.of (by assumption), rfl⟩, ?_⟩))
    refine ⟨x, A.C_Web, dx, _, _, rfl, h1, T.cl_Web, T.na_Web__places, wfl_places _ _, ?_⟩
    (repeat (first | refine ⟨_, rfl, ?_⟩ | refine ⟨rfl, ?_⟩ | refine ⟨_, _, rfl, rfl, ?_⟩ | refine iteT ?_ | refine iteF ?_ | refine ⟨(by show (0 : Int) < _; omega), ?_⟩ | refine ⟨(⟨by omega, by omega⟩ : CDiv _ _), ?_⟩ | refine ⟨(⟨by decide, by decide, by decide⟩ : CPow _ _), ?_⟩ | refine ⟨(.inl ⟨by omega, by omega⟩ : CMul _ _), ?_⟩ | refine ⟨(.inr ⟨by omega, by omega⟩ : CMul _ _), ?_⟩ | refine Or.inl ⟨_, rfl, ?_⟩ | refine Or.inr ⟨_, rfl, ?_⟩ | refine ⟨_, _, _, _, true, rfl, .ty _, .base (.str _), kit_ty (by decide +kernel), ?_⟩ | refine ⟨_, _, rfl, ⟨by rw [sizeLine_eq]; omega, rfl⟩, ?_⟩ | refine ⟨_, _, rfl, .inl ⟨_, SqL.of (by assumption), rfl⟩, ?_⟩ | refine ⟨_, _, rfl, .inr ⟨_, SqT.of (by assumption), rfl⟩, ?_⟩))
    exact ⟨lp, _, rfl, .inl (SqL.of h2), fun p hp => k p _ hp (Same.new hp) upd_same⟩
def spWT (A : Ad) : Sp := fun vs H Q _ => ∃ (x : Addr) (ps : List Str) (ts : List (Str × Str × Str)), vs = [.ref x] ∧ WebR A H x ps ts ∧ ∀ p H' kvs, H p = none → Same H H' → H' p = some (.dK kvs) → Paired (Tup2 H') kvs ts → Q (.ref p) H'
theorem met_Web_ties (T : Txt K mg A) : Met P w K mg base 1 A.C_Web "ties" (spWT A) [] := by
  refine met0 T.cl_Web ⟨T.fi_Web_ties, T.fn_Web_ties, T.kp_Web_ties⟩ T.u_Web_ties T.b_Web_ties sc_Web_ties (fun vs H Q E h => ?_) (fun cdv B outer s H vs Q E hr h => ?_)
  · obtain ⟨x, ps, ts, rfl, _⟩ := h
    rfl
  · obtain ⟨x, ps, ts, rfl, ⟨⟨dx, lp, td, kvs, h1, h2, h3, h4⟩, nd, op, ot, hl, hl2⟩, k⟩ := h
    refine ⟨_, (pss_one (ps_ret (pe_callTy call_dictD (by rfl) T.z_dict (by decide +kernel) (pa_cons (pe_fldK K (pv 0) rfl) pa_nil)))), ?_⟩
    (repeat (first | refine ⟨_, rfl, ?_⟩ | refine ⟨rfl, ?_⟩ | refine ⟨_, _, rfl, rfl, ?_⟩ | refine iteT ?_ | refine iteF ?_ | refine ⟨(by show (0 : Int) < _; omega), ?_⟩ | refine ⟨(⟨by omega, by omega⟩ : CDiv _ _), ?_⟩ | refine ⟨(⟨by decide, by decide, by decide⟩ : CPow _ _), ?_⟩ | refine ⟨(.inl ⟨by omega, by omega⟩ : CMul _ _), ?_⟩ | refine ⟨(.inr ⟨by omega, by omega⟩ : CMul _ _), ?_⟩ | refine Or.inl ⟨_, rfl, ?_⟩ | refine Or.inr ⟨_, rfl, ?_⟩ | refine ⟨_, _, _, _, true, rfl, .ty _, .base (.str _), kit_ty (by decide +kernel), ?_⟩ | refine ⟨_, _, rfl, ⟨by rw [sizeLine_eq]; omega, rfl⟩, ?_⟩ | refine ⟨_, _, rfl, .inl ⟨_, SqL.of (by assumption), rfl⟩, ?_⟩ | refine ⟨_, _, rfl, .inr ⟨_, SqT.of (by assumption), rfl⟩, ?_⟩))
    refine ⟨x, A.C_Web, dx, _, _, rfl, h1, T.cl_Web, T.na_Web__ties, wfl_ties _ _, ?_⟩
    (repeat (first | refine ⟨_, rfl, ?_⟩ | refine ⟨rfl, ?_⟩ | refine ⟨_, _, rfl, rfl, ?_⟩ | refine iteT ?_ | refine iteF ?_ | refine ⟨(by show (0 : Int) < _; omega), ?_⟩ | refine ⟨(⟨by omega, by omega⟩ : CDiv _ _), ?_⟩ | refine ⟨(⟨by decide, by decide, by decide⟩ : CPow _ _), ?_⟩ | refine ⟨(.inl ⟨by omega, by omega⟩ : CMul _ _), ?_⟩ | refine ⟨(.inr ⟨by omega, by omega⟩ : CMul _ _), ?_⟩ | refine Or.inl ⟨_, rfl, ?_⟩ | refine Or.inr ⟨_, rfl, ?_⟩ | refine ⟨_, _, _, _, true, rfl, .ty _, .base (.str _), kit_ty (by decide +kernel), ?_⟩ | refine ⟨_, _, rfl, ⟨by rw [sizeLine_eq]; omega, rfl⟩, ?_⟩ | refine ⟨_, _, rfl, .inl ⟨_, SqL.of (by assumption), rfl⟩, ?_⟩ | refine ⟨_, _, rfl, .inr ⟨_, SqT.of (by assumption), rfl⟩, ?_⟩))
    exact ⟨td, kvs, rfl, .inl h3, fun p hp => k p _ kvs hp (Same.new hp) upd_same (tup2_mono (fun t xs q => (Same.new hp) _ _ q) h4)⟩
def spWE (A : Ad) : Sp := fun vs H Q E => ∃ (x : Addr) (n : Str) (ps : List Str) (ts : List (Str × Str × Str)), vs = [.ref x, .str n] ∧ WebR A H x ps ts ∧
  (∀ e t, (n, e) ∈ ts → H t = some (.tup [.str e.1, .str e.2]) → Q (.ref t) H) ∧ (n ∉ ts.map (·.1) → ∀ dx H', Same H H' → H' dx = some (.xd [("thing", .str n)]) → E (.ref A.C_NoThing) (some dx) H')
theorem met_Web_ends (T : Txt K mg A) : MetX P w K mg base 3 A.C_Web "ends" (spWE A) := by
  refine ⟨_, _, _, T.cl_Web, ⟨T.fi_Web_ends, T.fn_Web_ends, T.kp_Web_ends⟩, fnX T.u_Web_ends sc_Web_ends (fun vs H Q E h => ?_) (fun cdv B outer s H vs Q E hr h => ?_), T.b_Web_ends⟩
  · obtain ⟨x, n, ps, ts, rfl, _⟩ := h
    rfl
  · obtain ⟨x, n, ps, ts, rfl, ⟨⟨dx, lp, td, kvs, h1, h2, h3, h4⟩, nd, op, ot, hl, hl2⟩, kQ, kE⟩ := h
    refine ⟨_, (pss_cons (ps_if (pt_cmp (pc_dnotin (hu_of hr) (pv 1) (pe_fldK K (pv 0) rfl))) (pss_one (ps_raise rfl (takes_of rfl rfl rfl rfl) (pm_NoThing T (hr.mono (by decide)) (pa_cons (pv 1) pa_nil)))) pss_nil)
 (pss_one (ps_ret (pe_dget (hu_of hr) (pe_fldK K (pv 0) rfl) (pv 1) (fun _ _ => rfl))))), ?_⟩
    (repeat (first | refine ⟨_, rfl, ?_⟩ | refine ⟨rfl, ?_⟩ | refine ⟨_, _, rfl, rfl, ?_⟩ | refine iteT ?_ | refine iteF ?_ | refine ⟨(by show (0 : Int) < _; omega), ?_⟩ | refine ⟨(⟨by omega, by omega⟩ : CDiv _ _), ?_⟩ | refine ⟨(⟨by decide, by decide, by decide⟩ : CPow _ _), ?_⟩ | refine ⟨(.inl ⟨by omega, by omega⟩ : CMul _ _), ?_⟩ | refine ⟨(.inr ⟨by omega, by omega⟩ : CMul _ _), ?_⟩ | refine Or.inl ⟨_, rfl, ?_⟩ | refine Or.inr ⟨_, rfl, ?_⟩ | refine ⟨_, _, _, _, true, rfl, .ty _, .base (.str _), kit_ty (by decide +kernel), ?_⟩ | refine ⟨_, _, rfl, ⟨by rw [sizeLine_eq]; omega, rfl⟩, ?_⟩ | refine ⟨_, _, rfl, .inl ⟨_, SqL.of (by assumption), rfl⟩, ?_⟩ | refine ⟨_, _, rfl, .inr ⟨_, SqT.of (by assumption), rfl⟩, ?_⟩))
    refine ⟨x, A.C_Web, dx, _, _, rfl, h1, T.cl_Web, T.na_Web__ties, wfl_ties _ _, ?_⟩
    by_cases hm : n ∈ ts.map (·.1)
    · obtain ⟨⟨m, e⟩, hm', rfl⟩ := List.mem_map.mp hm
      obtain ⟨t, hv, ht⟩ := get2 h4 nd hm'
      refine ⟨td, _, rfl, dget_s (.inl h3) hv, ?_⟩
      (repeat (first | refine ⟨_, rfl, ?_⟩ | refine ⟨rfl, ?_⟩ | refine ⟨_, _, rfl, rfl, ?_⟩ | refine iteT ?_ | refine iteF ?_ | refine ⟨(by show (0 : Int) < _; omega), ?_⟩ | refine ⟨(⟨by omega, by omega⟩ : CDiv _ _), ?_⟩ | refine ⟨(⟨by decide, by decide, by decide⟩ : CPow _ _), ?_⟩ | refine ⟨(.inl ⟨by omega, by omega⟩ : CMul _ _), ?_⟩ | refine ⟨(.inr ⟨by omega, by omega⟩ : CMul _ _), ?_⟩ | refine Or.inl ⟨_, rfl, ?_⟩ | refine Or.inr ⟨_, rfl, ?_⟩ | refine ⟨_, _, _, _, true, rfl, .ty _, .base (.str _), kit_ty (by decide +kernel), ?_⟩ | refine ⟨_, _, rfl, ⟨by rw [sizeLine_eq]; omega, rfl⟩, ?_⟩ | refine ⟨_, _, rfl, .inl ⟨_, SqL.of (by assumption), rfl⟩, ?_⟩ | refine ⟨_, _, rfl, .inr ⟨_, SqT.of (by assumption), rfl⟩, ?_⟩))
      refine ⟨x, A.C_Web, dx, _, _, rfl, h1, T.cl_Web, T.na_Web__ties, wfl_ties _ _, ?_⟩
      (repeat (first | refine ⟨_, rfl, ?_⟩ | refine ⟨rfl, ?_⟩ | refine ⟨_, _, rfl, rfl, ?_⟩ | refine iteT ?_ | refine iteF ?_ | refine ⟨(by show (0 : Int) < _; omega), ?_⟩ | refine ⟨(⟨by omega, by omega⟩ : CDiv _ _), ?_⟩ | refine ⟨(⟨by decide, by decide, by decide⟩ : CPow _ _), ?_⟩ | refine ⟨(.inl ⟨by omega, by omega⟩ : CMul _ _), ?_⟩ | refine ⟨(.inr ⟨by omega, by omega⟩ : CMul _ _), ?_⟩ | refine Or.inl ⟨_, rfl, ?_⟩ | refine Or.inr ⟨_, rfl, ?_⟩ | refine ⟨_, _, _, _, true, rfl, .ty _, .base (.str _), kit_ty (by decide +kernel), ?_⟩ | refine ⟨_, _, rfl, ⟨by rw [sizeLine_eq]; omega, rfl⟩, ?_⟩ | refine ⟨_, _, rfl, .inl ⟨_, SqL.of (by assumption), rfl⟩, ?_⟩ | refine ⟨_, _, rfl, .inr ⟨_, SqT.of (by assumption), rfl⟩, ?_⟩))
      exact ⟨td, _, rfl, dget_s (.inl h3) hv, kQ e t hm' ht⟩
    · have hv : valV kvs (.inr n) = none := valV_none (by
        rw [keys2 h4]
        exact fun q => by
          obtain ⟨m, h5, h6⟩ := List.mem_map.mp q
          cases h6
          exact hm h5)
      refine ⟨td, none, rfl, .inl ⟨kvs, .inr n, .inl h3, rfl, hv.symm⟩, ?_⟩
      (repeat (first | refine ⟨_, rfl, ?_⟩ | refine ⟨rfl, ?_⟩ | refine ⟨_, _, rfl, rfl, ?_⟩ | refine iteT ?_ | refine iteF ?_ | refine ⟨(by show (0 : Int) < _; omega), ?_⟩ | refine ⟨(⟨by omega, by omega⟩ : CDiv _ _), ?_⟩ | refine ⟨(⟨by decide, by decide, by decide⟩ : CPow _ _), ?_⟩ | refine ⟨(.inl ⟨by omega, by omega⟩ : CMul _ _), ?_⟩ | refine ⟨(.inr ⟨by omega, by omega⟩ : CMul _ _), ?_⟩ | refine Or.inl ⟨_, rfl, ?_⟩ | refine Or.inr ⟨_, rfl, ?_⟩ | refine ⟨_, _, _, _, true, rfl, .ty _, .base (.str _), kit_ty (by decide +kernel), ?_⟩ | refine ⟨_, _, rfl, ⟨by rw [sizeLine_eq]; omega, rfl⟩, ?_⟩ | refine ⟨_, _, rfl, .inl ⟨_, SqL.of (by assumption), rfl⟩, ?_⟩ | refine ⟨_, _, rfl, .inr ⟨_, SqT.of (by assumption), rfl⟩, ?_⟩))
      exact fun dx H' _ s1 hd => kE hm dx H' s1 hd
def spWQ (A : Ad) : Sp := fun vs H Q _ => ∃ (x y : Addr) (ps qs : List Str) (ts us : List (Str × Str × Str)), vs = [.ref x, .ref y] ∧ WebR A H x ps ts ∧ WebR A H y qs us ∧ ∀ b : Bool,
  (ps ≠ qs → b = false) → (ts.length ≠ us.length → b = false) → (ps = qs → ts = us → b = true) → Q (.bl b) H
theorem ok_Web_eq (T : Txt K mg A) : FnOk P w K mg base C8.CX0 2 A.f_Web__eq A.fd_Web__eq ["self", "other"] (spWQ A) := by
  refine C8.fn0 T.u_Web__eq sc_Web__eq (fun vs H Q E h => ?_) (fun cdv B outer s H vs Q E hr h => ?_)
  · obtain ⟨x, y, ps, qs, ts, us, rfl, _⟩ := h
    rfl
  · obtain ⟨x, y, ps, qs, ts, us, rfl, ⟨⟨dx, lp, td, kvs, h1, h2, h3, h4⟩, nd, op, ot, hl, hl2⟩, ⟨⟨dx', lp', td', kvs', h1', h2', h3', h4'⟩, nd', op', ot', hl', hl2'⟩, k⟩ := h
    refine ⟨_, (pss_one (ps_ret (pe_and (pe_callB (isiK K) (by rfl) T.z_isinstance (by decide +kernel) (pa_cons (pv 1) (pa_cons (pe_gc (v := .ref A.C_Web) rfl ⟨_, T.gC_Web, rfl⟩) pa_nil))) (pe_and (pe_cmpR (eqDK K hr) (pe_fldK K (pv 0) rfl) (pe_fldK K (pv 1) rfl) (nomark _)) (pe_one (pe_cmpR (eqDDK K hr) (pe_fldK K (pv 0) rfl) (pe_fldK K (pv 1) rfl) (nomark _))))))), ?_⟩
    (repeat (first | refine ⟨_, rfl, ?_⟩ | refine ⟨rfl, ?_⟩ | refine ⟨_, _, rfl, rfl, ?_⟩ | refine iteT ?_ | refine iteF ?_ | refine ⟨(by show (0 : Int) < _; omega), ?_⟩ | refine ⟨(⟨by omega, by omega⟩ : CDiv _ _), ?_⟩ | refine ⟨(⟨by decide, by decide, by decide⟩ : CPow _ _), ?_⟩ | refine ⟨(.inl ⟨by omega, by omega⟩ : CMul _ _), ?_⟩ | refine ⟨(.inr ⟨by omega, by omega⟩ : CMul _ _), ?_⟩ | refine Or.inl ⟨_, rfl, ?_⟩ | refine Or.inr ⟨_, rfl, ?_⟩ | refine ⟨_, _, _, _, true, rfl, .ty _, .base (.str _), kit_ty (by decide +kernel), ?_⟩ | refine ⟨_, _, rfl, ⟨by rw [sizeLine_eq]; omega, rfl⟩, ?_⟩ | refine ⟨_, _, rfl, .inl ⟨_, SqL.of (by assumption), rfl⟩, ?_⟩ | refine ⟨_, _, rfl, .inr ⟨_, SqT.of (by assumption), rfl⟩, ?_⟩))
    refine ⟨_, _, _, _, true, rfl, .own _, .base (.ins h1' T.cl_Web T.wc_Web T.wg_Web T.wt_Web T.wm_Web), T.wk_Web, ?_⟩
    (repeat (first | refine ⟨_, rfl, ?_⟩ | refine ⟨rfl, ?_⟩ | refine ⟨_, _, rfl, rfl, ?_⟩ | refine iteT ?_ | refine iteF ?_ | refine ⟨(by show (0 : Int) < _; omega), ?_⟩ | refine ⟨(⟨by omega, by omega⟩ : CDiv _ _), ?_⟩ | refine ⟨(⟨by decide, by decide, by decide⟩ : CPow _ _), ?_⟩ | refine ⟨(.inl ⟨by omega, by omega⟩ : CMul _ _), ?_⟩ | refine ⟨(.inr ⟨by omega, by omega⟩ : CMul _ _), ?_⟩ | refine Or.inl ⟨_, rfl, ?_⟩ | refine Or.inr ⟨_, rfl, ?_⟩ | refine ⟨_, _, _, _, true, rfl, .ty _, .base (.str _), kit_ty (by decide +kernel), ?_⟩ | refine ⟨_, _, rfl, ⟨by rw [sizeLine_eq]; omega, rfl⟩, ?_⟩ | refine ⟨_, _, rfl, .inl ⟨_, SqL.of (by assumption), rfl⟩, ?_⟩ | refine ⟨_, _, rfl, .inr ⟨_, SqT.of (by assumption), rfl⟩, ?_⟩))
    refine ⟨x, A.C_Web, dx, _, _, rfl, h1, T.cl_Web, T.na_Web__places, wfl_places _ _, ?_⟩
    (repeat (first | refine ⟨_, rfl, ?_⟩ | refine ⟨rfl, ?_⟩ | refine ⟨_, _, rfl, rfl, ?_⟩ | refine iteT ?_ | refine iteF ?_ | refine ⟨(by show (0 : Int) < _; omega), ?_⟩ | refine ⟨(⟨by omega, by omega⟩ : CDiv _ _), ?_⟩ | refine ⟨(⟨by decide, by decide, by decide⟩ : CPow _ _), ?_⟩ | refine ⟨(.inl ⟨by omega, by omega⟩ : CMul _ _), ?_⟩ | refine ⟨(.inr ⟨by omega, by omega⟩ : CMul _ _), ?_⟩ | refine Or.inl ⟨_, rfl, ?_⟩ | refine Or.inr ⟨_, rfl, ?_⟩ | refine ⟨_, _, _, _, true, rfl, .ty _, .base (.str _), kit_ty (by decide +kernel), ?_⟩ | refine ⟨_, _, rfl, ⟨by rw [sizeLine_eq]; omega, rfl⟩, ?_⟩ | refine ⟨_, _, rfl, .inl ⟨_, SqL.of (by assumption), rfl⟩, ?_⟩ | refine ⟨_, _, rfl, .inr ⟨_, SqT.of (by assumption), rfl⟩, ?_⟩))
    refine ⟨y, A.C_Web, dx', _, _, rfl, h1', T.cl_Web, T.na_Web__places, wfl_places _ _, ?_⟩
    refine ⟨_, _, dp_strs h2, dp_strs h2', shaped_strs op, shaped_strs op', ?_⟩
    rw [eqv_strs]
    by_cases hp : ps = qs
    · rw [decide_eq_true hp]
      (repeat (first | refine ⟨_, rfl, ?_⟩ | refine ⟨rfl, ?_⟩ | refine ⟨_, _, rfl, rfl, ?_⟩ | refine iteT ?_ | refine iteF ?_ | refine ⟨(by show (0 : Int) < _; omega), ?_⟩ | refine ⟨(⟨by omega, by omega⟩ : CDiv _ _), ?_⟩ | refine ⟨(⟨by decide, by decide, by decide⟩ : CPow _ _), ?_⟩ | refine ⟨(.inl ⟨by omega, by omega⟩ : CMul _ _), ?_⟩ | refine ⟨(.inr ⟨by omega, by omega⟩ : CMul _ _), ?_⟩ | refine Or.inl ⟨_, rfl, ?_⟩ | refine Or.inr ⟨_, rfl, ?_⟩ | refine ⟨_, _, _, _, true, rfl, .ty _, .base (.str _), kit_ty (by decide +kernel), ?_⟩ | refine ⟨_, _, rfl, ⟨by rw [sizeLine_eq]; omega, rfl⟩, ?_⟩ | refine ⟨_, _, rfl, .inl ⟨_, SqL.of (by assumption), rfl⟩, ?_⟩ | refine ⟨_, _, rfl, .inr ⟨_, SqT.of (by assumption), rfl⟩, ?_⟩))
      refine ⟨x, A.C_Web, dx, _, _, rfl, h1, T.cl_Web, T.na_Web__ties, wfl_ties _ _, ?_⟩
      (repeat (first | refine ⟨_, rfl, ?_⟩ | refine ⟨rfl, ?_⟩ | refine ⟨_, _, rfl, rfl, ?_⟩ | refine iteT ?_ | refine iteF ?_ | refine ⟨(by show (0 : Int) < _; omega), ?_⟩ | refine ⟨(⟨by omega, by omega⟩ : CDiv _ _), ?_⟩ | refine ⟨(⟨by decide, by decide, by decide⟩ : CPow _ _), ?_⟩ | refine ⟨(.inl ⟨by omega, by omega⟩ : CMul _ _), ?_⟩ | refine ⟨(.inr ⟨by omega, by omega⟩ : CMul _ _), ?_⟩ | refine Or.inl ⟨_, rfl, ?_⟩ | refine Or.inr ⟨_, rfl, ?_⟩ | refine ⟨_, _, _, _, true, rfl, .ty _, .base (.str _), kit_ty (by decide +kernel), ?_⟩ | refine ⟨_, _, rfl, ⟨by rw [sizeLine_eq]; omega, rfl⟩, ?_⟩ | refine ⟨_, _, rfl, .inl ⟨_, SqL.of (by assumption), rfl⟩, ?_⟩ | refine ⟨_, _, rfl, .inr ⟨_, SqT.of (by assumption), rfl⟩, ?_⟩))
      refine ⟨y, A.C_Web, dx', _, _, rfl, h1', T.cl_Web, T.na_Web__ties, wfl_ties _ _, ?_⟩
      refine ⟨_, _, dkd_of h3 h4 ot, dkd_of h3' h4' ot', ?_⟩
      refine k _ (fun h => absurd hp h) (fun h => eqKD_len h) (fun _ h => ?_)
      subst h
      exact eqKD_mem rfl nd fun t ht => ht
    · rw [decide_eq_false hp]
      (repeat (first | refine ⟨_, rfl, ?_⟩ | refine ⟨rfl, ?_⟩ | refine ⟨_, _, rfl, rfl, ?_⟩ | refine iteT ?_ | refine iteF ?_ | refine ⟨(by show (0 : Int) < _; omega), ?_⟩ | refine ⟨(⟨by omega, by omega⟩ : CDiv _ _), ?_⟩ | refine ⟨(⟨by decide, by decide, by decide⟩ : CPow _ _), ?_⟩ | refine ⟨(.inl ⟨by omega, by omega⟩ : CMul _ _), ?_⟩ | refine ⟨(.inr ⟨by omega, by omega⟩ : CMul _ _), ?_⟩ | refine Or.inl ⟨_, rfl, ?_⟩ | refine Or.inr ⟨_, rfl, ?_⟩ | refine ⟨_, _, _, _, true, rfl, .ty _, .base (.str _), kit_ty (by decide +kernel), ?_⟩ | refine ⟨_, _, rfl, ⟨by rw [sizeLine_eq]; omega, rfl⟩, ?_⟩ | refine ⟨_, _, rfl, .inl ⟨_, SqL.of (by assumption), rfl⟩, ?_⟩ | refine ⟨_, _, rfl, .inr ⟨_, SqT.of (by assumption), rfl⟩, ?_⟩))
      exact k false (fun _ => rfl) (fun _ => rfl) (fun h => absurd h hp)
theorem op_eq_Web {X : Cx} (T : Txt X.K X.mg A) {j : Nat} (hr : Room (j + 2) X.A) : OpR X (compareOp .Eq) (rEqO A.C_Web (spWQ A) id) := op_eqO (ok_Web_eq T) T.b_Web__eq C8.pass0 T.nc_Web (hr.mono (by omega))
theorem op_ne_Web {X : Cx} (T : Txt X.K X.mg A) {j : Nat} (hr : Room (j + 3) X.A) : OpR X (compareOp .NotEq) (rEqO A.C_Web (spWQ A) not) := op_neO (ok_Web_eq T) T.b_Web__eq C8.pass0 T.nc_Web (hr.mono (by omega))
end
end BF
set_option Elab.async false
set_option linter.all false
set_option maxRecDepth 100000
set_option maxHeartbeats 4000000
namespace BF
open PySem PySem.Spec PyProof.Rows L2
open C8 (Cal CalAt Met Mak cal0 met0 mak0 fn0 pe_c pe_mk pe_mt pe_mt0 pe_gc fnScope fnBody fnArgs fnScope_by)
open SX
def dueT : Due → List V
  | .places k => [.str "places", .int k]
  | .ties n => [.str "ties", .str n]
  | .many => [.str "many", .int 24]
theorem cut_to (xs : List V) (k : Nat) : cutV xs none (some (k : Int)) = xs.take k := by
  unfold cutV
  rw [HT.sIx_none, HT.sIx_nat, List.drop_zero, Nat.sub_zero]
  by_cases h : k ≤ xs.length
  · rw [Nat.min_eq_left h]
  · rw [Nat.min_eq_right (by omega), List.take_of_length_le (Nat.le_refl _), List.take_of_length_le (by omega)]
theorem cut_from (xs : List V) (k : Nat) : cutV xs (some (k : Int)) none = xs.drop k := by
  unfold cutV
  rw [HT.sIx_none, HT.sIx_nat]
  by_cases h : k ≤ xs.length
  · rw [Nat.min_eq_left h, List.take_of_length_le (by rw [List.length_drop]; omega)]
  · rw [Nat.min_eq_right (by omega), List.drop_eq_nil_of_le (Nat.le_refl _), List.drop_eq_nil_of_le (by omega), List.take_nil]
section
variable {P : Program} {w : World} {K : PySem.W.Frag} {mg : Str → Option Value} {base : Heap} {A : Ad}
def spDue (K : PySem.W.Frag) : Sp := fun vs H Q _ => ∃ (a d : Addr) (ps : List Str) (es : List (Str × TV)), vs = [.ref a, .ref d] ∧ H a = some (.lst (ps.map V.str)) ∧ TiesR K H d es ∧
  ps.length ≤ 63 ∧ es.length ≤ 63 ∧ (∀ y ∈ ps, y.length ≤ 1000) ∧ (∀ e ∈ es, e.1.length ≤ 1000) ∧
  (∀ du, dueOf ps es = some du → ∀ p H', H p = none → Same H H' → H' p = some (.tup (dueT du)) → Q (.ref p) H') ∧ (dueOf ps es = none → ∀ H', Same H H' → Q .non H')
theorem cal_law_due (T : Txt K mg A) : Cal P w K mg base 2 "_law_due" (spDue K) [] := by
  refine cal0 T.d_law_due T.b_law_due .nil sc_law_due (fun vs H Q E h => ?_) (fun cdv B outer s H vs Q E hr h => ?_)
  · obtain ⟨a, d, ps, es, rfl, _⟩ := h
    rfl
  · obtain ⟨a, d, ps, es, rfl, ha, hT, hl, hl2, hz, hz2, kS, kN⟩ := h
    refine ⟨_, (pss_cons (ps_if (pt_not (pt_chain op_le op_le pe_int (pe_callB (lenK K) (by rfl) T.z_len (by decide +kernel) (pa_cons (pv 0) pa_nil)) pe_int)) (pss_one (ps_ret (pe_tup (pa_cons pe_str (pa_cons (pe_un un_neg pe_int) pa_nil))))) pss_nil)
 (pss_cons (ps_for PassesOwn.never rfl (pi_range1 (by rfl) T.z_range (pa_cons (pe_callB (lenK K) (by rfl) T.z_len (by decide +kernel) (pa_cons (pv 0) pa_nil)) pa_nil)) (pg_name (i := 2) sc_law_due.nd rfl (by first | exact Or.inl rfl | exact Or.inr rfl)) (pss_one (ps_if (PW.pt (pw_or (pt_not (pt_val (pe_c (cal_law_is_name T) hr (by decide) rfl (pa_cons (pe_ix (ixLK K) (pv 0) (pv 2) (fun _ _ => rfl)) pa_nil)))) (pw_or1 (pt_cmpR (in_seqK K) (pe_ix (ixLK K) (pv 0) (pv 2) (fun _ _ => rfl)) (pe_slice (slLK K) (pv 0) po_none (po_some (pv 2))) rfl)))) (pss_one (ps_ret (pe_tup (pa_cons pe_str (pa_cons (pv 2) pa_nil))))) pss_nil)))
 (pss_cons (ps_for PassesOwn.never rfl (pi_list (pe_callB (call_sortedD rfl) (by rfl) T.z_sorted (by decide +kernel) (pa_cons (pv 1) pa_nil))) (pg_name (i := 3) sc_law_due.nd rfl (by first | exact Or.inl rfl | exact Or.inr rfl)) (pss_cons (ps_set (i := 4) sc_law_due.nd rfl (by first | exact Or.inl rfl | exact Or.inr rfl) (pe_dget (hu_of hr) (pv 1) (pv 3) (fun _ _ => rfl)))
 (pss_cons (ps_if (PW.pt (pw_or (pt_not (pt_val (pe_c (cal_law_is_name T) hr (by decide) rfl (pa_cons (pv 3) pa_nil)))) (pw_or (pt_not (pt_val (pe_callB (isiK K) (by rfl) T.z_isinstance (by decide +kernel) (pa_cons (pv 4) (pa_cons (pe_bltn (v := .ty "tuple") (by rfl) T.z_tuple (by decide +kernel) rfl) pa_nil))))) (pw_or1 (pt_cmpR op_ne (pe_callB (lenK K) (by rfl) T.z_len (by decide +kernel) (pa_cons (pv 4) pa_nil)) pe_int (nomark _)))))) (pss_one (ps_ret (pe_tup (pa_cons pe_str (pa_cons (pv 3) pa_nil))))) pss_nil)
 (pss_one (ps_if (PW.pt (pw_or (pt_not (pt_val (pe_callB (isiK K) (by rfl) T.z_isinstance (by decide +kernel) (pa_cons (pe_ix (ixTK K) (pv 4) pe_int (fun _ _ => rfl)) (pa_cons (pe_bltn (v := .ty "str") (by rfl) T.z_str (by decide +kernel) rfl) pa_nil))))) (pw_or (pt_not (pt_val (pe_callB (isiK K) (by rfl) T.z_isinstance (by decide +kernel) (pa_cons (pe_ix (ixTK K) (pv 4) pe_int (fun _ _ => rfl)) (pa_cons (pe_bltn (v := .ty "str") (by rfl) T.z_str (by decide +kernel) rfl) pa_nil))))) (pw_or (pt_cmpR (notIn_seqK K) (pe_ix (ixTK K) (pv 4) pe_int (fun _ _ => rfl)) (pv 0) rfl) (pw_or1 (pt_cmpR (notIn_seqK K) (pe_ix (ixTK K) (pv 4) pe_int (fun _ _ => rfl)) (pv 0) rfl)))))) (pss_one (ps_ret (pe_tup (pa_cons pe_str (pa_cons (pv 3) pa_nil))))) pss_nil)))))
 (pss_one (ps_ret (pe_ifExp (pt_cmpR op_gt (pe_callB call_lenD (by rfl) T.z_len (by decide +kernel) (pa_cons (pv 1) pa_nil)) pe_int (nomark _)) (pe_tup (pa_cons pe_str (pa_cons pe_int pa_nil))) pe_non)))))), ?_⟩
    have bad : ¬ (1 ≤ ps.length ∧ ps.length ≤ 16) → dueOf ps es = some (.places (-1)) := fun h => by
      unfold dueOf plF
      rw [if_neg h]
    have out : ∀ du, dueOf ps es = some du → ∀ H1, Same H H1 → ∀ p, H1 p = none → Q (.ref p) (upd H1 p (.tup (dueT du))) := fun du hd H1 s1 p np => kS du hd p _ (s1.free np) (Same.put s1 (s1.free np)) upd_same
    have no2 : ¬ (1 ≤ ps.length ∧ ps.length ≤ 16) → ∀ p, H p = none → Q (.ref p) (upd H p (.tup (dueT (.places (-1))))) := fun h p np => out _ (bad h) H (Same.refl H) p np
    (repeat (first | refine ⟨_, rfl, ?_⟩ | refine ⟨rfl, ?_⟩ | refine ⟨_, _, rfl, rfl, ?_⟩ | refine iteT ?_ | refine iteF ?_ | refine ⟨(by show (0 : Int) < _; omega), ?_⟩ | refine ⟨(⟨by omega, by omega⟩ : CDiv _ _), ?_⟩ | refine ⟨(⟨by decide, by decide, by decide⟩ : CPow _ _), ?_⟩ | refine ⟨(.inl ⟨by omega, by omega⟩ : CMul _ _), ?_⟩ | refine ⟨(.inr ⟨by omega, by omega⟩ : CMul _ _), ?_⟩ | refine Or.inl ⟨_, rfl, ?_⟩ | refine Or.inr ⟨_, rfl, ?_⟩ | refine ⟨_, _, _, _, true, rfl, .ty _, .base (.str _), kit_ty (by decide +kernel), ?_⟩ | refine ⟨_, _, rfl, ⟨by rw [sizeLine_eq]; omega, rfl⟩, ?_⟩ | refine ⟨_, _, rfl, .inl ⟨_, SqL.of (by assumption), rfl⟩, ?_⟩ | refine ⟨_, _, rfl, .inr ⟨_, SqT.of (by assumption), rfl⟩, ?_⟩))
    refine ite2 (fun h1 => ?_) (fun h1 => ?_)
    · have h1 := of_decide_eq_true h1
      rw [List.length_map] at h1
      (repeat (first | refine ⟨_, rfl, ?_⟩ | refine ⟨rfl, ?_⟩ | refine ⟨_, _, rfl, rfl, ?_⟩ | refine iteT ?_ | refine iteF ?_ | refine ⟨(by show (0 : Int) < _; omega), ?_⟩ | refine ⟨(⟨by omega, by omega⟩ : CDiv _ _), ?_⟩ | refine ⟨(⟨by decide, by decide, by decide⟩ : CPow _ _), ?_⟩ | refine ⟨(.inl ⟨by omega, by omega⟩ : CMul _ _), ?_⟩ | refine ⟨(.inr ⟨by omega, by omega⟩ : CMul _ _), ?_⟩ | refine Or.inl ⟨_, rfl, ?_⟩ | refine Or.inr ⟨_, rfl, ?_⟩ | refine ⟨_, _, _, _, true, rfl, .ty _, .base (.str _), kit_ty (by decide +kernel), ?_⟩ | refine ⟨_, _, rfl, ⟨by rw [sizeLine_eq]; omega, rfl⟩, ?_⟩ | refine ⟨_, _, rfl, .inl ⟨_, SqL.of (by assumption), rfl⟩, ?_⟩ | refine ⟨_, _, rfl, .inr ⟨_, SqT.of (by assumption), rfl⟩, ?_⟩))
      by_cases h2 : ((ps.map V.str).length : Int) ≤ 16
      · rw [decide_eq_true h2]
        rw [List.length_map] at h2
        have hin : 1 ≤ ps.length ∧ ps.length ≤ 16 := by omega
        have hbig : ((ps.map V.str).length : Int) < 2 ^ 62 := by rw [List.length_map]; omega
        (repeat (first | refine ⟨_, rfl, ?_⟩ | refine ⟨rfl, ?_⟩ | refine ⟨_, _, rfl, rfl, ?_⟩ | refine iteT ?_ | refine iteF ?_ | refine ⟨(by show (0 : Int) < _; omega), ?_⟩ | refine ⟨(⟨by omega, by omega⟩ : CDiv _ _), ?_⟩ | refine ⟨(⟨by decide, by decide, by decide⟩ : CPow _ _), ?_⟩ | refine ⟨(.inl ⟨by omega, by omega⟩ : CMul _ _), ?_⟩ | refine ⟨(.inr ⟨by omega, by omega⟩ : CMul _ _), ?_⟩ | refine Or.inl ⟨_, rfl, ?_⟩ | refine Or.inr ⟨_, rfl, ?_⟩ | refine ⟨_, _, _, _, true, rfl, .ty _, .base (.str _), kit_ty (by decide +kernel), ?_⟩ | refine ⟨_, _, rfl, ⟨by rw [sizeLine_eq]; omega, rfl⟩, ?_⟩ | refine ⟨_, _, rfl, .inl ⟨_, SqL.of (by assumption), rfl⟩, ?_⟩ | refine ⟨_, _, rfl, .inr ⟨_, SqT.of (by assumption), rfl⟩, ?_⟩))
        refine ⟨by first | omega | (rw [List.length_map]; omega), by first | omega | (rw [List.length_map]; omega), for_it walk_range (fun i σ H' => ∃ (v2 v3 v4 : Option V), σ = [some (.ref a), some (.ref d), v2, v3, v4] ∧ Same H H' ∧ ∀ j, j < i → okAt ps j = true)
          ⟨_, _, _, rfl, Same.refl H, fun j hj => absurd hj (Nat.not_lt_zero _)⟩ (fun _ _ _ _ _ => True.intro) ?_ ?_⟩
        · rintro i v σ H1 H2 hi ⟨v2, v3, v4, rfl, s1, hok⟩ ⟨rfl, hv0⟩
          have hv0 : v = V.int ((i : Nat) : Int) := hv0.trans (congrArg V.int (Int.zero_add _))
          subst hv0
          have hi : i < ps.length := by first | exact hi | simpa using hi
          have hx : ps[i]? = some ps[i] := List.getElem?_eq_getElem hi
          have ha1 := s1 _ _ ha
          have hv : (ps.map V.str)[i]? = some (V.str ps[i]) := by rw [List.getElem?_map, hx]; rfl
          have no : okAt ps i = false → dueOf ps es = some (.places (i : Nat)) := fun h => by
            unfold dueOf plF
            rw [if_pos hin, fw_some hi h hok]
            rfl
          (repeat (first | refine ⟨_, rfl, ?_⟩ | refine ⟨rfl, ?_⟩ | refine ⟨_, _, rfl, rfl, ?_⟩ | refine iteT ?_ | refine iteF ?_ | refine ⟨(by show (0 : Int) < _; omega), ?_⟩ | refine ⟨(⟨by omega, by omega⟩ : CDiv _ _), ?_⟩ | refine ⟨(⟨by decide, by decide, by decide⟩ : CPow _ _), ?_⟩ | refine ⟨(.inl ⟨by omega, by omega⟩ : CMul _ _), ?_⟩ | refine ⟨(.inr ⟨by omega, by omega⟩ : CMul _ _), ?_⟩ | refine Or.inl ⟨_, rfl, ?_⟩ | refine Or.inr ⟨_, rfl, ?_⟩ | refine ⟨_, _, _, _, true, rfl, .ty _, .base (.str _), kit_ty (by decide +kernel), ?_⟩ | refine ⟨_, _, rfl, ⟨by rw [sizeLine_eq]; omega, rfl⟩, ?_⟩ | refine ⟨_, _, rfl, .inl ⟨_, SqL.of (by assumption), rfl⟩, ?_⟩ | refine ⟨_, _, rfl, .inr ⟨_, SqT.of (by assumption), rfl⟩, ?_⟩))
          refine ⟨a, _, _, V.str ps[i], rfl, rfl, SqL.of ha1, atI_nat hv, ?_⟩
          refine ⟨_, rfl, hz _ (List.getElem_mem hi), fun H3 s3 => ?_⟩
          have ha3 := s3 _ _ ha1
          have s13 := s1.trans s3
          cases hnm : isNm ps[i] with
          | false =>
            (repeat (first | refine ⟨_, rfl, ?_⟩ | refine ⟨rfl, ?_⟩ | refine ⟨_, _, rfl, rfl, ?_⟩ | refine iteT ?_ | refine iteF ?_ | refine ⟨(by show (0 : Int) < _; omega), ?_⟩ | refine ⟨(⟨by omega, by omega⟩ : CDiv _ _), ?_⟩ | refine ⟨(⟨by decide, by decide, by decide⟩ : CPow _ _), ?_⟩ | refine ⟨(.inl ⟨by omega, by omega⟩ : CMul _ _), ?_⟩ | refine ⟨(.inr ⟨by omega, by omega⟩ : CMul _ _), ?_⟩ | refine Or.inl ⟨_, rfl, ?_⟩ | refine Or.inr ⟨_, rfl, ?_⟩ | refine ⟨_, _, _, _, true, rfl, .ty _, .base (.str _), kit_ty (by decide +kernel), ?_⟩ | refine ⟨_, _, rfl, ⟨by rw [sizeLine_eq]; omega, rfl⟩, ?_⟩ | refine ⟨_, _, rfl, .inl ⟨_, SqL.of (by assumption), rfl⟩, ?_⟩ | refine ⟨_, _, rfl, .inr ⟨_, SqT.of (by assumption), rfl⟩, ?_⟩))
            refine ⟨(by show 2 ≤ sizeLine; rw [sizeLine_eq]; omega), fun p np => ?_⟩
            exact out _ (no (by unfold okAt; rw [hx]; simp [hnm])) H3 s13 p np
          | true =>
            (repeat (first | refine ⟨_, rfl, ?_⟩ | refine ⟨rfl, ?_⟩ | refine ⟨_, _, rfl, rfl, ?_⟩ | refine iteT ?_ | refine iteF ?_ | refine ⟨(by show (0 : Int) < _; omega), ?_⟩ | refine ⟨(⟨by omega, by omega⟩ : CDiv _ _), ?_⟩ | refine ⟨(⟨by decide, by decide, by decide⟩ : CPow _ _), ?_⟩ | refine ⟨(.inl ⟨by omega, by omega⟩ : CMul _ _), ?_⟩ | refine ⟨(.inr ⟨by omega, by omega⟩ : CMul _ _), ?_⟩ | refine Or.inl ⟨_, rfl, ?_⟩ | refine Or.inr ⟨_, rfl, ?_⟩ | refine ⟨_, _, _, _, true, rfl, .ty _, .base (.str _), kit_ty (by decide +kernel), ?_⟩ | refine ⟨_, _, rfl, ⟨by rw [sizeLine_eq]; omega, rfl⟩, ?_⟩ | refine ⟨_, _, rfl, .inl ⟨_, SqL.of (by assumption), rfl⟩, ?_⟩ | refine ⟨_, _, rfl, .inr ⟨_, SqT.of (by assumption), rfl⟩, ?_⟩))
            refine ⟨a, _, _, V.str ps[i], rfl, rfl, SqL.of ha3, atI_nat hv, ?_⟩
            (repeat (first | refine ⟨_, rfl, ?_⟩ | refine ⟨rfl, ?_⟩ | refine ⟨_, _, rfl, rfl, ?_⟩ | refine iteT ?_ | refine iteF ?_ | refine ⟨(by show (0 : Int) < _; omega), ?_⟩ | refine ⟨(⟨by omega, by omega⟩ : CDiv _ _), ?_⟩ | refine ⟨(⟨by decide, by decide, by decide⟩ : CPow _ _), ?_⟩ | refine ⟨(.inl ⟨by omega, by omega⟩ : CMul _ _), ?_⟩ | refine ⟨(.inr ⟨by omega, by omega⟩ : CMul _ _), ?_⟩ | refine Or.inl ⟨_, rfl, ?_⟩ | refine Or.inr ⟨_, rfl, ?_⟩ | refine ⟨_, _, _, _, true, rfl, .ty _, .base (.str _), kit_ty (by decide +kernel), ?_⟩ | refine ⟨_, _, rfl, ⟨by rw [sizeLine_eq]; omega, rfl⟩, ?_⟩ | refine ⟨_, _, rfl, .inl ⟨_, SqL.of (by assumption), rfl⟩, ?_⟩ | refine ⟨_, _, rfl, .inr ⟨_, SqT.of (by assumption), rfl⟩, ?_⟩))
            refine ⟨a, _, rfl, SqL.of ha3, fun sl nsl => ?_⟩
            rw [cut_to, ← List.map_take]
            have s4 : Same H3 (upd H3 sl (.lst ((ps.take i).map V.str))) := Same.new nsl
            refine ⟨sl, _, rfl, .inl (SqL.of upd_same), rfl, flat_strs _, ?_⟩
            rw [if_neg (by decide), inV_strs]
            (repeat (first | refine ⟨_, rfl, ?_⟩ | refine ⟨rfl, ?_⟩ | refine ⟨_, _, rfl, rfl, ?_⟩ | refine iteT ?_ | refine iteF ?_ | refine ⟨(by show (0 : Int) < _; omega), ?_⟩ | refine ⟨(⟨by omega, by omega⟩ : CDiv _ _), ?_⟩ | refine ⟨(⟨by decide, by decide, by decide⟩ : CPow _ _), ?_⟩ | refine ⟨(.inl ⟨by omega, by omega⟩ : CMul _ _), ?_⟩ | refine ⟨(.inr ⟨by omega, by omega⟩ : CMul _ _), ?_⟩ | refine Or.inl ⟨_, rfl, ?_⟩ | refine Or.inr ⟨_, rfl, ?_⟩ | refine ⟨_, _, _, _, true, rfl, .ty _, .base (.str _), kit_ty (by decide +kernel), ?_⟩ | refine ⟨_, _, rfl, ⟨by rw [sizeLine_eq]; omega, rfl⟩, ?_⟩ | refine ⟨_, _, rfl, .inl ⟨_, SqL.of (by assumption), rfl⟩, ?_⟩ | refine ⟨_, _, rfl, .inr ⟨_, SqT.of (by assumption), rfl⟩, ?_⟩))
            by_cases hm : ps[i] ∈ ps.take i
            · rw [decide_eq_true hm]
              (repeat (first | refine ⟨_, rfl, ?_⟩ | refine ⟨rfl, ?_⟩ | refine ⟨_, _, rfl, rfl, ?_⟩ | refine iteT ?_ | refine iteF ?_ | refine ⟨(by show (0 : Int) < _; omega), ?_⟩ | refine ⟨(⟨by omega, by omega⟩ : CDiv _ _), ?_⟩ | refine ⟨(⟨by decide, by decide, by decide⟩ : CPow _ _), ?_⟩ | refine ⟨(.inl ⟨by omega, by omega⟩ : CMul _ _), ?_⟩ | refine ⟨(.inr ⟨by omega, by omega⟩ : CMul _ _), ?_⟩ | refine Or.inl ⟨_, rfl, ?_⟩ | refine Or.inr ⟨_, rfl, ?_⟩ | refine ⟨_, _, _, _, true, rfl, .ty _, .base (.str _), kit_ty (by decide +kernel), ?_⟩ | refine ⟨_, _, rfl, ⟨by rw [sizeLine_eq]; omega, rfl⟩, ?_⟩ | refine ⟨_, _, rfl, .inl ⟨_, SqL.of (by assumption), rfl⟩, ?_⟩ | refine ⟨_, _, rfl, .inr ⟨_, SqT.of (by assumption), rfl⟩, ?_⟩))
              refine ⟨(by show 2 ≤ sizeLine; rw [sizeLine_eq]; omega), fun p np => ?_⟩
              exact out _ (no (by unfold okAt; rw [hx]; simp [hnm, hm])) _ (s13.trans s4) p np
            · rw [decide_eq_false hm]
              (repeat (first | refine ⟨_, rfl, ?_⟩ | refine ⟨rfl, ?_⟩ | refine ⟨_, _, rfl, rfl, ?_⟩ | refine iteT ?_ | refine iteF ?_ | refine ⟨(by show (0 : Int) < _; omega), ?_⟩ | refine ⟨(⟨by omega, by omega⟩ : CDiv _ _), ?_⟩ | refine ⟨(⟨by decide, by decide, by decide⟩ : CPow _ _), ?_⟩ | refine ⟨(.inl ⟨by omega, by omega⟩ : CMul _ _), ?_⟩ | refine ⟨(.inr ⟨by omega, by omega⟩ : CMul _ _), ?_⟩ | refine Or.inl ⟨_, rfl, ?_⟩ | refine Or.inr ⟨_, rfl, ?_⟩ | refine ⟨_, _, _, _, true, rfl, .ty _, .base (.str _), kit_ty (by decide +kernel), ?_⟩ | refine ⟨_, _, rfl, ⟨by rw [sizeLine_eq]; omega, rfl⟩, ?_⟩ | refine ⟨_, _, rfl, .inl ⟨_, SqL.of (by assumption), rfl⟩, ?_⟩ | refine ⟨_, _, rfl, .inr ⟨_, SqT.of (by assumption), rfl⟩, ?_⟩))
              refine ⟨_, _, _, rfl, s13.trans s4, fun j hj => ?_⟩
              by_cases e : j = i
              · subst e
                unfold okAt
                rw [hx]
                simp [hnm, hm]
              · exact hok j (by omega)
        · rintro σ H1 ⟨v2, v3, v4, rfl, s1, hok⟩
          have hpl : plF ps = none := by
            unfold plF
            rw [if_pos hin, fw_none (fun j hj => hok j (by first | exact hj | simpa using hj))]
            rfl
          have no : ∀ n, tiF ps es = some n → dueOf ps es = some (.ties n) := fun n h => by
            unfold dueOf
            rw [hpl, h]
          obtain ⟨⟨kvs0, hd0, hp0⟩, hnd⟩ := id hT
          have hkey := tie_keys hp0
          have hlen0 : kvs0.length = es.length := hp0.length
          (repeat (first | refine ⟨_, rfl, ?_⟩ | refine ⟨rfl, ?_⟩ | refine ⟨_, _, rfl, rfl, ?_⟩ | refine iteT ?_ | refine iteF ?_ | refine ⟨(by show (0 : Int) < _; omega), ?_⟩ | refine ⟨(⟨by omega, by omega⟩ : CDiv _ _), ?_⟩ | refine ⟨(⟨by decide, by decide, by decide⟩ : CPow _ _), ?_⟩ | refine ⟨(.inl ⟨by omega, by omega⟩ : CMul _ _), ?_⟩ | refine ⟨(.inr ⟨by omega, by omega⟩ : CMul _ _), ?_⟩ | refine Or.inl ⟨_, rfl, ?_⟩ | refine Or.inr ⟨_, rfl, ?_⟩ | refine ⟨_, _, _, _, true, rfl, .ty _, .base (.str _), kit_ty (by decide +kernel), ?_⟩ | refine ⟨_, _, rfl, ⟨by rw [sizeLine_eq]; omega, rfl⟩, ?_⟩ | refine ⟨_, _, rfl, .inl ⟨_, SqL.of (by assumption), rfl⟩, ?_⟩ | refine ⟨_, _, rfl, .inr ⟨_, SqT.of (by assumption), rfl⟩, ?_⟩))
          refine ⟨d, kvs0, es.map (·.1), rfl, .inl (s1 _ _ hd0), hkey, by rw [List.length_map]; omega, fun ys lk pm so nlk => ?_⟩
          rw [sortS_eq pm so]
          have s2 : Same H1 (upd H1 lk (.lst ((sortS (es.map (·.1))).map V.str))) := Same.new nlk
          have hll : (sortS (es.map (·.1))).length = es.length := by rw [sortS_length, List.length_map]
          (repeat (first | refine ⟨_, rfl, ?_⟩ | refine ⟨rfl, ?_⟩ | refine ⟨_, _, rfl, rfl, ?_⟩ | refine iteT ?_ | refine iteF ?_ | refine ⟨(by show (0 : Int) < _; omega), ?_⟩ | refine ⟨(⟨by omega, by omega⟩ : CDiv _ _), ?_⟩ | refine ⟨(⟨by decide, by decide, by decide⟩ : CPow _ _), ?_⟩ | refine ⟨(.inl ⟨by omega, by omega⟩ : CMul _ _), ?_⟩ | refine ⟨(.inr ⟨by omega, by omega⟩ : CMul _ _), ?_⟩ | refine Or.inl ⟨_, rfl, ?_⟩ | refine Or.inr ⟨_, rfl, ?_⟩ | refine ⟨_, _, _, _, true, rfl, .ty _, .base (.str _), kit_ty (by decide +kernel), ?_⟩ | refine ⟨_, _, rfl, ⟨by rw [sizeLine_eq]; omega, rfl⟩, ?_⟩ | refine ⟨_, _, rfl, .inl ⟨_, SqL.of (by assumption), rfl⟩, ?_⟩ | refine ⟨_, _, rfl, .inr ⟨_, SqT.of (by assumption), rfl⟩, ?_⟩))
          refine ⟨⟨_, SqL.of upd_same⟩, for_it walk_list (fun i σ H' => ∃ (v2 v3 v4 : Option V), σ = [some (.ref a), some (.ref d), v2, v3, v4] ∧ Same H H' ∧ H' lk = some (.lst ((sortS (es.map (·.1))).map V.str)) ∧ ∀ j, j < i → ∀ m, (sortS (es.map (·.1)))[j]? = some m → goodE ps es m = true)
            ⟨_, _, _, rfl, s1.trans s2, upd_same, fun j hj => absurd hj (Nat.not_lt_zero _)⟩ (fun i σ H' _ ⟨_, _, _, _, _, h, _⟩ => SqL.of h) ?_ ?_⟩
          · rintro i v σ H3 H4 hi ⟨v2, v3, v4, rfl, s3, hL, hok⟩ ⟨rfl, hv⟩
            rw [List.length_map] at hi
            obtain ⟨n, hn⟩ : ∃ n, (sortS (es.map (·.1)))[i]? = some n := ⟨_, List.getElem?_eq_getElem hi⟩
            have ev : v = V.str n := by
              rw [List.getElem?_map, hn] at hv
              exact (Option.some.inj hv).symm
            subst ev
            have hmem : n ∈ es.map (·.1) := (mem_sortS _ _).mp (List.mem_of_getElem? hn)
            obtain ⟨v, tv, hg, hlk, hr1⟩ := tie_get hp0 hmem
            have hnx : n.length ≤ 1000 := by
              obtain ⟨e, he, e2⟩ := List.mem_map.mp hmem
              rw [← e2]
              exact hz2 e he
            have wrong : goodE ps es n = false → ∀ H5, Same H H5 → ∀ p, H5 p = none → Q (.ref p) (upd H5 p (.tup [.str "ties", .str n])) := fun h => out _ (no n (tiF_some hn h hok))
            (repeat (first | refine ⟨_, rfl, ?_⟩ | refine ⟨rfl, ?_⟩ | refine ⟨_, _, rfl, rfl, ?_⟩ | refine iteT ?_ | refine iteF ?_ | refine ⟨(by show (0 : Int) < _; omega), ?_⟩ | refine ⟨(⟨by omega, by omega⟩ : CDiv _ _), ?_⟩ | refine ⟨(⟨by decide, by decide, by decide⟩ : CPow _ _), ?_⟩ | refine ⟨(.inl ⟨by omega, by omega⟩ : CMul _ _), ?_⟩ | refine ⟨(.inr ⟨by omega, by omega⟩ : CMul _ _), ?_⟩ | refine Or.inl ⟨_, rfl, ?_⟩ | refine Or.inr ⟨_, rfl, ?_⟩ | refine ⟨_, _, _, _, true, rfl, .ty _, .base (.str _), kit_ty (by decide +kernel), ?_⟩ | refine ⟨_, _, rfl, ⟨by rw [sizeLine_eq]; omega, rfl⟩, ?_⟩ | refine ⟨_, _, rfl, .inl ⟨_, SqL.of (by assumption), rfl⟩, ?_⟩ | refine ⟨_, _, rfl, .inr ⟨_, SqT.of (by assumption), rfl⟩, ?_⟩))
            refine ⟨d, v, rfl, dget_s (.inl (s3 _ _ hd0)) hg, ?_⟩
            (repeat (first | refine ⟨_, rfl, ?_⟩ | refine ⟨rfl, ?_⟩ | refine ⟨_, _, rfl, rfl, ?_⟩ | refine iteT ?_ | refine iteF ?_ | refine ⟨(by show (0 : Int) < _; omega), ?_⟩ | refine ⟨(⟨by omega, by omega⟩ : CDiv _ _), ?_⟩ | refine ⟨(⟨by decide, by decide, by decide⟩ : CPow _ _), ?_⟩ | refine ⟨(.inl ⟨by omega, by omega⟩ : CMul _ _), ?_⟩ | refine ⟨(.inr ⟨by omega, by omega⟩ : CMul _ _), ?_⟩ | refine Or.inl ⟨_, rfl, ?_⟩ | refine Or.inr ⟨_, rfl, ?_⟩ | refine ⟨_, _, _, _, true, rfl, .ty _, .base (.str _), kit_ty (by decide +kernel), ?_⟩ | refine ⟨_, _, rfl, ⟨by rw [sizeLine_eq]; omega, rfl⟩, ?_⟩ | refine ⟨_, _, rfl, .inl ⟨_, SqL.of (by assumption), rfl⟩, ?_⟩ | refine ⟨_, _, rfl, .inr ⟨_, SqT.of (by assumption), rfl⟩, ?_⟩))
            refine ⟨hnx, fun H5 s5 => ?_⟩
            have s35 := s3.trans s5
            have hL5 := s5 _ _ hL
            cases hnm : isNm n with
            | false =>
              (repeat (first | refine ⟨_, rfl, ?_⟩ | refine ⟨rfl, ?_⟩ | refine ⟨_, _, rfl, rfl, ?_⟩ | refine iteT ?_ | refine iteF ?_ | refine ⟨(by show (0 : Int) < _; omega), ?_⟩ | refine ⟨(⟨by omega, by omega⟩ : CDiv _ _), ?_⟩ | refine ⟨(⟨by decide, by decide, by decide⟩ : CPow _ _), ?_⟩ | refine ⟨(.inl ⟨by omega, by omega⟩ : CMul _ _), ?_⟩ | refine ⟨(.inr ⟨by omega, by omega⟩ : CMul _ _), ?_⟩ | refine Or.inl ⟨_, rfl, ?_⟩ | refine Or.inr ⟨_, rfl, ?_⟩ | refine ⟨_, _, _, _, true, rfl, .ty _, .base (.str _), kit_ty (by decide +kernel), ?_⟩ | refine ⟨_, _, rfl, ⟨by rw [sizeLine_eq]; omega, rfl⟩, ?_⟩ | refine ⟨_, _, rfl, .inl ⟨_, SqL.of (by assumption), rfl⟩, ?_⟩ | refine ⟨_, _, rfl, .inr ⟨_, SqT.of (by assumption), rfl⟩, ?_⟩))
              exact ⟨(by show 2 ≤ sizeLine; rw [sizeLine_eq]; omega), fun p np => wrong (by rw [goodE_of hlk, hnm]; rfl) H5 s35 p np⟩
            | true =>
              have ge : ∀ b, goodT ps tv = b → goodE ps es n = b := fun b hb => by rw [goodE_of hlk, hnm, hb, Bool.true_and]
              have hr5 := hr1.same s35
              (repeat (first | refine ⟨_, rfl, ?_⟩ | refine ⟨rfl, ?_⟩ | refine ⟨_, _, rfl, rfl, ?_⟩ | refine iteT ?_ | refine iteF ?_ | refine ⟨(by show (0 : Int) < _; omega), ?_⟩ | refine ⟨(⟨by omega, by omega⟩ : CDiv _ _), ?_⟩ | refine ⟨(⟨by decide, by decide, by decide⟩ : CPow _ _), ?_⟩ | refine ⟨(.inl ⟨by omega, by omega⟩ : CMul _ _), ?_⟩ | refine ⟨(.inr ⟨by omega, by omega⟩ : CMul _ _), ?_⟩ | refine Or.inl ⟨_, rfl, ?_⟩ | refine Or.inr ⟨_, rfl, ?_⟩ | refine ⟨_, _, _, _, true, rfl, .ty _, .base (.str _), kit_ty (by decide +kernel), ?_⟩ | refine ⟨_, _, rfl, ⟨by rw [sizeLine_eq]; omega, rfl⟩, ?_⟩ | refine ⟨_, _, rfl, .inl ⟨_, SqL.of (by assumption), rfl⟩, ?_⟩ | refine ⟨_, _, rfl, .inr ⟨_, SqT.of (by assumption), rfl⟩, ?_⟩))
              cases hr5 with
              | no ty kt =>
                refine ⟨_, _, _, _, false, rfl, .ty _, ty, kt, ?_⟩
                (repeat (first | refine ⟨_, rfl, ?_⟩ | refine ⟨rfl, ?_⟩ | refine ⟨_, _, rfl, rfl, ?_⟩ | refine iteT ?_ | refine iteF ?_ | refine ⟨(by show (0 : Int) < _; omega), ?_⟩ | refine ⟨(⟨by omega, by omega⟩ : CDiv _ _), ?_⟩ | refine ⟨(⟨by decide, by decide, by decide⟩ : CPow _ _), ?_⟩ | refine ⟨(.inl ⟨by omega, by omega⟩ : CMul _ _), ?_⟩ | refine ⟨(.inr ⟨by omega, by omega⟩ : CMul _ _), ?_⟩ | refine Or.inl ⟨_, rfl, ?_⟩ | refine Or.inr ⟨_, rfl, ?_⟩ | refine ⟨_, _, _, _, true, rfl, .ty _, .base (.str _), kit_ty (by decide +kernel), ?_⟩ | refine ⟨_, _, rfl, ⟨by rw [sizeLine_eq]; omega, rfl⟩, ?_⟩ | refine ⟨_, _, rfl, .inl ⟨_, SqL.of (by assumption), rfl⟩, ?_⟩ | refine ⟨_, _, rfl, .inr ⟨_, SqT.of (by assumption), rfl⟩, ?_⟩))
                exact ⟨(by show 2 ≤ sizeLine; rw [sizeLine_eq]; omega), fun p np => wrong (ge _ rfl) H5 s35 p np⟩
              | long hp hn2 =>
                refine ⟨_, _, _, _, true, rfl, .ty _, .base (.tup hp), kit_ty (by decide +kernel), ?_⟩
                (repeat (first | refine ⟨_, rfl, ?_⟩ | refine ⟨rfl, ?_⟩ | refine ⟨_, _, rfl, rfl, ?_⟩ | refine iteT ?_ | refine iteF ?_ | refine ⟨(by show (0 : Int) < _; omega), ?_⟩ | refine ⟨(⟨by omega, by omega⟩ : CDiv _ _), ?_⟩ | refine ⟨(⟨by decide, by decide, by decide⟩ : CPow _ _), ?_⟩ | refine ⟨(.inl ⟨by omega, by omega⟩ : CMul _ _), ?_⟩ | refine ⟨(.inr ⟨by omega, by omega⟩ : CMul _ _), ?_⟩ | refine Or.inl ⟨_, rfl, ?_⟩ | refine Or.inr ⟨_, rfl, ?_⟩ | refine ⟨_, _, _, _, true, rfl, .ty _, .base (.str _), kit_ty (by decide +kernel), ?_⟩ | refine ⟨_, _, rfl, ⟨by rw [sizeLine_eq]; omega, rfl⟩, ?_⟩ | refine ⟨_, _, rfl, .inl ⟨_, SqL.of (by assumption), rfl⟩, ?_⟩ | refine ⟨_, _, rfl, .inr ⟨_, SqT.of (by assumption), rfl⟩, ?_⟩))
                rw [decide_eq_false (fun e => hn2 (by have := V.int.inj e; omega))]
                (repeat (first | refine ⟨_, rfl, ?_⟩ | refine ⟨rfl, ?_⟩ | refine ⟨_, _, rfl, rfl, ?_⟩ | refine iteT ?_ | refine iteF ?_ | refine ⟨(by show (0 : Int) < _; omega), ?_⟩ | refine ⟨(⟨by omega, by omega⟩ : CDiv _ _), ?_⟩ | refine ⟨(⟨by decide, by decide, by decide⟩ : CPow _ _), ?_⟩ | refine ⟨(.inl ⟨by omega, by omega⟩ : CMul _ _), ?_⟩ | refine ⟨(.inr ⟨by omega, by omega⟩ : CMul _ _), ?_⟩ | refine Or.inl ⟨_, rfl, ?_⟩ | refine Or.inr ⟨_, rfl, ?_⟩ | refine ⟨_, _, _, _, true, rfl, .ty _, .base (.str _), kit_ty (by decide +kernel), ?_⟩ | refine ⟨_, _, rfl, ⟨by rw [sizeLine_eq]; omega, rfl⟩, ?_⟩ | refine ⟨_, _, rfl, .inl ⟨_, SqL.of (by assumption), rfl⟩, ?_⟩ | refine ⟨_, _, rfl, .inr ⟨_, SqT.of (by assumption), rfl⟩, ?_⟩))
                exact ⟨(by show 2 ≤ sizeLine; rw [sizeLine_eq]; omega), fun p np => wrong (ge _ rfl) H5 s35 p np⟩
              | @pair p x y oa ob hp hx hy =>
                refine ⟨_, _, _, _, true, rfl, .ty _, .base (.tup hp), kit_ty (by decide +kernel), ?_⟩
                have hb : goodT ps (tvOf oa ob) = (inO ps oa && inO ps ob) := by
                  rw [goodT_of]
                  simp
                have bad2 : inO ps oa = false ∨ inO ps ob = false → ∀ q, H5 q = none → Q (.ref q) (upd H5 q (.tup [.str "ties", .str n])) := fun h => wrong (ge _ (by rw [hb]; rcases h with h | h <;> simp [h])) H5 s35
                have ha5 := s35 _ _ ha
                (repeat (first | refine ⟨_, rfl, ?_⟩ | refine ⟨rfl, ?_⟩ | refine ⟨_, _, rfl, rfl, ?_⟩ | refine iteT ?_ | refine iteF ?_ | refine ⟨(by show (0 : Int) < _; omega), ?_⟩ | refine ⟨(⟨by omega, by omega⟩ : CDiv _ _), ?_⟩ | refine ⟨(⟨by decide, by decide, by decide⟩ : CPow _ _), ?_⟩ | refine ⟨(.inl ⟨by omega, by omega⟩ : CMul _ _), ?_⟩ | refine ⟨(.inr ⟨by omega, by omega⟩ : CMul _ _), ?_⟩ | refine Or.inl ⟨_, rfl, ?_⟩ | refine Or.inr ⟨_, rfl, ?_⟩ | refine ⟨_, _, _, _, true, rfl, .ty _, .base (.str _), kit_ty (by decide +kernel), ?_⟩ | refine ⟨_, _, rfl, ⟨by rw [sizeLine_eq]; omega, rfl⟩, ?_⟩ | refine ⟨_, _, rfl, .inl ⟨_, SqL.of (by assumption), rfl⟩, ?_⟩ | refine ⟨_, _, rfl, .inr ⟨_, SqT.of (by assumption), rfl⟩, ?_⟩))
                refine ⟨p, _, _, x, rfl, rfl, SqT.of hp, rfl, ?_⟩
                (repeat (first | refine ⟨_, rfl, ?_⟩ | refine ⟨rfl, ?_⟩ | refine ⟨_, _, rfl, rfl, ?_⟩ | refine iteT ?_ | refine iteF ?_ | refine ⟨(by show (0 : Int) < _; omega), ?_⟩ | refine ⟨(⟨by omega, by omega⟩ : CDiv _ _), ?_⟩ | refine ⟨(⟨by decide, by decide, by decide⟩ : CPow _ _), ?_⟩ | refine ⟨(.inl ⟨by omega, by omega⟩ : CMul _ _), ?_⟩ | refine ⟨(.inr ⟨by omega, by omega⟩ : CMul _ _), ?_⟩ | refine Or.inl ⟨_, rfl, ?_⟩ | refine Or.inr ⟨_, rfl, ?_⟩ | refine ⟨_, _, _, _, true, rfl, .ty _, .base (.str _), kit_ty (by decide +kernel), ?_⟩ | refine ⟨_, _, rfl, ⟨by rw [sizeLine_eq]; omega, rfl⟩, ?_⟩ | refine ⟨_, _, rfl, .inl ⟨_, SqL.of (by assumption), rfl⟩, ?_⟩ | refine ⟨_, _, rfl, .inr ⟨_, SqT.of (by assumption), rfl⟩, ?_⟩))
                have ret : inO ps oa = false ∨ inO ps ob = false → (2 ≤ sizeLine) ∧ ∀ q, H5 q = none → Q (.ref q) (upd H5 q (.tup [.str "ties", .str n])) := fun h => ⟨(by rw [sizeLine_eq]; omega), bad2 h⟩
                cases hx with
                | no ty kt =>
                  refine ⟨_, _, _, _, false, rfl, .ty _, ty, kt, ?_⟩
                  (repeat (first | refine ⟨_, rfl, ?_⟩ | refine ⟨rfl, ?_⟩ | refine ⟨_, _, rfl, rfl, ?_⟩ | refine iteT ?_ | refine iteF ?_ | refine ⟨(by show (0 : Int) < _; omega), ?_⟩ | refine ⟨(⟨by omega, by omega⟩ : CDiv _ _), ?_⟩ | refine ⟨(⟨by decide, by decide, by decide⟩ : CPow _ _), ?_⟩ | refine ⟨(.inl ⟨by omega, by omega⟩ : CMul _ _), ?_⟩ | refine ⟨(.inr ⟨by omega, by omega⟩ : CMul _ _), ?_⟩ | refine Or.inl ⟨_, rfl, ?_⟩ | refine Or.inr ⟨_, rfl, ?_⟩ | refine ⟨_, _, _, _, true, rfl, .ty _, .base (.str _), kit_ty (by decide +kernel), ?_⟩ | refine ⟨_, _, rfl, ⟨by rw [sizeLine_eq]; omega, rfl⟩, ?_⟩ | refine ⟨_, _, rfl, .inl ⟨_, SqL.of (by assumption), rfl⟩, ?_⟩ | refine ⟨_, _, rfl, .inr ⟨_, SqT.of (by assumption), rfl⟩, ?_⟩))
                  exact ret (.inl rfl)
                | str x =>
                  (repeat (first | refine ⟨_, rfl, ?_⟩ | refine ⟨rfl, ?_⟩ | refine ⟨_, _, rfl, rfl, ?_⟩ | refine iteT ?_ | refine iteF ?_ | refine ⟨(by show (0 : Int) < _; omega), ?_⟩ | refine ⟨(⟨by omega, by omega⟩ : CDiv _ _), ?_⟩ | refine ⟨(⟨by decide, by decide, by decide⟩ : CPow _ _), ?_⟩ | refine ⟨(.inl ⟨by omega, by omega⟩ : CMul _ _), ?_⟩ | refine ⟨(.inr ⟨by omega, by omega⟩ : CMul _ _), ?_⟩ | refine Or.inl ⟨_, rfl, ?_⟩ | refine Or.inr ⟨_, rfl, ?_⟩ | refine ⟨_, _, _, _, true, rfl, .ty _, .base (.str _), kit_ty (by decide +kernel), ?_⟩ | refine ⟨_, _, rfl, ⟨by rw [sizeLine_eq]; omega, rfl⟩, ?_⟩ | refine ⟨_, _, rfl, .inl ⟨_, SqL.of (by assumption), rfl⟩, ?_⟩ | refine ⟨_, _, rfl, .inr ⟨_, SqT.of (by assumption), rfl⟩, ?_⟩))
                  refine ⟨p, _, _, y, rfl, rfl, SqT.of hp, rfl, ?_⟩
                  (repeat (first | refine ⟨_, rfl, ?_⟩ | refine ⟨rfl, ?_⟩ | refine ⟨_, _, rfl, rfl, ?_⟩ | refine iteT ?_ | refine iteF ?_ | refine ⟨(by show (0 : Int) < _; omega), ?_⟩ | refine ⟨(⟨by omega, by omega⟩ : CDiv _ _), ?_⟩ | refine ⟨(⟨by decide, by decide, by decide⟩ : CPow _ _), ?_⟩ | refine ⟨(.inl ⟨by omega, by omega⟩ : CMul _ _), ?_⟩ | refine ⟨(.inr ⟨by omega, by omega⟩ : CMul _ _), ?_⟩ | refine Or.inl ⟨_, rfl, ?_⟩ | refine Or.inr ⟨_, rfl, ?_⟩ | refine ⟨_, _, _, _, true, rfl, .ty _, .base (.str _), kit_ty (by decide +kernel), ?_⟩ | refine ⟨_, _, rfl, ⟨by rw [sizeLine_eq]; omega, rfl⟩, ?_⟩ | refine ⟨_, _, rfl, .inl ⟨_, SqL.of (by assumption), rfl⟩, ?_⟩ | refine ⟨_, _, rfl, .inr ⟨_, SqT.of (by assumption), rfl⟩, ?_⟩))
                  cases hy with
                  | no ty kt =>
                    refine ⟨_, _, _, _, false, rfl, .ty _, ty, kt, ?_⟩
                    (repeat (first | refine ⟨_, rfl, ?_⟩ | refine ⟨rfl, ?_⟩ | refine ⟨_, _, rfl, rfl, ?_⟩ | refine iteT ?_ | refine iteF ?_ | refine ⟨(by show (0 : Int) < _; omega), ?_⟩ | refine ⟨(⟨by omega, by omega⟩ : CDiv _ _), ?_⟩ | refine ⟨(⟨by decide, by decide, by decide⟩ : CPow _ _), ?_⟩ | refine ⟨(.inl ⟨by omega, by omega⟩ : CMul _ _), ?_⟩ | refine ⟨(.inr ⟨by omega, by omega⟩ : CMul _ _), ?_⟩ | refine Or.inl ⟨_, rfl, ?_⟩ | refine Or.inr ⟨_, rfl, ?_⟩ | refine ⟨_, _, _, _, true, rfl, .ty _, .base (.str _), kit_ty (by decide +kernel), ?_⟩ | refine ⟨_, _, rfl, ⟨by rw [sizeLine_eq]; omega, rfl⟩, ?_⟩ | refine ⟨_, _, rfl, .inl ⟨_, SqL.of (by assumption), rfl⟩, ?_⟩ | refine ⟨_, _, rfl, .inr ⟨_, SqT.of (by assumption), rfl⟩, ?_⟩))
                    exact ret (.inr rfl)
                  | str y =>
                    (repeat (first | refine ⟨_, rfl, ?_⟩ | refine ⟨rfl, ?_⟩ | refine ⟨_, _, rfl, rfl, ?_⟩ | refine iteT ?_ | refine iteF ?_ | refine ⟨(by show (0 : Int) < _; omega), ?_⟩ | refine ⟨(⟨by omega, by omega⟩ : CDiv _ _), ?_⟩ | refine ⟨(⟨by decide, by decide, by decide⟩ : CPow _ _), ?_⟩ | refine ⟨(.inl ⟨by omega, by omega⟩ : CMul _ _), ?_⟩ | refine ⟨(.inr ⟨by omega, by omega⟩ : CMul _ _), ?_⟩ | refine Or.inl ⟨_, rfl, ?_⟩ | refine Or.inr ⟨_, rfl, ?_⟩ | refine ⟨_, _, _, _, true, rfl, .ty _, .base (.str _), kit_ty (by decide +kernel), ?_⟩ | refine ⟨_, _, rfl, ⟨by rw [sizeLine_eq]; omega, rfl⟩, ?_⟩ | refine ⟨_, _, rfl, .inl ⟨_, SqL.of (by assumption), rfl⟩, ?_⟩ | refine ⟨_, _, rfl, .inr ⟨_, SqT.of (by assumption), rfl⟩, ?_⟩))
                    refine ⟨p, _, _, _, rfl, rfl, SqT.of hp, rfl, ?_⟩
                    refine ⟨_, rfl, ?_⟩
                    refine ⟨a, _, rfl, .inl (SqL.of ha5), rfl, flat_strs _, ?_⟩
                    rw [if_pos rfl, inV_strs]
                    by_cases hxm : x ∈ ps
                    · rw [decide_eq_true hxm]
                      (repeat (first | refine ⟨_, rfl, ?_⟩ | refine ⟨rfl, ?_⟩ | refine ⟨_, _, rfl, rfl, ?_⟩ | refine iteT ?_ | refine iteF ?_ | refine ⟨(by show (0 : Int) < _; omega), ?_⟩ | refine ⟨(⟨by omega, by omega⟩ : CDiv _ _), ?_⟩ | refine ⟨(⟨by decide, by decide, by decide⟩ : CPow _ _), ?_⟩ | refine ⟨(.inl ⟨by omega, by omega⟩ : CMul _ _), ?_⟩ | refine ⟨(.inr ⟨by omega, by omega⟩ : CMul _ _), ?_⟩ | refine Or.inl ⟨_, rfl, ?_⟩ | refine Or.inr ⟨_, rfl, ?_⟩ | refine ⟨_, _, _, _, true, rfl, .ty _, .base (.str _), kit_ty (by decide +kernel), ?_⟩ | refine ⟨_, _, rfl, ⟨by rw [sizeLine_eq]; omega, rfl⟩, ?_⟩ | refine ⟨_, _, rfl, .inl ⟨_, SqL.of (by assumption), rfl⟩, ?_⟩ | refine ⟨_, _, rfl, .inr ⟨_, SqT.of (by assumption), rfl⟩, ?_⟩))
                      refine ⟨p, _, _, _, rfl, rfl, SqT.of hp, rfl, ?_⟩
                      refine ⟨_, rfl, ?_⟩
                      refine ⟨a, _, rfl, .inl (SqL.of ha5), rfl, flat_strs _, ?_⟩
                      rw [if_pos rfl, inV_strs]
                      by_cases hym : y ∈ ps
                      · rw [decide_eq_true hym]
                        (repeat (first | refine ⟨_, rfl, ?_⟩ | refine ⟨rfl, ?_⟩ | refine ⟨_, _, rfl, rfl, ?_⟩ | refine iteT ?_ | refine iteF ?_ | refine ⟨(by show (0 : Int) < _; omega), ?_⟩ | refine ⟨(⟨by omega, by omega⟩ : CDiv _ _), ?_⟩ | refine ⟨(⟨by decide, by decide, by decide⟩ : CPow _ _), ?_⟩ | refine ⟨(.inl ⟨by omega, by omega⟩ : CMul _ _), ?_⟩ | refine ⟨(.inr ⟨by omega, by omega⟩ : CMul _ _), ?_⟩ | refine Or.inl ⟨_, rfl, ?_⟩ | refine Or.inr ⟨_, rfl, ?_⟩ | refine ⟨_, _, _, _, true, rfl, .ty _, .base (.str _), kit_ty (by decide +kernel), ?_⟩ | refine ⟨_, _, rfl, ⟨by rw [sizeLine_eq]; omega, rfl⟩, ?_⟩ | refine ⟨_, _, rfl, .inl ⟨_, SqL.of (by assumption), rfl⟩, ?_⟩ | refine ⟨_, _, rfl, .inr ⟨_, SqT.of (by assumption), rfl⟩, ?_⟩))
                        refine ⟨_, _, _, rfl, s35, hL5, fun j hj m hm => ?_⟩
                        by_cases e : j = i
                        · subst e
                          rw [hn] at hm
                          cases hm
                          exact ge true (by rw [hb]; simp [inO, hxm, hym])
                        · exact hok j (by omega) m hm
                      · rw [decide_eq_false hym]
                        (repeat (first | refine ⟨_, rfl, ?_⟩ | refine ⟨rfl, ?_⟩ | refine ⟨_, _, rfl, rfl, ?_⟩ | refine iteT ?_ | refine iteF ?_ | refine ⟨(by show (0 : Int) < _; omega), ?_⟩ | refine ⟨(⟨by omega, by omega⟩ : CDiv _ _), ?_⟩ | refine ⟨(⟨by decide, by decide, by decide⟩ : CPow _ _), ?_⟩ | refine ⟨(.inl ⟨by omega, by omega⟩ : CMul _ _), ?_⟩ | refine ⟨(.inr ⟨by omega, by omega⟩ : CMul _ _), ?_⟩ | refine Or.inl ⟨_, rfl, ?_⟩ | refine Or.inr ⟨_, rfl, ?_⟩ | refine ⟨_, _, _, _, true, rfl, .ty _, .base (.str _), kit_ty (by decide +kernel), ?_⟩ | refine ⟨_, _, rfl, ⟨by rw [sizeLine_eq]; omega, rfl⟩, ?_⟩ | refine ⟨_, _, rfl, .inl ⟨_, SqL.of (by assumption), rfl⟩, ?_⟩ | refine ⟨_, _, rfl, .inr ⟨_, SqT.of (by assumption), rfl⟩, ?_⟩))
                        exact ret (.inr (by simp [inO, hym]))
                    · rw [decide_eq_false hxm]
                      (repeat (first | refine ⟨_, rfl, ?_⟩ | refine ⟨rfl, ?_⟩ | refine ⟨_, _, rfl, rfl, ?_⟩ | refine iteT ?_ | refine iteF ?_ | refine ⟨(by show (0 : Int) < _; omega), ?_⟩ | refine ⟨(⟨by omega, by omega⟩ : CDiv _ _), ?_⟩ | refine ⟨(⟨by decide, by decide, by decide⟩ : CPow _ _), ?_⟩ | refine ⟨(.inl ⟨by omega, by omega⟩ : CMul _ _), ?_⟩ | refine ⟨(.inr ⟨by omega, by omega⟩ : CMul _ _), ?_⟩ | refine Or.inl ⟨_, rfl, ?_⟩ | refine Or.inr ⟨_, rfl, ?_⟩ | refine ⟨_, _, _, _, true, rfl, .ty _, .base (.str _), kit_ty (by decide +kernel), ?_⟩ | refine ⟨_, _, rfl, ⟨by rw [sizeLine_eq]; omega, rfl⟩, ?_⟩ | refine ⟨_, _, rfl, .inl ⟨_, SqL.of (by assumption), rfl⟩, ?_⟩ | refine ⟨_, _, rfl, .inr ⟨_, SqT.of (by assumption), rfl⟩, ?_⟩))
                      exact ret (.inl (by simp [inO, hxm]))
          · rintro σ H3 ⟨v2, v3, v4, rfl, s3, hL, hok⟩
            rw [List.length_map, hll] at hok
            have tn : tiF ps es = none := tiF_none hok
            (repeat (first | refine ⟨_, rfl, ?_⟩ | refine ⟨rfl, ?_⟩ | refine ⟨_, _, rfl, rfl, ?_⟩ | refine iteT ?_ | refine iteF ?_ | refine ⟨(by show (0 : Int) < _; omega), ?_⟩ | refine ⟨(⟨by omega, by omega⟩ : CDiv _ _), ?_⟩ | refine ⟨(⟨by decide, by decide, by decide⟩ : CPow _ _), ?_⟩ | refine ⟨(.inl ⟨by omega, by omega⟩ : CMul _ _), ?_⟩ | refine ⟨(.inr ⟨by omega, by omega⟩ : CMul _ _), ?_⟩ | refine Or.inl ⟨_, rfl, ?_⟩ | refine Or.inr ⟨_, rfl, ?_⟩ | refine ⟨_, _, _, _, true, rfl, .ty _, .base (.str _), kit_ty (by decide +kernel), ?_⟩ | refine ⟨_, _, rfl, ⟨by rw [sizeLine_eq]; omega, rfl⟩, ?_⟩ | refine ⟨_, _, rfl, .inl ⟨_, SqL.of (by assumption), rfl⟩, ?_⟩ | refine ⟨_, _, rfl, .inr ⟨_, SqT.of (by assumption), rfl⟩, ?_⟩))
            refine ⟨d, kvs0, rfl, s3 _ _ hd0, ?_⟩
            (repeat (first | refine ⟨_, rfl, ?_⟩ | refine ⟨rfl, ?_⟩ | refine ⟨_, _, rfl, rfl, ?_⟩ | refine iteT ?_ | refine iteF ?_ | refine ⟨(by show (0 : Int) < _; omega), ?_⟩ | refine ⟨(⟨by omega, by omega⟩ : CDiv _ _), ?_⟩ | refine ⟨(⟨by decide, by decide, by decide⟩ : CPow _ _), ?_⟩ | refine ⟨(.inl ⟨by omega, by omega⟩ : CMul _ _), ?_⟩ | refine ⟨(.inr ⟨by omega, by omega⟩ : CMul _ _), ?_⟩ | refine Or.inl ⟨_, rfl, ?_⟩ | refine Or.inr ⟨_, rfl, ?_⟩ | refine ⟨_, _, _, _, true, rfl, .ty _, .base (.str _), kit_ty (by decide +kernel), ?_⟩ | refine ⟨_, _, rfl, ⟨by rw [sizeLine_eq]; omega, rfl⟩, ?_⟩ | refine ⟨_, _, rfl, .inl ⟨_, SqL.of (by assumption), rfl⟩, ?_⟩ | refine ⟨_, _, rfl, .inr ⟨_, SqT.of (by assumption), rfl⟩, ?_⟩))
            by_cases h24 : (24 : Int) < (kvs0.length : Int)
            · rw [decide_eq_true h24]
              (repeat (first | refine ⟨_, rfl, ?_⟩ | refine ⟨rfl, ?_⟩ | refine ⟨_, _, rfl, rfl, ?_⟩ | refine iteT ?_ | refine iteF ?_ | refine ⟨(by show (0 : Int) < _; omega), ?_⟩ | refine ⟨(⟨by omega, by omega⟩ : CDiv _ _), ?_⟩ | refine ⟨(⟨by decide, by decide, by decide⟩ : CPow _ _), ?_⟩ | refine ⟨(.inl ⟨by omega, by omega⟩ : CMul _ _), ?_⟩ | refine ⟨(.inr ⟨by omega, by omega⟩ : CMul _ _), ?_⟩ | refine Or.inl ⟨_, rfl, ?_⟩ | refine Or.inr ⟨_, rfl, ?_⟩ | refine ⟨_, _, _, _, true, rfl, .ty _, .base (.str _), kit_ty (by decide +kernel), ?_⟩ | refine ⟨_, _, rfl, ⟨by rw [sizeLine_eq]; omega, rfl⟩, ?_⟩ | refine ⟨_, _, rfl, .inl ⟨_, SqL.of (by assumption), rfl⟩, ?_⟩ | refine ⟨_, _, rfl, .inr ⟨_, SqT.of (by assumption), rfl⟩, ?_⟩))
              refine ⟨(by show 2 ≤ sizeLine; rw [sizeLine_eq]; omega), fun p np => out .many ?_ H3 s3 p np⟩
              unfold dueOf
              rw [hpl, tn]
              simp only [if_pos (show 24 < es.length by omega)]
            · rw [decide_eq_false h24]
              (repeat (first | refine ⟨_, rfl, ?_⟩ | refine ⟨rfl, ?_⟩ | refine ⟨_, _, rfl, rfl, ?_⟩ | refine iteT ?_ | refine iteF ?_ | refine ⟨(by show (0 : Int) < _; omega), ?_⟩ | refine ⟨(⟨by omega, by omega⟩ : CDiv _ _), ?_⟩ | refine ⟨(⟨by decide, by decide, by decide⟩ : CPow _ _), ?_⟩ | refine ⟨(.inl ⟨by omega, by omega⟩ : CMul _ _), ?_⟩ | refine ⟨(.inr ⟨by omega, by omega⟩ : CMul _ _), ?_⟩ | refine Or.inl ⟨_, rfl, ?_⟩ | refine Or.inr ⟨_, rfl, ?_⟩ | refine ⟨_, _, _, _, true, rfl, .ty _, .base (.str _), kit_ty (by decide +kernel), ?_⟩ | refine ⟨_, _, rfl, ⟨by rw [sizeLine_eq]; omega, rfl⟩, ?_⟩ | refine ⟨_, _, rfl, .inl ⟨_, SqL.of (by assumption), rfl⟩, ?_⟩ | refine ⟨_, _, rfl, .inr ⟨_, SqT.of (by assumption), rfl⟩, ?_⟩))
              refine kN ?_ H3 s3
              unfold dueOf
              rw [hpl, tn]
              simp only [if_neg (show ¬ 24 < es.length by omega)]
      · rw [decide_eq_false h2]
        (repeat (first | refine ⟨_, rfl, ?_⟩ | refine ⟨rfl, ?_⟩ | refine ⟨_, _, rfl, rfl, ?_⟩ | refine iteT ?_ | refine iteF ?_ | refine ⟨(by show (0 : Int) < _; omega), ?_⟩ | refine ⟨(⟨by omega, by omega⟩ : CDiv _ _), ?_⟩ | refine ⟨(⟨by decide, by decide, by decide⟩ : CPow _ _), ?_⟩ | refine ⟨(.inl ⟨by omega, by omega⟩ : CMul _ _), ?_⟩ | refine ⟨(.inr ⟨by omega, by omega⟩ : CMul _ _), ?_⟩ | refine Or.inl ⟨_, rfl, ?_⟩ | refine Or.inr ⟨_, rfl, ?_⟩ | refine ⟨_, _, _, _, true, rfl, .ty _, .base (.str _), kit_ty (by decide +kernel), ?_⟩ | refine ⟨_, _, rfl, ⟨by rw [sizeLine_eq]; omega, rfl⟩, ?_⟩ | refine ⟨_, _, rfl, .inl ⟨_, SqL.of (by assumption), rfl⟩, ?_⟩ | refine ⟨_, _, rfl, .inr ⟨_, SqT.of (by assumption), rfl⟩, ?_⟩))
        refine ⟨(by show 2 ≤ sizeLine; rw [sizeLine_eq]; omega), fun p np => ?_⟩
        exact no2 (by rw [List.length_map] at h2; omega) p np
    · (repeat (first | refine ⟨_, rfl, ?_⟩ | refine ⟨rfl, ?_⟩ | refine ⟨_, _, rfl, rfl, ?_⟩ | refine iteT ?_ | refine iteF ?_ | refine ⟨(by show (0 : Int) < _; omega), ?_⟩ | refine ⟨(⟨by omega, by omega⟩ : CDiv _ _), ?_⟩ | refine ⟨(⟨by decide, by decide, by decide⟩ : CPow _ _), ?_⟩ | refine ⟨(.inl ⟨by omega, by omega⟩ : CMul _ _), ?_⟩ | refine ⟨(.inr ⟨by omega, by omega⟩ : CMul _ _), ?_⟩ | refine Or.inl ⟨_, rfl, ?_⟩ | refine Or.inr ⟨_, rfl, ?_⟩ | refine ⟨_, _, _, _, true, rfl, .ty _, .base (.str _), kit_ty (by decide +kernel), ?_⟩ | refine ⟨_, _, rfl, ⟨by rw [sizeLine_eq]; omega, rfl⟩, ?_⟩ | refine ⟨_, _, rfl, .inl ⟨_, SqL.of (by assumption), rfl⟩, ?_⟩ | refine ⟨_, _, rfl, .inr ⟨_, SqT.of (by assumption), rfl⟩, ?_⟩))
      rw [List.length_map] at h1
      refine ⟨(by show 2 ≤ sizeLine; rw [sizeLine_eq]; omega), fun p np => ?_⟩
      exact no2 (by simp at h1; omega) p np
end
end BF
set_option Elab.async false
set_option linter.all false
set_option maxRecDepth 100000
set_option maxHeartbeats 4000000
namespace BF
open PySem PySem.Spec PyProof.Rows L2
open C8 (Cal CalAt Met Mak cal0 met0 mak0 fn0 pe_c pe_mk pe_mt pe_mt0 pe_gc fnScope fnBody fnArgs fnScope_by)
open SX
section
variable {P : Program} {w : World} {K : PySem.W.Frag} {mg : Str → Option Value} {base : Heap} {A : Ad}
theorem cal_law_told (T : Txt K mg A) : Cal P w K mg base 6 "_law_told" (spDue K) [] := by
  refine cal0 T.d_law_told T.b_law_told .nil sc_law_told (fun vs H Q E h => ?_) (fun cdv B outer s H vs Q E hr h => ?_)
  · obtain ⟨a, d, ps, es, rfl, _⟩ := h
    rfl
  · obtain ⟨a, d, ps, es, rfl, ha, hT, hl, hl2, hz, hz2, kS, kN⟩ := h
    refine ⟨_, (pss_cons (ps_set (i := 2) sc_law_told.nd rfl (by first | exact Or.inl rfl | exact Or.inr rfl) pe_non)
 (pss_cons (ps_try_manyA sc_law_told.nd rfl rfl takes0 (fun W pn xe tk _ => (pss_one (ps_expr (by exact (pe_mkS2 (mak_Web (K := K) T) hr (by decide) (fun σ => passAt tk σ) (pa_cons (pv 0) (pa_cons (pv 1) pa_nil)))))))
  (HdsA.cons (i := 3) rfl rfl ⟨rfl, by decide, Or.inl T.gC_BadPlaces⟩ (fun a oe cls d pn hz hf => (pss_one (ps_set (i := 2) sc_law_told.nd rfl (by first | exact Or.inl rfl | exact Or.inr rfl) (pe_tup (pa_cons pe_str (pa_cons (pe_xf T.xf_BadPlaces T.nx_BadPlaces_index hz hf (pv 3)) pa_nil))))))
  (HdsA.cons (i := 3) rfl rfl ⟨rfl, by decide, Or.inl T.gC_BadTies⟩ (fun a oe cls d pn hz hf => (pss_one (ps_set (i := 2) sc_law_told.nd rfl (by first | exact Or.inl rfl | exact Or.inr rfl) (pe_tup (pa_cons pe_str (pa_cons (pe_xf T.xf_BadTies T.nx_BadTies_name hz hf (pv 3)) pa_nil))))))
  (HdsA.cons (i := 3) rfl rfl ⟨rfl, by decide, Or.inl T.gC_TooMany⟩ (fun a oe cls d pn hz hf => (pss_one (ps_set (i := 2) sc_law_told.nd rfl (by first | exact Or.inl rfl | exact Or.inr rfl) (pe_tup (pa_cons pe_str (pa_cons (pe_xf T.xf_TooMany T.nx_TooMany_limit hz hf (pv 3)) pa_nil))))))
  HdsA.nil))))
 (pss_one (ps_ret (pv 2))))), ?_⟩
    (repeat (first | refine ⟨_, rfl, ?_⟩ | refine ⟨rfl, ?_⟩ | refine ⟨_, _, rfl, rfl, ?_⟩ | refine iteT ?_ | refine iteF ?_ | refine ⟨(by show (0 : Int) < _; omega), ?_⟩ | refine ⟨(⟨by omega, by omega⟩ : CDiv _ _), ?_⟩ | refine ⟨(⟨by decide, by decide, by decide⟩ : CPow _ _), ?_⟩ | refine ⟨(.inl ⟨by omega, by omega⟩ : CMul _ _), ?_⟩ | refine ⟨(.inr ⟨by omega, by omega⟩ : CMul _ _), ?_⟩ | refine Or.inl ⟨_, rfl, ?_⟩ | refine Or.inr ⟨_, rfl, ?_⟩ | refine ⟨_, _, _, _, true, rfl, .ty _, .base (.str _), kit_ty (by decide +kernel), ?_⟩ | refine ⟨_, _, rfl, ⟨by rw [sizeLine_eq]; omega, rfl⟩, ?_⟩ | refine ⟨_, _, rfl, .inl ⟨_, SqL.of (by assumption), rfl⟩, ?_⟩ | refine ⟨_, _, rfl, .inr ⟨_, SqT.of (by assumption), rfl⟩, ?_⟩))
    refine fun x dx nx ndx ne => ?_
    have s1 : Same H (upd (upd H dx (.own x)) x (.ins A.C_Web dx [])) := fun b o e => by
      rw [upd_ne (ne_of_none e nx), upd_ne (ne_of_none e ndx)]
      exact e
    have sX : ∀ H', FrX x (upd (upd H dx (.own x)) x (.ins A.C_Web dx [])) H' → Same H H' := fun H' f b o e => f b o (ne_of_none e nx) (s1 _ _ e)
    refine ⟨x, dx, a, d, ps, es, rfl, upd_same, s1 _ _ ha, hT.same s1, hl, hl2, hz, hz2, fun du hd ex H' f hx => ?_, fun hd H' f _ _ => ⟨rfl, _, rfl, kN hd H' (sX H' f)⟩⟩
    have s2 := sX H' f
    have fin : ∀ p, H' p = none → Q (.ref p) (upd H' p (.tup (dueT du))) := fun p np => kS du hd p _ (s2.free np) (Same.put s2 (s2.free np)) upd_same
    cases du with
    | places k =>
      refine ⟨true, T.xm_BadPlaces_BadPlaces, fun _ e ne => ?_, fun h => by cases h⟩
      (repeat (first | refine ⟨_, rfl, ?_⟩ | refine ⟨rfl, ?_⟩ | refine ⟨_, _, rfl, rfl, ?_⟩ | refine iteT ?_ | refine iteF ?_ | refine ⟨(by show (0 : Int) < _; omega), ?_⟩ | refine ⟨(⟨by omega, by omega⟩ : CDiv _ _), ?_⟩ | refine ⟨(⟨by decide, by decide, by decide⟩ : CPow _ _), ?_⟩ | refine ⟨(.inl ⟨by omega, by omega⟩ : CMul _ _), ?_⟩ | refine ⟨(.inr ⟨by omega, by omega⟩ : CMul _ _), ?_⟩ | refine Or.inl ⟨_, rfl, ?_⟩ | refine Or.inr ⟨_, rfl, ?_⟩ | refine ⟨_, _, _, _, true, rfl, .ty _, .base (.str _), kit_ty (by decide +kernel), ?_⟩ | refine ⟨_, _, rfl, ⟨by rw [sizeLine_eq]; omega, rfl⟩, ?_⟩ | refine ⟨_, _, rfl, .inl ⟨_, SqL.of (by assumption), rfl⟩, ?_⟩ | refine ⟨_, _, rfl, .inr ⟨_, SqT.of (by assumption), rfl⟩, ?_⟩))
      refine ⟨_, _, _, rfl, hx, rfl, ?_⟩
      (repeat (first | refine ⟨_, rfl, ?_⟩ | refine ⟨rfl, ?_⟩ | refine ⟨_, _, rfl, rfl, ?_⟩ | refine iteT ?_ | refine iteF ?_ | refine ⟨(by show (0 : Int) < _; omega), ?_⟩ | refine ⟨(⟨by omega, by omega⟩ : CDiv _ _), ?_⟩ | refine ⟨(⟨by decide, by decide, by decide⟩ : CPow _ _), ?_⟩ | refine ⟨(.inl ⟨by omega, by omega⟩ : CMul _ _), ?_⟩ | refine ⟨(.inr ⟨by omega, by omega⟩ : CMul _ _), ?_⟩ | refine Or.inl ⟨_, rfl, ?_⟩ | refine Or.inr ⟨_, rfl, ?_⟩ | refine ⟨_, _, _, _, true, rfl, .ty _, .base (.str _), kit_ty (by decide +kernel), ?_⟩ | refine ⟨_, _, rfl, ⟨by rw [sizeLine_eq]; omega, rfl⟩, ?_⟩ | refine ⟨_, _, rfl, .inl ⟨_, SqL.of (by assumption), rfl⟩, ?_⟩ | refine ⟨_, _, rfl, .inr ⟨_, SqT.of (by assumption), rfl⟩, ?_⟩))
      refine ⟨(by show 2 ≤ sizeLine; rw [sizeLine_eq]; omega), fun p np => ⟨_, rfl, fin p np⟩⟩
    | ties n =>
      refine ⟨false, T.xm_BadTies_BadPlaces, (fun h => by cases h), fun _ => ⟨true, T.xm_BadTies_BadTies, fun _ e ne => ?_, fun h => by cases h⟩⟩
      (repeat (first | refine ⟨_, rfl, ?_⟩ | refine ⟨rfl, ?_⟩ | refine ⟨_, _, rfl, rfl, ?_⟩ | refine iteT ?_ | refine iteF ?_ | refine ⟨(by show (0 : Int) < _; omega), ?_⟩ | refine ⟨(⟨by omega, by omega⟩ : CDiv _ _), ?_⟩ | refine ⟨(⟨by decide, by decide, by decide⟩ : CPow _ _), ?_⟩ | refine ⟨(.inl ⟨by omega, by omega⟩ : CMul _ _), ?_⟩ | refine ⟨(.inr ⟨by omega, by omega⟩ : CMul _ _), ?_⟩ | refine Or.inl ⟨_, rfl, ?_⟩ | refine Or.inr ⟨_, rfl, ?_⟩ | refine ⟨_, _, _, _, true, rfl, .ty _, .base (.str _), kit_ty (by decide +kernel), ?_⟩ | refine ⟨_, _, rfl, ⟨by rw [sizeLine_eq]; omega, rfl⟩, ?_⟩ | refine ⟨_, _, rfl, .inl ⟨_, SqL.of (by assumption), rfl⟩, ?_⟩ | refine ⟨_, _, rfl, .inr ⟨_, SqT.of (by assumption), rfl⟩, ?_⟩))
      refine ⟨_, _, _, rfl, hx, rfl, ?_⟩
      (repeat (first | refine ⟨_, rfl, ?_⟩ | refine ⟨rfl, ?_⟩ | refine ⟨_, _, rfl, rfl, ?_⟩ | refine iteT ?_ | refine iteF ?_ | refine ⟨(by show (0 : Int) < _; omega), ?_⟩ | refine ⟨(⟨by omega, by omega⟩ : CDiv _ _), ?_⟩ | refine ⟨(⟨by decide, by decide, by decide⟩ : CPow _ _), ?_⟩ | refine ⟨(.inl ⟨by omega, by omega⟩ : CMul _ _), ?_⟩ | refine ⟨(.inr ⟨by omega, by omega⟩ : CMul _ _), ?_⟩ | refine Or.inl ⟨_, rfl, ?_⟩ | refine Or.inr ⟨_, rfl, ?_⟩ | refine ⟨_, _, _, _, true, rfl, .ty _, .base (.str _), kit_ty (by decide +kernel), ?_⟩ | refine ⟨_, _, rfl, ⟨by rw [sizeLine_eq]; omega, rfl⟩, ?_⟩ | refine ⟨_, _, rfl, .inl ⟨_, SqL.of (by assumption), rfl⟩, ?_⟩ | refine ⟨_, _, rfl, .inr ⟨_, SqT.of (by assumption), rfl⟩, ?_⟩))
      refine ⟨(by show 2 ≤ sizeLine; rw [sizeLine_eq]; omega), fun p np => ⟨_, rfl, fin p np⟩⟩
    | many =>
      refine ⟨false, T.xm_TooMany_BadPlaces, (fun h => by cases h), fun _ => ⟨false, T.xm_TooMany_BadTies, (fun h => by cases h), fun _ => ⟨true, T.xm_TooMany_TooMany, fun _ e ne => ?_, fun h => by cases h⟩⟩⟩
      (repeat (first | refine ⟨_, rfl, ?_⟩ | refine ⟨rfl, ?_⟩ | refine ⟨_, _, rfl, rfl, ?_⟩ | refine iteT ?_ | refine iteF ?_ | refine ⟨(by show (0 : Int) < _; omega), ?_⟩ | refine ⟨(⟨by omega, by omega⟩ : CDiv _ _), ?_⟩ | refine ⟨(⟨by decide, by decide, by decide⟩ : CPow _ _), ?_⟩ | refine ⟨(.inl ⟨by omega, by omega⟩ : CMul _ _), ?_⟩ | refine ⟨(.inr ⟨by omega, by omega⟩ : CMul _ _), ?_⟩ | refine Or.inl ⟨_, rfl, ?_⟩ | refine Or.inr ⟨_, rfl, ?_⟩ | refine ⟨_, _, _, _, true, rfl, .ty _, .base (.str _), kit_ty (by decide +kernel), ?_⟩ | refine ⟨_, _, rfl, ⟨by rw [sizeLine_eq]; omega, rfl⟩, ?_⟩ | refine ⟨_, _, rfl, .inl ⟨_, SqL.of (by assumption), rfl⟩, ?_⟩ | refine ⟨_, _, rfl, .inr ⟨_, SqT.of (by assumption), rfl⟩, ?_⟩))
      refine ⟨_, _, _, rfl, hx, rfl, ?_⟩
      (repeat (first | refine ⟨_, rfl, ?_⟩ | refine ⟨rfl, ?_⟩ | refine ⟨_, _, rfl, rfl, ?_⟩ | refine iteT ?_ | refine iteF ?_ | refine ⟨(by show (0 : Int) < _; omega), ?_⟩ | refine ⟨(⟨by omega, by omega⟩ : CDiv _ _), ?_⟩ | refine ⟨(⟨by decide, by decide, by decide⟩ : CPow _ _), ?_⟩ | refine ⟨(.inl ⟨by omega, by omega⟩ : CMul _ _), ?_⟩ | refine ⟨(.inr ⟨by omega, by omega⟩ : CMul _ _), ?_⟩ | refine Or.inl ⟨_, rfl, ?_⟩ | refine Or.inr ⟨_, rfl, ?_⟩ | refine ⟨_, _, _, _, true, rfl, .ty _, .base (.str _), kit_ty (by decide +kernel), ?_⟩ | refine ⟨_, _, rfl, ⟨by rw [sizeLine_eq]; omega, rfl⟩, ?_⟩ | refine ⟨_, _, rfl, .inl ⟨_, SqL.of (by assumption), rfl⟩, ?_⟩ | refine ⟨_, _, rfl, .inr ⟨_, SqT.of (by assumption), rfl⟩, ?_⟩))
      refine ⟨(by show 2 ≤ sizeLine; rw [sizeLine_eq]; omega), fun p np => ⟨_, rfl, fin p np⟩⟩
end
end BF
set_option Elab.async false
set_option linter.all false
set_option maxRecDepth 100000
set_option maxHeartbeats 4000000
namespace BF
open PySem PySem.Spec PyProof.Rows L2
open C8 (Cal CalAt Met Mak cal0 met0 mak0 fn0 pe_c pe_mk pe_mt pe_mt0 pe_gc fnScope fnBody fnArgs fnScope_by)
open SX
section
variable {P : Program} {w : World} {K : PySem.W.Frag} {mg : Str → Option Value} {base : Heap} {A : Ad}
/-- a drawn tie: a short name, two of the places -/
def GoodE (ps : List Str) (e : Str × TV) : Prop := Short e.1 ∧ ∃ a b, e.2 = .ends a b ∧ a ∈ ps ∧ b ∈ ps
def spDrawn (K : PySem.W.Frag) : Sp := fun vs H Q _ => ∃ (wl : Addr), vs = [.ref wl] ∧ WellAt H wl ∧ ∀ p a d ps es H', Kp wl H H' → H' p = some (.tup [.ref a, .ref d]) → H' a = some (.lst (ps.map V.str)) → TiesR K H' d es →
  1 ≤ ps.length → ps.length ≤ 17 → es.length ≤ 25 → (∀ x ∈ ps, Short x) → (∀ e ∈ es, GoodE ps e) → Q (.ref p) H'
theorem cal_law_drawn (T : Txt K mg A) : Cal P w K mg base 4 "_law_drawn" (spDrawn K) [] := by
  refine cal0 T.d_law_drawn T.b_law_drawn .nil sc_law_drawn (fun vs H Q E h => ?_) (fun cdv B outer s H vs Q E hr h => ?_)
  · obtain ⟨wl, rfl, _⟩ := h
    rfl
  · obtain ⟨wl, rfl, hw, k⟩ := h
    refine ⟨_, (pss_cons (ps_set (i := 1) sc_law_drawn.nd rfl (by first | exact Or.inl rfl | exact Or.inr rfl) (pe_c (cal_law_names T) hr (by decide) rfl (pa_cons (pv 0) (pa_cons (pe_c (cal_law_pick T) hr (by decide) rfl (pa_cons (pv 0) (pa_cons (pe_lst (pa_cons pe_int (pa_cons pe_int (pa_cons pe_int (pa_cons pe_int (pa_cons pe_int (pa_cons pe_int (pa_cons pe_int (pa_cons pe_int pa_nil))))))))) pa_nil))) pa_nil))))
 (pss_cons (ps_set (i := 2) sc_law_drawn.nd rfl (by first | exact Or.inl rfl | exact Or.inr rfl) pe_dnewK)
 (pss_cons (ps_for PassesOwn.never rfl (pi_list (pe_c (cal_law_names T) hr (by decide) rfl (pa_cons (pv 0) (pa_cons (pe_c (cal_law_pick T) hr (by decide) rfl (pa_cons (pv 0) (pa_cons (pe_lst (pa_cons pe_int (pa_cons pe_int (pa_cons pe_int (pa_cons pe_int (pa_cons pe_int (pa_cons pe_int (pa_cons pe_int (pa_cons pe_int pa_nil))))))))) pa_nil))) pa_nil)))) (pg_name (i := 3) sc_law_drawn.nd rfl (by first | exact Or.inl rfl | exact Or.inr rfl)) (pss_one (ps_dput (hu_of hr) (pv 2) (pv 3) (pe_tup (pa_cons (pe_c (cal_law_pick T) hr (by decide) rfl (pa_cons (pv 0) (pa_cons (pv 1) pa_nil))) (pa_cons (pe_c (cal_law_pick T) hr (by decide) rfl (pa_cons (pv 0) (pa_cons (pv 1) pa_nil))) pa_nil))) rfl)))
 (pss_one (ps_ret (pe_tup (pa_cons (pv 1) (pa_cons (pv 2) pa_nil)))))))), ?_⟩
    (repeat (first | refine ⟨_, rfl, ?_⟩ | refine ⟨rfl, ?_⟩ | refine ⟨_, _, rfl, rfl, ?_⟩ | refine iteT ?_ | refine iteF ?_ | refine ⟨(by show (0 : Int) < _; omega), ?_⟩ | refine ⟨(⟨by omega, by omega⟩ : CDiv _ _), ?_⟩ | refine ⟨(⟨by decide, by decide, by decide⟩ : CPow _ _), ?_⟩ | refine ⟨(.inl ⟨by omega, by omega⟩ : CMul _ _), ?_⟩ | refine ⟨(.inr ⟨by omega, by omega⟩ : CMul _ _), ?_⟩ | refine Or.inl ⟨_, rfl, ?_⟩ | refine Or.inr ⟨_, rfl, ?_⟩ | refine ⟨_, _, _, _, true, rfl, .ty _, .base (.str _), kit_ty (by decide +kernel), ?_⟩ | refine ⟨_, _, rfl, ⟨by rw [sizeLine_eq]; omega, rfl⟩, ?_⟩ | refine ⟨_, _, rfl, .inl ⟨_, SqL.of (by assumption), rfl⟩, ?_⟩ | refine ⟨_, _, rfl, .inr ⟨_, SqT.of (by assumption), rfl⟩, ?_⟩))
    refine ⟨(by show 8 ≤ sizeLine; rw [sizeLine_eq]; omega), fun l nl => ?_⟩
    have k1 : Kp wl H (upd H l (.lst [V.int 1, V.int 2, V.int 3, V.int 4, V.int 5, V.int 15, V.int 16, V.int 17])) := (Kp.refl wl H).put hw nl
    refine ⟨wl, _, rfl, k1.well hw, .inl ⟨l, _, rfl, upd_same, rfl, by simp, (by show 8 < 1000; omega), fun v H1 hv k2 => ?_⟩⟩
    obtain ⟨m, rfl, hm1, hm2⟩ : ∃ m : Int, v = .int m ∧ 1 ≤ m ∧ m ≤ 17 := by
      simp only [List.mem_cons, List.not_mem_nil, or_false] at hv
      rcases hv with rfl | rfl | rfl | rfl | rfl | rfl | rfl | rfl
      all_goals exact ⟨_, rfl, by omega, by omega⟩
    have k12 := k1.trans k2
    (repeat (first | refine ⟨_, rfl, ?_⟩ | refine ⟨rfl, ?_⟩ | refine ⟨_, _, rfl, rfl, ?_⟩ | refine iteT ?_ | refine iteF ?_ | refine ⟨(by show (0 : Int) < _; omega), ?_⟩ | refine ⟨(⟨by omega, by omega⟩ : CDiv _ _), ?_⟩ | refine ⟨(⟨by decide, by decide, by decide⟩ : CPow _ _), ?_⟩ | refine ⟨(.inl ⟨by omega, by omega⟩ : CMul _ _), ?_⟩ | refine ⟨(.inr ⟨by omega, by omega⟩ : CMul _ _), ?_⟩ | refine Or.inl ⟨_, rfl, ?_⟩ | refine Or.inr ⟨_, rfl, ?_⟩ | refine ⟨_, _, _, _, true, rfl, .ty _, .base (.str _), kit_ty (by decide +kernel), ?_⟩ | refine ⟨_, _, rfl, ⟨by rw [sizeLine_eq]; omega, rfl⟩, ?_⟩ | refine ⟨_, _, rfl, .inl ⟨_, SqL.of (by assumption), rfl⟩, ?_⟩ | refine ⟨_, _, rfl, .inr ⟨_, SqT.of (by assumption), rfl⟩, ?_⟩))
    refine ⟨wl, m, rfl, k12.well hw, by omega, by omega, fun a ps H2 na k3 ha hlen hsh => ?_⟩
    have k13 := k12.trans k3
    have hw2 := k13.well hw
    (repeat (first | refine ⟨_, rfl, ?_⟩ | refine ⟨rfl, ?_⟩ | refine ⟨_, _, rfl, rfl, ?_⟩ | refine iteT ?_ | refine iteF ?_ | refine ⟨(by show (0 : Int) < _; omega), ?_⟩ | refine ⟨(⟨by omega, by omega⟩ : CDiv _ _), ?_⟩ | refine ⟨(⟨by decide, by decide, by decide⟩ : CPow _ _), ?_⟩ | refine ⟨(.inl ⟨by omega, by omega⟩ : CMul _ _), ?_⟩ | refine ⟨(.inr ⟨by omega, by omega⟩ : CMul _ _), ?_⟩ | refine Or.inl ⟨_, rfl, ?_⟩ | refine Or.inr ⟨_, rfl, ?_⟩ | refine ⟨_, _, _, _, true, rfl, .ty _, .base (.str _), kit_ty (by decide +kernel), ?_⟩ | refine ⟨_, _, rfl, ⟨by rw [sizeLine_eq]; omega, rfl⟩, ?_⟩ | refine ⟨_, _, rfl, .inl ⟨_, SqL.of (by assumption), rfl⟩, ?_⟩ | refine ⟨_, _, rfl, .inr ⟨_, SqT.of (by assumption), rfl⟩, ?_⟩))
    refine fun d nd => ?_
    have nd0 : H d = none := k13.free hw nd
    have ne : d ≠ a := fun e => by rw [e, ha] at nd; cases nd
    have k14 : Kp wl H (upd H2 d (.dK [])) := k13.put hw nd0
    (repeat (first | refine ⟨_, rfl, ?_⟩ | refine ⟨rfl, ?_⟩ | refine ⟨_, _, rfl, rfl, ?_⟩ | refine iteT ?_ | refine iteF ?_ | refine ⟨(by show (0 : Int) < _; omega), ?_⟩ | refine ⟨(⟨by omega, by omega⟩ : CDiv _ _), ?_⟩ | refine ⟨(⟨by decide, by decide, by decide⟩ : CPow _ _), ?_⟩ | refine ⟨(.inl ⟨by omega, by omega⟩ : CMul _ _), ?_⟩ | refine ⟨(.inr ⟨by omega, by omega⟩ : CMul _ _), ?_⟩ | refine Or.inl ⟨_, rfl, ?_⟩ | refine Or.inr ⟨_, rfl, ?_⟩ | refine ⟨_, _, _, _, true, rfl, .ty _, .base (.str _), kit_ty (by decide +kernel), ?_⟩ | refine ⟨_, _, rfl, ⟨by rw [sizeLine_eq]; omega, rfl⟩, ?_⟩ | refine ⟨_, _, rfl, .inl ⟨_, SqL.of (by assumption), rfl⟩, ?_⟩ | refine ⟨_, _, rfl, .inr ⟨_, SqT.of (by assumption), rfl⟩, ?_⟩))
    refine ⟨(by show 8 ≤ sizeLine; rw [sizeLine_eq]; omega), fun l2 nl2 => ?_⟩
    have nl20 : H l2 = none := k14.free hw nl2
    have k15 : Kp wl H (upd (upd H2 d (.dK [])) l2 (.lst [V.int 0, V.int 1, V.int 2, V.int 5, V.int 9, V.int 23, V.int 24, V.int 25])) := k14.put hw nl20
    refine ⟨wl, _, rfl, k15.well hw, .inl ⟨l2, _, rfl, upd_same, rfl, by simp, (by show 8 < 1000; omega), fun v H3 hv k4 => ?_⟩⟩
    obtain ⟨m2, rfl, hm3, hm4⟩ : ∃ m : Int, v = .int m ∧ 0 ≤ m ∧ m ≤ 25 := by
      simp only [List.mem_cons, List.not_mem_nil, or_false] at hv
      rcases hv with rfl | rfl | rfl | rfl | rfl | rfl | rfl | rfl
      all_goals exact ⟨_, rfl, by omega, by omega⟩
    have k16 := k15.trans k4
    have dw : d ≠ wl := hw.ne nd0
    have hl2d : l2 ≠ d := fun e => by rw [e, upd_same] at nl2; cases nl2
    have hl2a : l2 ≠ a := fun e => by rw [e, upd_ne ne.symm, ha] at nl2; cases nl2
    have aw : a ≠ wl := hw2.neo ha (isW_strs ps)
    have hd3 : H3 d = some (.dK []) := k4.keep _ _ dw (by rw [upd_ne hl2d.symm, upd_same])
    have ha3 : H3 a = some (.lst (ps.map V.str)) := k4.keep _ _ aw (by rw [upd_ne hl2a.symm, upd_ne ne.symm]; exact ha)
    (repeat (first | refine ⟨_, rfl, ?_⟩ | refine ⟨rfl, ?_⟩ | refine ⟨_, _, rfl, rfl, ?_⟩ | refine iteT ?_ | refine iteF ?_ | refine ⟨(by show (0 : Int) < _; omega), ?_⟩ | refine ⟨(⟨by omega, by omega⟩ : CDiv _ _), ?_⟩ | refine ⟨(⟨by decide, by decide, by decide⟩ : CPow _ _), ?_⟩ | refine ⟨(.inl ⟨by omega, by omega⟩ : CMul _ _), ?_⟩ | refine ⟨(.inr ⟨by omega, by omega⟩ : CMul _ _), ?_⟩ | refine Or.inl ⟨_, rfl, ?_⟩ | refine Or.inr ⟨_, rfl, ?_⟩ | refine ⟨_, _, _, _, true, rfl, .ty _, .base (.str _), kit_ty (by decide +kernel), ?_⟩ | refine ⟨_, _, rfl, ⟨by rw [sizeLine_eq]; omega, rfl⟩, ?_⟩ | refine ⟨_, _, rfl, .inl ⟨_, SqL.of (by assumption), rfl⟩, ?_⟩ | refine ⟨_, _, rfl, .inr ⟨_, SqT.of (by assumption), rfl⟩, ?_⟩))
    refine ⟨wl, m2, rfl, k16.well hw, hm3, by omega, fun f ns H4 nf k5 hf hlen2 hsh2 => ?_⟩
    have k17 := k16.trans k5
    have nf0 : H f = none := k16.free hw nf
    have fw : f ≠ wl := hw.ne nf0
    have fd : f ≠ d := fun e => by rw [e, hd3] at nf; cases nf
    have fa : f ≠ a := fun e => by rw [e, ha3] at nf; cases nf
    refine ⟨f, rfl, ⟨_, SqL.of hf⟩, for_it walk_list (fun i σ H' => ∃ (v3 : Option V) (es : List (Str × TV)) (kvs : List (Key × V)), σ = [some (.ref wl), some (.ref a), some (.ref d), v3] ∧ Kp wl H H' ∧ H' f = some (.lst (ns.map V.str)) ∧ H' a = some (.lst (ps.map V.str)) ∧
        H' d = some (.dK kvs) ∧ Paired (Tie K H') kvs es ∧ (es.map (·.1)).Nodup ∧ es.length ≤ i ∧ ∀ e ∈ es, GoodE ps e)
      ⟨_, [], [], rfl, k17, hf, k5.keep _ _ aw ha3, k5.keep _ _ dw hd3, .nil, List.nodup_nil, Nat.le_refl _, fun e he => by cases he⟩ (fun i σ H' _ ⟨_, _, _, _, _, h, _⟩ => SqL.of h) ?_ ?_⟩
    · rintro i v σ H5 H6 hi ⟨v3, es, kvs, rfl, k6, hf5, ha5, hd5, hP, hnd, hle, hgd⟩ ⟨rfl, hv⟩
      rw [List.length_map] at hi
      have hn : ns[i]? = some ns[i] := List.getElem?_eq_getElem hi
      have ev : v = V.str ns[i] := by
        rw [List.getElem?_map, hn] at hv
        exact (Option.some.inj hv).symm
      subst ev
      have hps : ps.map V.str ≠ [] := by
        intro e
        have := congrArg List.length e
        rw [List.length_map] at this
        simp only [List.length_nil] at this
        omega
      (repeat (first | refine ⟨_, rfl, ?_⟩ | refine ⟨rfl, ?_⟩ | refine ⟨_, _, rfl, rfl, ?_⟩ | refine iteT ?_ | refine iteF ?_ | refine ⟨(by show (0 : Int) < _; omega), ?_⟩ | refine ⟨(⟨by omega, by omega⟩ : CDiv _ _), ?_⟩ | refine ⟨(⟨by decide, by decide, by decide⟩ : CPow _ _), ?_⟩ | refine ⟨(.inl ⟨by omega, by omega⟩ : CMul _ _), ?_⟩ | refine ⟨(.inr ⟨by omega, by omega⟩ : CMul _ _), ?_⟩ | refine Or.inl ⟨_, rfl, ?_⟩ | refine Or.inr ⟨_, rfl, ?_⟩ | refine ⟨_, _, _, _, true, rfl, .ty _, .base (.str _), kit_ty (by decide +kernel), ?_⟩ | refine ⟨_, _, rfl, ⟨by rw [sizeLine_eq]; omega, rfl⟩, ?_⟩ | refine ⟨_, _, rfl, .inl ⟨_, SqL.of (by assumption), rfl⟩, ?_⟩ | refine ⟨_, _, rfl, .inr ⟨_, SqT.of (by assumption), rfl⟩, ?_⟩))
      refine ⟨wl, _, rfl, k6.well hw, .inl ⟨a, _, rfl, ha5, isW_strs ps, hps, by rw [List.length_map]; omega, fun x H7 hx k7 => ?_⟩⟩
      obtain ⟨x1, hx1, rfl⟩ := List.mem_map.mp hx
      have k67 := k6.trans k7
      have hw5 := k6.well hw
      have ha7 := k7.keep _ _ aw ha5
      (repeat (first | refine ⟨_, rfl, ?_⟩ | refine ⟨rfl, ?_⟩ | refine ⟨_, _, rfl, rfl, ?_⟩ | refine iteT ?_ | refine iteF ?_ | refine ⟨(by show (0 : Int) < _; omega), ?_⟩ | refine ⟨(⟨by omega, by omega⟩ : CDiv _ _), ?_⟩ | refine ⟨(⟨by decide, by decide, by decide⟩ : CPow _ _), ?_⟩ | refine ⟨(.inl ⟨by omega, by omega⟩ : CMul _ _), ?_⟩ | refine ⟨(.inr ⟨by omega, by omega⟩ : CMul _ _), ?_⟩ | refine Or.inl ⟨_, rfl, ?_⟩ | refine Or.inr ⟨_, rfl, ?_⟩ | refine ⟨_, _, _, _, true, rfl, .ty _, .base (.str _), kit_ty (by decide +kernel), ?_⟩ | refine ⟨_, _, rfl, ⟨by rw [sizeLine_eq]; omega, rfl⟩, ?_⟩ | refine ⟨_, _, rfl, .inl ⟨_, SqL.of (by assumption), rfl⟩, ?_⟩ | refine ⟨_, _, rfl, .inr ⟨_, SqT.of (by assumption), rfl⟩, ?_⟩))
      refine ⟨wl, _, rfl, k67.well hw, .inl ⟨a, _, rfl, ha7, isW_strs ps, hps, by rw [List.length_map]; omega, fun y H8 hy k8 => ?_⟩⟩
      obtain ⟨y1, hy1, rfl⟩ := List.mem_map.mp hy
      have k78 := k7.trans k8
      have k68 := k67.trans k8
      (repeat (first | refine ⟨_, rfl, ?_⟩ | refine ⟨rfl, ?_⟩ | refine ⟨_, _, rfl, rfl, ?_⟩ | refine iteT ?_ | refine iteF ?_ | refine ⟨(by show (0 : Int) < _; omega), ?_⟩ | refine ⟨(⟨by omega, by omega⟩ : CDiv _ _), ?_⟩ | refine ⟨(⟨by decide, by decide, by decide⟩ : CPow _ _), ?_⟩ | refine ⟨(.inl ⟨by omega, by omega⟩ : CMul _ _), ?_⟩ | refine ⟨(.inr ⟨by omega, by omega⟩ : CMul _ _), ?_⟩ | refine Or.inl ⟨_, rfl, ?_⟩ | refine Or.inr ⟨_, rfl, ?_⟩ | refine ⟨_, _, _, _, true, rfl, .ty _, .base (.str _), kit_ty (by decide +kernel), ?_⟩ | refine ⟨_, _, rfl, ⟨by rw [sizeLine_eq]; omega, rfl⟩, ?_⟩ | refine ⟨_, _, rfl, .inl ⟨_, SqL.of (by assumption), rfl⟩, ?_⟩ | refine ⟨_, _, rfl, .inr ⟨_, SqT.of (by assumption), rfl⟩, ?_⟩))
      refine ⟨(by show 2 ≤ sizeLine; rw [sizeLine_eq]; omega), fun t nt => ?_⟩
      have nt0 : H t = none := k68.free hw nt
      have hd8 : H8 d = some (.dK kvs) := k78.keep _ _ dw hd5
      have td : t ≠ d := fun e => by rw [e, hd8] at nt; cases nt
      have hlenk : kvs.length ≤ 63 := by rw [hP.length]; omega
      (repeat (first | refine ⟨_, rfl, ?_⟩ | refine ⟨rfl, ?_⟩ | refine ⟨_, _, rfl, rfl, ?_⟩ | refine iteT ?_ | refine iteF ?_ | refine ⟨(by show (0 : Int) < _; omega), ?_⟩ | refine ⟨(⟨by omega, by omega⟩ : CDiv _ _), ?_⟩ | refine ⟨(⟨by decide, by decide, by decide⟩ : CPow _ _), ?_⟩ | refine ⟨(.inl ⟨by omega, by omega⟩ : CMul _ _), ?_⟩ | refine ⟨(.inr ⟨by omega, by omega⟩ : CMul _ _), ?_⟩ | refine Or.inl ⟨_, rfl, ?_⟩ | refine Or.inr ⟨_, rfl, ?_⟩ | refine ⟨_, _, _, _, true, rfl, .ty _, .base (.str _), kit_ty (by decide +kernel), ?_⟩ | refine ⟨_, _, rfl, ⟨by rw [sizeLine_eq]; omega, rfl⟩, ?_⟩ | refine ⟨_, _, rfl, .inl ⟨_, SqL.of (by assumption), rfl⟩, ?_⟩ | refine ⟨_, _, rfl, .inr ⟨_, SqT.of (by assumption), rfl⟩, ?_⟩))
      refine ⟨d, _, rfl, DPut.k (k := .inr ns[i]) (by rw [upd_ne td.symm]; exact hd8) (small1000 (by omega)), _, putE es ns[i] (.ends x1 y1), _, rfl, (k68.put hw nt0).put hw nd0, ?_, ?_, upd_same, ?_, putE_nodup hnd, ?_, ?_⟩
      · rw [upd_ne fd, upd_ne (fun e => by rw [← e, k78.keep _ _ fw hf5] at nt; cases nt)]
        exact k78.keep _ _ fw hf5
      · rw [upd_ne ne.symm, upd_ne (fun e => by rw [← e, k8.keep _ _ aw ha7] at nt; cases nt)]
        exact k8.keep _ _ aw ha7
      · have sN : Same H8 (upd H8 t (.tup [V.str x1, V.str y1])) := Same.new nt
        have hP9 : Paired (Tie K (upd H8 t (.tup [V.str x1, V.str y1]))) kvs es := Paired.imp (fun _ _ q => ⟨q.1, (q.2.kp k78 hw5).same sN⟩) hP
        exact Paired.imp (fun _ _ q => ⟨q.1, q.2.dk (by rw [upd_ne td.symm]; exact hd8)⟩) (tie_put (TVr.ends upd_same) hP9)
      · have := putE_len es ns[i] (.ends x1 y1)
        omega
      · intro e he
        rcases putE_mem he with he | rfl
        · exact hgd e he
        · exact ⟨hsh2 _ (List.getElem_mem hi), x1, y1, rfl, hx1, hy1⟩
    · rintro σ H5 ⟨v3, es, kvs, rfl, k6, hf5, ha5, hd5, hP, hnd, hle, hgd⟩
      rw [List.length_map] at hle
      (repeat (first | refine ⟨_, rfl, ?_⟩ | refine ⟨rfl, ?_⟩ | refine ⟨_, _, rfl, rfl, ?_⟩ | refine iteT ?_ | refine iteF ?_ | refine ⟨(by show (0 : Int) < _; omega), ?_⟩ | refine ⟨(⟨by omega, by omega⟩ : CDiv _ _), ?_⟩ | refine ⟨(⟨by decide, by decide, by decide⟩ : CPow _ _), ?_⟩ | refine ⟨(.inl ⟨by omega, by omega⟩ : CMul _ _), ?_⟩ | refine ⟨(.inr ⟨by omega, by omega⟩ : CMul _ _), ?_⟩ | refine Or.inl ⟨_, rfl, ?_⟩ | refine Or.inr ⟨_, rfl, ?_⟩ | refine ⟨_, _, _, _, true, rfl, .ty _, .base (.str _), kit_ty (by decide +kernel), ?_⟩ | refine ⟨_, _, rfl, ⟨by rw [sizeLine_eq]; omega, rfl⟩, ?_⟩ | refine ⟨_, _, rfl, .inl ⟨_, SqL.of (by assumption), rfl⟩, ?_⟩ | refine ⟨_, _, rfl, .inr ⟨_, SqT.of (by assumption), rfl⟩, ?_⟩))
      refine ⟨(by show 2 ≤ sizeLine; rw [sizeLine_eq]; omega), fun p np => ?_⟩
      have np0 : H p = none := k6.free hw np
      have sN : Same H5 (upd H5 p (.tup [V.ref a, V.ref d])) := Same.new np
      exact k p a d ps es _ (k6.put hw np0) upd_same (sN _ _ ha5) ⟨⟨kvs, sN _ _ hd5, Paired.imp (fun _ _ q => ⟨q.1, q.2.same sN⟩) hP⟩, hnd⟩ (by omega) (by omega) (by omega) hsh hgd
end
end BF
set_option Elab.async false
set_option linter.all false
set_option maxRecDepth 100000
set_option maxHeartbeats 400000
namespace BF
open PySem PySem.Spec PyProof.Rows L2
open C8 (Cal CalAt Met Mak cal0 met0 mak0 fn0 pe_c pe_mk pe_mt pe_mt0 pe_gc fnScope fnBody fnArgs fnScope_by)
open SX
section
variable {P : Program} {w : World} {K : PySem.W.Frag} {mg : Str → Option Value} {base : Heap} {A : Ad}
theorem isW_len {xs : List V} (h : xs.length ≠ 3) : isW (.lst xs) = false := by
  unfold isW
  split
  · rename_i e
    cases e
    exact absurd rfl h
  · rfl
def W8 (x : Str) : Prop := x.length ≤ 1000 ∧ PyData.strOk x = true
def spSpoiled (K : PySem.W.Frag) : Sp := fun vs H Q _ => ∃ (wl a d : Addr) (ps : List Str) (es : List (Str × TV)), vs = [.ref wl, .ref a, .ref d] ∧ WellAt H wl ∧ H a = some (.lst (ps.map V.str)) ∧ TiesR K H d es ∧
  ps.length ≤ 40 ∧ es.length ≤ 40 ∧ (∀ x ∈ ps, W8 x) ∧ (∀ e ∈ es, W8 e.1) ∧
  ∀ p a' d' (ps' : List Str) (es' : List (Str × TV)) H', H p = none → Kp wl H H' → H' p = some (.tup [.ref a', .ref d']) → H' a' = some (.lst (ps'.map V.str)) → TiesR K H' d' es' → ps'.length ≤ ps.length + 1 → es'.length ≤ es.length + 1 → (∀ x ∈ ps', W8 x) → (∀ e ∈ es', W8 e.1) → Q (.ref p) H'
theorem cal_law_spoiled (T : Txt K mg A) : Cal P w K mg base 3 "_law_spoiled" (spSpoiled K) [] := by
  refine cal0 T.d_law_spoiled T.b_law_spoiled .nil sc_law_spoiled (fun vs H Q E h => ?_) (fun cdv B outer s H vs Q E hr h => ?_)
  · obtain ⟨wl, a, d, ps, es, rfl, _⟩ := h
    rfl
  · obtain ⟨wl, a, d, ps, es, rfl, hw, ha, hT, hl, hl2, hx, hx2, k⟩ := h
    refine ⟨_, (pss_cons (ps_set (i := 3) sc_law_spoiled.nd rfl (by first | exact Or.inl rfl | exact Or.inr rfl) (pe_c (cal_law_draw T) hr (by decide) rfl (pa_cons (pv 0) (pa_cons pe_int pa_nil))))
 (pss_cons (ps_if (pt_cmpR op_eq (pv 3) pe_int (nomark _)) (pss_cons (ps_set (i := 4) sc_law_spoiled.nd rfl (by first | exact Or.inl rfl | exact Or.inr rfl) (pe_c (cal_law_draw T) hr (by decide) rfl (pa_cons (pv 0) (pa_cons (pe_op op_add (pe_callB (lenK K) (by rfl) T.z_len (by decide +kernel) (pa_cons (pv 1) pa_nil)) pe_int) pa_nil))))
 (pss_one (ps_ret (pe_tup (pa_cons (pe_op op_cat (pe_op op_cat (pe_slice (slLK K) (pv 1) po_none (po_some (pv 4))) (pe_lst (pa_cons (pe_c (cal_law_pick T) hr (by decide) rfl (pa_cons (pv 0) (pa_cons (pe_op op_cat (pe_lst (pa_cons pe_str (pa_cons pe_str (pa_cons pe_str (pa_cons pe_str pa_nil))))) (pv 1)) pa_nil))) pa_nil))) (pe_slice (slLK K) (pv 1) (po_some (pv 4)) po_none)) (pa_cons (pv 2) pa_nil)))))) pss_nil)
 (pss_cons (ps_if (pt_cmpR op_eq (pv 3) pe_int (nomark _)) (pss_one (ps_ret (pe_tup (pa_cons (pe_lst pa_nil) (pa_cons (pv 2) pa_nil))))) pss_nil)
 (pss_cons (ps_set (i := 5) sc_law_spoiled.nd rfl (by first | exact Or.inl rfl | exact Or.inr rfl) (pe_callTy call_dictD (by rfl) T.z_dict (by decide +kernel) (pa_cons (pv 2) pa_nil)))
 (pss_cons (ps_set (i := 6) sc_law_spoiled.nd rfl (by first | exact Or.inl rfl | exact Or.inr rfl) (pe_ifExp (pt_cmpR (neDK K hr) (pv 1) (pe_lst pa_nil) (nomark _)) (pe_c (cal_law_pick T) hr (by decide) rfl (pa_cons (pv 0) (pa_cons (pv 1) pa_nil))) pe_str))
 (pss_cons (ps_set (i := 7) sc_law_spoiled.nd rfl (by first | exact Or.inl rfl | exact Or.inr rfl) (pe_lst (pa_cons (pe_tup (pa_cons (pv 6) pa_nil)) (pa_cons (pe_tup (pa_cons (pv 6) (pa_cons (pv 6) (pa_cons (pv 6) pa_nil)))) (pa_cons (pe_lst (pa_cons (pv 6) (pa_cons (pv 6) pa_nil))) (pa_cons (pv 6) (pa_cons pe_non (pa_cons pe_int (pa_cons (pe_tup (pa_cons (pv 6) (pa_cons pe_str pa_nil))) (pa_cons (pe_tup (pa_cons pe_str (pa_cons (pv 6) pa_nil))) (pa_cons (pe_tup (pa_cons (pv 6) (pa_cons pe_non pa_nil))) (pa_cons (pe_tup (pa_cons (pe_lst (pa_cons (pv 6) pa_nil)) (pa_cons (pv 6) pa_nil))) (pa_cons (pe_tup (pa_cons pe_int (pa_cons (pv 6) pa_nil))) (pa_cons pe_dnewK (pa_cons pe_bl pa_nil)))))))))))))))
 (pss_cons (ps_set (i := 8) sc_law_spoiled.nd rfl (by first | exact Or.inl rfl | exact Or.inr rfl) (pe_ifExp (pt_cmpR op_eq (pv 3) pe_int (nomark _)) (pe_op op_cat (pe_callTy (call_listD rfl) (by rfl) T.z_list (by decide +kernel) (pa_cons (pv 2) pa_nil)) (pe_lst (pa_cons pe_str pa_nil))) (pe_lst (pa_cons pe_str (pa_cons pe_str (pa_cons pe_str (pa_cons pe_str pa_nil)))))))
 (pss_cons (ps_dput (hu_of hr) (pv 5) (pe_c (cal_law_pick T) hr (by decide) rfl (pa_cons (pv 0) (pa_cons (pv 8) pa_nil))) (pe_ifExp (pt_cmpR op_eq (pv 3) pe_int (nomark _)) (pe_c (cal_law_pick T) hr (by decide) rfl (pa_cons (pv 0) (pa_cons (pv 7) pa_nil))) (pe_tup (pa_cons (pv 6) (pa_cons (pv 6) pa_nil)))) rfl)
 (pss_one (ps_ret (pe_tup (pa_cons (pv 1) (pa_cons (pv 5) pa_nil))))))))))))), ?_⟩
    (repeat (first | refine ⟨_, rfl, ?_⟩ | refine ⟨rfl, ?_⟩ | refine ⟨_, _, rfl, rfl, ?_⟩ | refine iteT ?_ | refine iteF ?_ | refine ⟨(by show (0 : Int) < _; omega), ?_⟩ | refine ⟨(⟨by omega, by omega⟩ : CDiv _ _), ?_⟩ | refine ⟨(⟨by decide, by decide, by decide⟩ : CPow _ _), ?_⟩ | refine ⟨(.inl ⟨by omega, by omega⟩ : CMul _ _), ?_⟩ | refine ⟨(.inr ⟨by omega, by omega⟩ : CMul _ _), ?_⟩ | refine Or.inl ⟨_, rfl, ?_⟩ | refine Or.inr ⟨_, rfl, ?_⟩ | refine ⟨_, _, _, _, true, rfl, .ty _, .base (.str _), kit_ty (by decide +kernel), ?_⟩ | refine ⟨_, _, rfl, ⟨by rw [sizeLine_eq]; omega, rfl⟩, ?_⟩ | refine ⟨_, _, rfl, .inl ⟨_, SqL.of (by assumption), rfl⟩, ?_⟩ | refine ⟨_, _, rfl, .inr ⟨_, SqT.of (by assumption), rfl⟩, ?_⟩))
    refine ⟨wl, 4, rfl, hw, by omega, by omega, fun kd H1 h0 h4 k1 => ?_⟩
    have hw1 := k1.well hw
    have ha1 := k1.get hw ha (isW_strs ps)
    have hT1 := hT.kp k1 hw
    obtain ⟨⟨kvs0, hd0, hp0⟩, hnd⟩ := id hT
    have hkeys : (kvs0.map fun kv => kV kv.1) = (es.map (·.1)).map V.str := by
      have e := congrArg (List.map kV) (tie_keys hp0)
      rw [List.map_map, List.map_map] at e
      rw [show (fun kv : Key × V => kV kv.1) = kV ∘ (fun x => x.1) from rfl, e, List.map_map, List.map_map]
      rfl
    have hlen0 : kvs0.length = es.length := hp0.length
    have pany : ∀ (σ : L2.St), σ[0]? = some (some (.ref wl)) → σ[1]? = some (some (.ref a)) → ∀ H2, Kp wl H H2 → ∀ R : VK, (∀ pz H3, W8 pz → Kp wl H2 H3 → R (.str pz) H3) →
        tIf (tTest (tOp (rNeD K) (tVar 1) (tLst tNil))) (tCall spPick [] C8.E0 (tCons (tVar 0) (tCons (tVar 1) tNil))) (tC (.str "a")) σ H2 R := by
      intro σ e0 e1 H2 k2 R hR
      have ha2 := k2.get hw ha (isW_strs ps)
      refine ⟨_, e1, (by show 0 ≤ sizeLine; rw [sizeLine_eq]; omega), fun l nl => ?_⟩
      have s1 : Same H2 (upd H2 l (.lst [])) := Same.new nl
      have el : upd H2 l (.lst []) l = some (.lst (([] : List Str).map V.str)) := upd_same
      refine ⟨_, _, dp_strs (s1 _ _ ha2), dp_strs el, shaped_strs (fun p hp => (hx p hp).2), shaped_strs (fun p hp => by cases hp), _, rfl, ?_⟩
      rw [eqv_strs]
      by_cases hp : ps = []
      · rw [decide_eq_true hp]
        exact hR "a" _ ⟨by decide +kernel, by decide +kernel⟩ (Kp.same s1)
      · rw [decide_eq_false hp]
        have hps : ps.map V.str ≠ [] := fun e => hp (by cases ps with
          | nil => rfl
          | cons p r => cases e)
        refine ⟨_, e0, _, e1, wl, _, rfl, (k2.trans (Kp.same s1)).well hw, .inl ⟨a, _, rfl, s1 _ _ ha2, isW_strs ps, hps, by rw [List.length_map]; omega, fun v H3 hv k3 => ?_⟩⟩
        obtain ⟨x, hx1, rfl⟩ := List.mem_map.mp hv
        exact hR x H3 (hx x hx1) ((Kp.same s1).trans k3)
    have nany : ∀ (σ : L2.St), σ[2]? = some (some (.ref d)) → σ[3]? = some (some (.int kd)) → ∀ H2, Kp wl H H2 → ∀ R : VK, (∀ l (ns : List Str) H3, Same H2 H3 → H3 l = some (.lst (ns.map V.str)) → ns ≠ [] → ns.length ≤ 50 → (∀ n ∈ ns, W8 n) → R (.ref l) H3) →
        tIf (tTest (tOp rEq (tVar 3) (tC (V.int 2)))) (tOp rCat (tCB (fun xs H Q => ∃ a kvs, xs = [V.ref a] ∧ Rd H a (HO.dK kvs) ∧ ∀ (p : Addr), H p = none → Q (V.ref p) (upd H p (HO.lst (List.map (fun kv => kV kv.fst) kvs)))) (tCons (tVar 2) tNil)) (tLst (tCons (tC (V.str "zzzzzzzz")) tNil)))
          (tLst (tCons (tC (V.str "")) (tCons (tC (V.str "A")) (tCons (tC (V.str "toolongname")) (tCons (tC (V.str "a b")) tNil))))) σ H2 R := by
      intro σ e2 e3 H2 k2 R hR
      refine ⟨_, e3, rfl, _, rfl, ?_⟩
      by_cases h : kd = 2
      · rw [decide_eq_true (by rw [h])]
        refine iteT ⟨_, e2, d, kvs0, rfl, .inl (k2.get hw hd0), fun l nl => ⟨(by show 1 ≤ sizeLine; rw [sizeLine_eq]; omega), fun m nm => ?_⟩⟩
        have s1 : Same H2 (upd H2 l (.lst (kvs0.map fun kv => kV kv.1))) := Same.new nl
        have s2 := s1.trans (Same.new (o := .lst [V.str "zzzzzzzz"]) nm)
        refine ⟨l, m, _, _, rfl, rfl, Same.new nm _ _ upd_same, upd_same, ?_, fun r nr => ?_⟩
        · rw [List.length_map, hlen0, sizeLine_eq]
          show es.length + 1 ≤ _
          omega
        · refine hR r (es.map (·.1) ++ [("zzzzzzzz" : Str)]) _ (s2.trans (Same.new nr)) ?_ (by simp) (by simp; omega) (fun n hn => ?_)
          · rw [upd_same, hkeys, List.map_append]
            rfl
          · rcases List.mem_append.mp hn with hn | hn
            · obtain ⟨e, he, rfl⟩ := List.mem_map.mp hn
              exact hx2 e he
            · rw [List.mem_singleton.mp hn]
              exact ⟨by decide +kernel, by decide +kernel⟩
      · rw [decide_eq_false (fun e => h (V.int.inj e))]
        refine iteF ⟨(by show 4 ≤ sizeLine; rw [sizeLine_eq]; omega), fun l nl => ?_⟩
        refine hR l ["", "A", "toolongname", "a b"] _ (Same.new nl) upd_same (by simp) (by simp) (fun n hn => ?_)
        simp only [List.mem_cons, List.not_mem_nil, or_false] at hn
        rcases hn with rfl | rfl | rfl | rfl
        all_goals exact ⟨by decide +kernel, by decide +kernel⟩
    have vany : ∀ (σ : L2.St) (l : Addr) (vs : List V) (pz : Str), σ[0]? = some (some (.ref wl)) → σ[3]? = some (some (.int kd)) → σ[6]? = some (some (.str pz)) → σ[7]? = some (some (.ref l)) → ∀ H2, WellAt H2 wl → H2 l = some (.lst vs) → vs.length = 13 → (∀ v ∈ vs, Tv K v H2) →
        ∀ R : VK, (∀ v H3, Kp wl H2 H3 → Tv K v H3 → R v H3) → tIf (tTest (tOp rEq (tVar 3) (tC (V.int 2)))) (tCall spPick [] C8.E0 (tCons (tVar 0) (tCons (tVar 7) tNil))) (tTup (tCons (tVar 6) (tCons (tVar 6) tNil))) σ H2 R := by
      intro σ l vs pz e0 e3 e6 e7 H2 hw2 hl13 hn13 htv R hR
      refine ⟨_, e3, rfl, _, rfl, ?_⟩
      by_cases h : kd = 2
      · rw [decide_eq_true (by rw [h])]
        refine iteT ⟨_, e0, _, e7, wl, _, rfl, hw2, .inl ⟨l, vs, rfl, hl13, isW_len (by omega), (fun e => by rw [e] at hn13; cases hn13), by omega, fun v H3 hv k3 => ?_⟩⟩
        obtain ⟨tv, q⟩ := htv v hv
        exact hR v H3 k3 ⟨tv, q.kp k3 hw2⟩
      · rw [decide_eq_false (fun e => h (V.int.inj e))]
        exact iteF (tv_vv (K := K) (H0 := H2) e6 e6 H2 (Same.refl H2) R fun v H3 s3 q => hR v H3 (Kp.same s3) q)
    (repeat (first | refine ⟨_, rfl, ?_⟩ | refine ⟨rfl, ?_⟩ | refine ⟨_, _, rfl, rfl, ?_⟩ | refine iteT ?_ | refine iteF ?_ | refine ⟨(by show (0 : Int) < _; omega), ?_⟩ | refine ⟨(⟨by omega, by omega⟩ : CDiv _ _), ?_⟩ | refine ⟨(⟨by decide, by decide, by decide⟩ : CPow _ _), ?_⟩ | refine ⟨(.inl ⟨by omega, by omega⟩ : CMul _ _), ?_⟩ | refine ⟨(.inr ⟨by omega, by omega⟩ : CMul _ _), ?_⟩ | refine Or.inl ⟨_, rfl, ?_⟩ | refine Or.inr ⟨_, rfl, ?_⟩ | refine ⟨_, _, _, _, true, rfl, .ty _, .base (.str _), kit_ty (by decide +kernel), ?_⟩ | refine ⟨_, _, rfl, ⟨by rw [sizeLine_eq]; omega, rfl⟩, ?_⟩ | refine ⟨_, _, rfl, .inl ⟨_, SqL.of (by assumption), rfl⟩, ?_⟩ | refine ⟨_, _, rfl, .inr ⟨_, SqT.of (by assumption), rfl⟩, ?_⟩))
    by_cases c0 : kd = 0
    · rw [decide_eq_true (by rw [c0])]
      (repeat (first | refine ⟨_, rfl, ?_⟩ | refine ⟨rfl, ?_⟩ | refine ⟨_, _, rfl, rfl, ?_⟩ | refine iteT ?_ | refine iteF ?_ | refine ⟨(by show (0 : Int) < _; omega), ?_⟩ | refine ⟨(⟨by omega, by omega⟩ : CDiv _ _), ?_⟩ | refine ⟨(⟨by decide, by decide, by decide⟩ : CPow _ _), ?_⟩ | refine ⟨(.inl ⟨by omega, by omega⟩ : CMul _ _), ?_⟩ | refine ⟨(.inr ⟨by omega, by omega⟩ : CMul _ _), ?_⟩ | refine Or.inl ⟨_, rfl, ?_⟩ | refine Or.inr ⟨_, rfl, ?_⟩ | refine ⟨_, _, _, _, true, rfl, .ty _, .base (.str _), kit_ty (by decide +kernel), ?_⟩ | refine ⟨_, _, rfl, ⟨by rw [sizeLine_eq]; omega, rfl⟩, ?_⟩ | refine ⟨_, _, rfl, .inl ⟨_, SqL.of (by assumption), rfl⟩, ?_⟩ | refine ⟨_, _, rfl, .inr ⟨_, SqT.of (by assumption), rfl⟩, ?_⟩))
      refine ⟨wl, _, rfl, hw1, (by omega), (by rw [List.length_map]; omega), fun at_ H2 g0 g1 k2 => ?_⟩
      rw [List.length_map] at g1
      obtain ⟨i, rfl⟩ : ∃ i : Nat, at_ = i := ⟨at_.toNat, by omega⟩
      have ha2 := k2.get hw1 ha1 (isW_strs ps)
      have k12 := k1.trans k2
      have hw2 := k12.well hw
      (repeat (first | refine ⟨_, rfl, ?_⟩ | refine ⟨rfl, ?_⟩ | refine ⟨_, _, rfl, rfl, ?_⟩ | refine iteT ?_ | refine iteF ?_ | refine ⟨(by show (0 : Int) < _; omega), ?_⟩ | refine ⟨(⟨by omega, by omega⟩ : CDiv _ _), ?_⟩ | refine ⟨(⟨by decide, by decide, by decide⟩ : CPow _ _), ?_⟩ | refine ⟨(.inl ⟨by omega, by omega⟩ : CMul _ _), ?_⟩ | refine ⟨(.inr ⟨by omega, by omega⟩ : CMul _ _), ?_⟩ | refine Or.inl ⟨_, rfl, ?_⟩ | refine Or.inr ⟨_, rfl, ?_⟩ | refine ⟨_, _, _, _, true, rfl, .ty _, .base (.str _), kit_ty (by decide +kernel), ?_⟩ | refine ⟨_, _, rfl, ⟨by rw [sizeLine_eq]; omega, rfl⟩, ?_⟩ | refine ⟨_, _, rfl, .inl ⟨_, SqL.of (by assumption), rfl⟩, ?_⟩ | refine ⟨_, _, rfl, .inr ⟨_, SqT.of (by assumption), rfl⟩, ?_⟩))
      refine ⟨a, _, rfl, SqL.of ha2, fun q1 n1 => ?_⟩
      rw [cut_to, ← List.map_take]
      have s1 : Same H2 (upd H2 q1 (.lst ((ps.take i).map V.str))) := Same.new n1
      have e1 : upd H2 q1 (.lst ((ps.take i).map V.str)) q1 = _ := upd_same
      (repeat (first | refine ⟨_, rfl, ?_⟩ | refine ⟨rfl, ?_⟩ | refine ⟨_, _, rfl, rfl, ?_⟩ | refine iteT ?_ | refine iteF ?_ | refine ⟨(by show (0 : Int) < _; omega), ?_⟩ | refine ⟨(⟨by omega, by omega⟩ : CDiv _ _), ?_⟩ | refine ⟨(⟨by decide, by decide, by decide⟩ : CPow _ _), ?_⟩ | refine ⟨(.inl ⟨by omega, by omega⟩ : CMul _ _), ?_⟩ | refine ⟨(.inr ⟨by omega, by omega⟩ : CMul _ _), ?_⟩ | refine Or.inl ⟨_, rfl, ?_⟩ | refine Or.inr ⟨_, rfl, ?_⟩ | refine ⟨_, _, _, _, true, rfl, .ty _, .base (.str _), kit_ty (by decide +kernel), ?_⟩ | refine ⟨_, _, rfl, ⟨by rw [sizeLine_eq]; omega, rfl⟩, ?_⟩ | refine ⟨_, _, rfl, .inl ⟨_, SqL.of (by assumption), rfl⟩, ?_⟩ | refine ⟨_, _, rfl, .inr ⟨_, SqT.of (by assumption), rfl⟩, ?_⟩))
      refine ⟨(by show 4 ≤ sizeLine; rw [sizeLine_eq]; omega), fun q2 n2 => ?_⟩
      have s2 := Same.new (o := .lst [V.str "", V.str "A", V.str "a b", V.str "toolongname"]) n2
      (repeat (first | refine ⟨_, rfl, ?_⟩ | refine ⟨rfl, ?_⟩ | refine ⟨_, _, rfl, rfl, ?_⟩ | refine iteT ?_ | refine iteF ?_ | refine ⟨(by show (0 : Int) < _; omega), ?_⟩ | refine ⟨(⟨by omega, by omega⟩ : CDiv _ _), ?_⟩ | refine ⟨(⟨by decide, by decide, by decide⟩ : CPow _ _), ?_⟩ | refine ⟨(.inl ⟨by omega, by omega⟩ : CMul _ _), ?_⟩ | refine ⟨(.inr ⟨by omega, by omega⟩ : CMul _ _), ?_⟩ | refine Or.inl ⟨_, rfl, ?_⟩ | refine Or.inr ⟨_, rfl, ?_⟩ | refine ⟨_, _, _, _, true, rfl, .ty _, .base (.str _), kit_ty (by decide +kernel), ?_⟩ | refine ⟨_, _, rfl, ⟨by rw [sizeLine_eq]; omega, rfl⟩, ?_⟩ | refine ⟨_, _, rfl, .inl ⟨_, SqL.of (by assumption), rfl⟩, ?_⟩ | refine ⟨_, _, rfl, .inr ⟨_, SqT.of (by assumption), rfl⟩, ?_⟩))
      refine ⟨q2, a, _, _, rfl, rfl, upd_same, s2 _ _ (s1 _ _ ha2), (by rw [List.length_map, sizeLine_eq]; show 4 + ps.length ≤ _; omega), fun q3 n3 => ?_⟩
      have s3 := Same.new (o := .lst (("" :: "A" :: "a b" :: "toolongname" :: ps : List Str).map V.str)) n3
      have e13 := s3 _ _ (s2 _ _ e1)
      have s123 := (s1.trans s2).trans s3
      have k3 := k12.trans (Kp.same s123)
      have hw3 := k3.well hw
      refine ⟨wl, _, rfl, hw3, .inl ⟨q3, (("" :: "A" :: "a b" :: "toolongname" :: ps : List Str).map V.str), rfl, upd_same, isW_strs _, by simp, (by rw [List.length_map]; simp; omega), fun v H4 hv k4 => ?_⟩⟩
      obtain ⟨x, hxm, rfl⟩ := List.mem_map.mp hv
      have hx8 : W8 x := by
        simp only [List.mem_cons] at hxm
        rcases hxm with rfl | rfl | rfl | rfl | hxm
        · exact ⟨by decide +kernel, by decide +kernel⟩
        · exact ⟨by decide +kernel, by decide +kernel⟩
        · exact ⟨by decide +kernel, by decide +kernel⟩
        · exact ⟨by decide +kernel, by decide +kernel⟩
        · exact hx x hxm
      have e14 := k4.get hw3 e13 (isW_strs _)
      have ha4 := k4.get hw3 (s123 _ _ ha2) (isW_strs _)
      have k14 := k3.trans k4
      (repeat (first | refine ⟨_, rfl, ?_⟩ | refine ⟨rfl, ?_⟩ | refine ⟨_, _, rfl, rfl, ?_⟩ | refine iteT ?_ | refine iteF ?_ | refine ⟨(by show (0 : Int) < _; omega), ?_⟩ | refine ⟨(⟨by omega, by omega⟩ : CDiv _ _), ?_⟩ | refine ⟨(⟨by decide, by decide, by decide⟩ : CPow _ _), ?_⟩ | refine ⟨(.inl ⟨by omega, by omega⟩ : CMul _ _), ?_⟩ | refine ⟨(.inr ⟨by omega, by omega⟩ : CMul _ _), ?_⟩ | refine Or.inl ⟨_, rfl, ?_⟩ | refine Or.inr ⟨_, rfl, ?_⟩ | refine ⟨_, _, _, _, true, rfl, .ty _, .base (.str _), kit_ty (by decide +kernel), ?_⟩ | refine ⟨_, _, rfl, ⟨by rw [sizeLine_eq]; omega, rfl⟩, ?_⟩ | refine ⟨_, _, rfl, .inl ⟨_, SqL.of (by assumption), rfl⟩, ?_⟩ | refine ⟨_, _, rfl, .inr ⟨_, SqT.of (by assumption), rfl⟩, ?_⟩))
      refine ⟨(by show 1 ≤ sizeLine; rw [sizeLine_eq]; omega), fun q5 n5 => ?_⟩
      have s5 := Same.new (o := .lst [V.str x]) n5
      (repeat (first | refine ⟨_, rfl, ?_⟩ | refine ⟨rfl, ?_⟩ | refine ⟨_, _, rfl, rfl, ?_⟩ | refine iteT ?_ | refine iteF ?_ | refine ⟨(by show (0 : Int) < _; omega), ?_⟩ | refine ⟨(⟨by omega, by omega⟩ : CDiv _ _), ?_⟩ | refine ⟨(⟨by decide, by decide, by decide⟩ : CPow _ _), ?_⟩ | refine ⟨(.inl ⟨by omega, by omega⟩ : CMul _ _), ?_⟩ | refine ⟨(.inr ⟨by omega, by omega⟩ : CMul _ _), ?_⟩ | refine Or.inl ⟨_, rfl, ?_⟩ | refine Or.inr ⟨_, rfl, ?_⟩ | refine ⟨_, _, _, _, true, rfl, .ty _, .base (.str _), kit_ty (by decide +kernel), ?_⟩ | refine ⟨_, _, rfl, ⟨by rw [sizeLine_eq]; omega, rfl⟩, ?_⟩ | refine ⟨_, _, rfl, .inl ⟨_, SqL.of (by assumption), rfl⟩, ?_⟩ | refine ⟨_, _, rfl, .inr ⟨_, SqT.of (by assumption), rfl⟩, ?_⟩))
      refine ⟨q1, q5, _, _, rfl, rfl, s5 _ _ e14, upd_same, (by rw [List.length_map, List.length_take, sizeLine_eq]; show _ + 1 ≤ _; omega), fun q6 n6 => ?_⟩
      have s6 := Same.new (o := .lst ((ps.take i).map V.str ++ [V.str x])) n6
      have e6 := upd_same (H := upd H4 q5 (.lst [V.str x])) (a := q6) (o := .lst ((ps.take i).map V.str ++ [V.str x]))
      have s56 := s5.trans s6
      (repeat (first | refine ⟨_, rfl, ?_⟩ | refine ⟨rfl, ?_⟩ | refine ⟨_, _, rfl, rfl, ?_⟩ | refine iteT ?_ | refine iteF ?_ | refine ⟨(by show (0 : Int) < _; omega), ?_⟩ | refine ⟨(⟨by omega, by omega⟩ : CDiv _ _), ?_⟩ | refine ⟨(⟨by decide, by decide, by decide⟩ : CPow _ _), ?_⟩ | refine ⟨(.inl ⟨by omega, by omega⟩ : CMul _ _), ?_⟩ | refine ⟨(.inr ⟨by omega, by omega⟩ : CMul _ _), ?_⟩ | refine Or.inl ⟨_, rfl, ?_⟩ | refine Or.inr ⟨_, rfl, ?_⟩ | refine ⟨_, _, _, _, true, rfl, .ty _, .base (.str _), kit_ty (by decide +kernel), ?_⟩ | refine ⟨_, _, rfl, ⟨by rw [sizeLine_eq]; omega, rfl⟩, ?_⟩ | refine ⟨_, _, rfl, .inl ⟨_, SqL.of (by assumption), rfl⟩, ?_⟩ | refine ⟨_, _, rfl, .inr ⟨_, SqT.of (by assumption), rfl⟩, ?_⟩))
      refine ⟨a, _, rfl, SqL.of (s56 _ _ ha4), fun q7 n7 => ?_⟩
      rw [cut_from, ← List.map_drop]
      have s7 := Same.new (o := .lst ((ps.drop i).map V.str)) n7
      (repeat (first | refine ⟨_, rfl, ?_⟩ | refine ⟨rfl, ?_⟩ | refine ⟨_, _, rfl, rfl, ?_⟩ | refine iteT ?_ | refine iteF ?_ | refine ⟨(by show (0 : Int) < _; omega), ?_⟩ | refine ⟨(⟨by omega, by omega⟩ : CDiv _ _), ?_⟩ | refine ⟨(⟨by decide, by decide, by decide⟩ : CPow _ _), ?_⟩ | refine ⟨(.inl ⟨by omega, by omega⟩ : CMul _ _), ?_⟩ | refine ⟨(.inr ⟨by omega, by omega⟩ : CMul _ _), ?_⟩ | refine Or.inl ⟨_, rfl, ?_⟩ | refine Or.inr ⟨_, rfl, ?_⟩ | refine ⟨_, _, _, _, true, rfl, .ty _, .base (.str _), kit_ty (by decide +kernel), ?_⟩ | refine ⟨_, _, rfl, ⟨by rw [sizeLine_eq]; omega, rfl⟩, ?_⟩ | refine ⟨_, _, rfl, .inl ⟨_, SqL.of (by assumption), rfl⟩, ?_⟩ | refine ⟨_, _, rfl, .inr ⟨_, SqT.of (by assumption), rfl⟩, ?_⟩))
      refine ⟨q6, q7, _, _, rfl, rfl, s7 _ _ e6, upd_same, ?_, fun q8 n8 => ?_⟩
      · rw [List.length_append, List.length_map, List.length_map, List.length_take, List.length_drop, sizeLine_eq]
        show _ + 1 + _ ≤ _
        omega
      have s8 := Same.new (o := .lst ((ps.take i).map V.str ++ [V.str x] ++ (ps.drop i).map V.str)) n8
      have e8 := upd_same (H := upd (upd (upd H4 q5 (.lst [V.str x])) q6 (.lst ((ps.take i).map V.str ++ [V.str x]))) q7 (.lst ((ps.drop i).map V.str))) (a := q8) (o := .lst ((ps.take i).map V.str ++ [V.str x] ++ (ps.drop i).map V.str))
      (repeat (first | refine ⟨_, rfl, ?_⟩ | refine ⟨rfl, ?_⟩ | refine ⟨_, _, rfl, rfl, ?_⟩ | refine iteT ?_ | refine iteF ?_ | refine ⟨(by show (0 : Int) < _; omega), ?_⟩ | refine ⟨(⟨by omega, by omega⟩ : CDiv _ _), ?_⟩ | refine ⟨(⟨by decide, by decide, by decide⟩ : CPow _ _), ?_⟩ | refine ⟨(.inl ⟨by omega, by omega⟩ : CMul _ _), ?_⟩ | refine ⟨(.inr ⟨by omega, by omega⟩ : CMul _ _), ?_⟩ | refine Or.inl ⟨_, rfl, ?_⟩ | refine Or.inr ⟨_, rfl, ?_⟩ | refine ⟨_, _, _, _, true, rfl, .ty _, .base (.str _), kit_ty (by decide +kernel), ?_⟩ | refine ⟨_, _, rfl, ⟨by rw [sizeLine_eq]; omega, rfl⟩, ?_⟩ | refine ⟨_, _, rfl, .inl ⟨_, SqL.of (by assumption), rfl⟩, ?_⟩ | refine ⟨_, _, rfl, .inr ⟨_, SqT.of (by assumption), rfl⟩, ?_⟩))
      refine ⟨(by show 2 ≤ sizeLine; rw [sizeLine_eq]; omega), fun q9 n9 => ?_⟩
      have s9 := Same.new (o := .tup [V.ref q8, V.ref d]) n9
      have sall := ((s56.trans s7).trans s8).trans s9
      have kall := k14.trans (Kp.same sall)
      have np0 : H q9 = none := (k14.trans (Kp.same ((s56.trans s7).trans s8))).free hw n9
      refine k q9 q8 d (ps.take i ++ x :: ps.drop i) es _ np0 kall upd_same ?_ (hT.kp kall hw) ?_ (by omega) (fun y hy => ?_) hx2
      · rw [s9 _ _ e8]
        simp
      · rw [List.length_append, List.length_cons, List.length_take, List.length_drop]
        omega
      · rcases List.mem_append.mp hy with hy | hy
        · exact hx y (List.mem_of_mem_take hy)
        · rcases List.mem_cons.mp hy with rfl | hy
          · exact hx8
          · exact hx y (List.mem_of_mem_drop hy)
    · rw [decide_eq_false (fun e => c0 (V.int.inj e))]
      (repeat (first | refine ⟨_, rfl, ?_⟩ | refine ⟨rfl, ?_⟩ | refine ⟨_, _, rfl, rfl, ?_⟩ | refine iteT ?_ | refine iteF ?_ | refine ⟨(by show (0 : Int) < _; omega), ?_⟩ | refine ⟨(⟨by omega, by omega⟩ : CDiv _ _), ?_⟩ | refine ⟨(⟨by decide, by decide, by decide⟩ : CPow _ _), ?_⟩ | refine ⟨(.inl ⟨by omega, by omega⟩ : CMul _ _), ?_⟩ | refine ⟨(.inr ⟨by omega, by omega⟩ : CMul _ _), ?_⟩ | refine Or.inl ⟨_, rfl, ?_⟩ | refine Or.inr ⟨_, rfl, ?_⟩ | refine ⟨_, _, _, _, true, rfl, .ty _, .base (.str _), kit_ty (by decide +kernel), ?_⟩ | refine ⟨_, _, rfl, ⟨by rw [sizeLine_eq]; omega, rfl⟩, ?_⟩ | refine ⟨_, _, rfl, .inl ⟨_, SqL.of (by assumption), rfl⟩, ?_⟩ | refine ⟨_, _, rfl, .inr ⟨_, SqT.of (by assumption), rfl⟩, ?_⟩))
      by_cases c1 : kd = 1
      · rw [decide_eq_true (by rw [c1])]
        (repeat (first | refine ⟨_, rfl, ?_⟩ | refine ⟨rfl, ?_⟩ | refine ⟨_, _, rfl, rfl, ?_⟩ | refine iteT ?_ | refine iteF ?_ | refine ⟨(by show (0 : Int) < _; omega), ?_⟩ | refine ⟨(⟨by omega, by omega⟩ : CDiv _ _), ?_⟩ | refine ⟨(⟨by decide, by decide, by decide⟩ : CPow _ _), ?_⟩ | refine ⟨(.inl ⟨by omega, by omega⟩ : CMul _ _), ?_⟩ | refine ⟨(.inr ⟨by omega, by omega⟩ : CMul _ _), ?_⟩ | refine Or.inl ⟨_, rfl, ?_⟩ | refine Or.inr ⟨_, rfl, ?_⟩ | refine ⟨_, _, _, _, true, rfl, .ty _, .base (.str _), kit_ty (by decide +kernel), ?_⟩ | refine ⟨_, _, rfl, ⟨by rw [sizeLine_eq]; omega, rfl⟩, ?_⟩ | refine ⟨_, _, rfl, .inl ⟨_, SqL.of (by assumption), rfl⟩, ?_⟩ | refine ⟨_, _, rfl, .inr ⟨_, SqT.of (by assumption), rfl⟩, ?_⟩))
        refine ⟨(by show 0 ≤ sizeLine; rw [sizeLine_eq]; omega), fun l nl => ?_⟩
        have s1 := Same.new (o := .lst (([] : List Str).map V.str)) nl
        (repeat (first | refine ⟨_, rfl, ?_⟩ | refine ⟨rfl, ?_⟩ | refine ⟨_, _, rfl, rfl, ?_⟩ | refine iteT ?_ | refine iteF ?_ | refine ⟨(by show (0 : Int) < _; omega), ?_⟩ | refine ⟨(⟨by omega, by omega⟩ : CDiv _ _), ?_⟩ | refine ⟨(⟨by decide, by decide, by decide⟩ : CPow _ _), ?_⟩ | refine ⟨(.inl ⟨by omega, by omega⟩ : CMul _ _), ?_⟩ | refine ⟨(.inr ⟨by omega, by omega⟩ : CMul _ _), ?_⟩ | refine Or.inl ⟨_, rfl, ?_⟩ | refine Or.inr ⟨_, rfl, ?_⟩ | refine ⟨_, _, _, _, true, rfl, .ty _, .base (.str _), kit_ty (by decide +kernel), ?_⟩ | refine ⟨_, _, rfl, ⟨by rw [sizeLine_eq]; omega, rfl⟩, ?_⟩ | refine ⟨_, _, rfl, .inl ⟨_, SqL.of (by assumption), rfl⟩, ?_⟩ | refine ⟨_, _, rfl, .inr ⟨_, SqT.of (by assumption), rfl⟩, ?_⟩))
        refine ⟨(by show 2 ≤ sizeLine; rw [sizeLine_eq]; omega), fun p np => ?_⟩
        have s2 := Same.new (o := .tup [V.ref l, V.ref d]) np
        have kall := k1.trans (Kp.same (s1.trans s2))
        exact k p l d [] es _ ((k1.trans (Kp.same s1)).free hw np) kall upd_same (s2 _ _ upd_same) (hT.kp kall hw) (by show 0 ≤ _; omega) (by omega) (fun y hy => by cases hy) hx2
      · rw [decide_eq_false (fun e => c1 (V.int.inj e))]
        (repeat (first | refine ⟨_, rfl, ?_⟩ | refine ⟨rfl, ?_⟩ | refine ⟨_, _, rfl, rfl, ?_⟩ | refine iteT ?_ | refine iteF ?_ | refine ⟨(by show (0 : Int) < _; omega), ?_⟩ | refine ⟨(⟨by omega, by omega⟩ : CDiv _ _), ?_⟩ | refine ⟨(⟨by decide, by decide, by decide⟩ : CPow _ _), ?_⟩ | refine ⟨(.inl ⟨by omega, by omega⟩ : CMul _ _), ?_⟩ | refine ⟨(.inr ⟨by omega, by omega⟩ : CMul _ _), ?_⟩ | refine Or.inl ⟨_, rfl, ?_⟩ | refine Or.inr ⟨_, rfl, ?_⟩ | refine ⟨_, _, _, _, true, rfl, .ty _, .base (.str _), kit_ty (by decide +kernel), ?_⟩ | refine ⟨_, _, rfl, ⟨by rw [sizeLine_eq]; omega, rfl⟩, ?_⟩ | refine ⟨_, _, rfl, .inl ⟨_, SqL.of (by assumption), rfl⟩, ?_⟩ | refine ⟨_, _, rfl, .inr ⟨_, SqT.of (by assumption), rfl⟩, ?_⟩))
        refine ⟨d, kvs0, rfl, .inl (k1.get hw hd0), fun m nm => ?_⟩
        have nm0 : H m = none := k1.free hw nm
        have s1 := Same.new (o := .dK kvs0) nm
        have k2 := k1.trans (Kp.same s1)
        refine pany _ rfl rfl _ k2 _ fun pz H3 hpz k3 => ?_
        have k13 := k2.trans k3
        have ev := fun (σ : L2.St) (h : σ[6]? = some (some (V.str pz))) => ev_lst (σ := σ) (H0 := H3) (Tv.st (K := K)) (evs_cons Tv.st (tv_one h) (evs_cons Tv.st (tv_three h) (evs_cons Tv.st (tv_list h) (evs_cons Tv.st (tv_var h) (evs_cons Tv.st tv_non
          (evs_cons Tv.st (tv_int (n := 5)) (evs_cons Tv.st (tv_vc (z := "nobody") h) (evs_cons Tv.st (tv_cv (z := "") h) (evs_cons Tv.st (tv_vn h) (evs_cons Tv.st (tv_lv h) (evs_cons Tv.st (tv_iv (n := 5) h) (evs_cons Tv.st tv_dict (evs_cons Tv.st (tv_bl (b := true)) evs_nil))))))))))))) (by decide)
        refine g_name ?_
        try dsimp only
        refine seq_asg ?_
        refine ev _ rfl H3 (Same.refl H3) _ fun v7 H4 s4 hv7 => ?_
        obtain ⟨l7, vs, rfl, hl7, h13, htv⟩ := hv7
        have k14 := k13.trans (Kp.same s4)
        refine g_name ?_
        try dsimp only
        refine seq_asg ?_
        refine nany _ rfl rfl _ k14 _ fun l8 ns H5 s5 hl8 hns0 hns1 hns => ?_
        have k15 := k14.trans (Kp.same s5)
        refine g_name ?_
        try dsimp only
        refine seq_put ?_
        refine vany _ l7 vs pz rfl rfl rfl rfl H5 (k15.well hw) (s5 _ _ hl7) h13 (fun v hv => Tv.st _ _ _ s5 (htv v hv)) _ fun v H6 k6 hv => ?_
        have k16 := k15.trans k6
        have hl86 := k6.get (k15.well hw) hl8 (isW_strs ns)
        have hns0' : ns.map V.str ≠ [] := fun e => hns0 (by cases ns with
          | nil => rfl
          | cons p r => cases e)
        refine ⟨_, rfl, _, rfl, _, rfl, wl, _, rfl, k16.well hw, .inl ⟨l8, _, rfl, hl86, isW_strs ns, hns0', by rw [List.length_map]; omega, fun y H7 hy k7 => ?_⟩⟩
        obtain ⟨n, hn, rfl⟩ := List.mem_map.mp hy
        have k17 := k16.trans k7
        have mw : m ≠ wl := hw.ne nm0
        have hm7 : H7 m = some (.dK kvs0) := k7.keep _ _ mw (k6.keep _ _ mw (s5 _ _ (s4 _ _ (k3.keep _ _ mw upd_same))))
        have hp7 : Paired (Tie K H7) kvs0 es := Paired.imp (fun _ _ q => ⟨q.1, q.2.kp k17 hw⟩) hp0
        obtain ⟨tv, hv⟩ := hv
        have hv7 := hv.kp k7 (k16.well hw)
        refine ⟨m, _, rfl, DPut.k (k := .inr n) hm7 (small1000 (by omega)), _, rfl, _, rfl, (by show 2 ≤ sizeLine; rw [sizeLine_eq]; omega), fun p np => ?_⟩
        have k18 := k17.put (o := .dK (putK kvs0 (.inr n) v)) hw nm0
        have np0 : H p = none := k18.free hw np
        have k19 := k18.put (o := .tup [V.ref a, V.ref m]) hw np0
        have sp := Same.new (o := .tup [V.ref a, V.ref m]) np
        refine k p a m ps (putE es n tv) _ np0 k19 upd_same (k19.get hw ha (isW_strs ps)) (TiesR.put hp7 hnd hv7 (fun x t q => (q.dk hm7).same sp) (sp _ _ upd_same)) (by omega) (putE_len _ _ _) hx (fun e he => ?_)
        rcases putE_mem he with he | rfl
        · exact hx2 e he
        · exact hns n hn
end
end BF
set_option Elab.async false
set_option linter.all false
set_option maxRecDepth 100000
set_option maxHeartbeats 1000000
namespace BF
open PySem PySem.Spec PyProof.Rows L2
open C8 (Cal CalAt Met Mak cal0 met0 mak0 fn0 pe_c pe_mk pe_mt pe_mt0 pe_gc fnScope fnBody fnArgs fnScope_by)
open SX
section
variable {P : Program} {w : World} {K : PySem.W.Frag} {mg : Str → Option Value} {base : Heap} {A : Ad}
def spRefused (A : Ad) : Sp := fun vs H Q _ => ∃ (x : Addr) (n : Str) (ps : List Str) (ts : List (Str × Str × Str)), vs = [.ref x, .str n] ∧ WebR A H x ps ts ∧ n ∉ ts.map (·.1) ∧ ∀ H', Same H H' → Q (.bl true) H'
theorem cal_law_ends_refused (T : Txt K mg A) : Cal P w K mg base 5 "_law_ends_refused" (spRefused A) [] := by
  refine cal0 T.d_law_ends_refused T.b_law_ends_refused .nil sc_law_ends_refused (fun vs H Q E h => ?_) (fun cdv B outer s H vs Q E hr h => ?_)
  · obtain ⟨x, n, ps, ts, rfl, _⟩ := h
    rfl
  · obtain ⟨x, n, ps, ts, rfl, hW, hn, k⟩ := h
    refine ⟨_, (pss_cons (ps_try_manyA sc_law_ends_refused.nd rfl rfl takes0 (fun W pn xe tk _ => (pss_one (ps_expr (by exact (pe_mtS (met_Web_ends (K := K) T) hr (by decide) (fun σ => passAt tk σ) (pv 0) (pa_cons (pv 1) pa_nil))))))
  (HdsA.cons (i := 2) rfl rfl ⟨rfl, by decide, Or.inl T.gC_NoThing⟩ (fun a oe cls d pn hz hf => (pss_one (ps_ret (pe_cmpR op_eq (pe_xf T.xf_NoThing T.nx_NoThing_thing hz hf (pv 2)) (pv 1) (nomark _)))))
  HdsA.nil))
 (pss_one (ps_ret pe_bl))), ?_⟩
    (repeat (first | refine ⟨_, rfl, ?_⟩ | refine ⟨rfl, ?_⟩ | refine ⟨_, _, rfl, rfl, ?_⟩ | refine iteT ?_ | refine iteF ?_ | refine ⟨(by show (0 : Int) < _; omega), ?_⟩ | refine ⟨(⟨by omega, by omega⟩ : CDiv _ _), ?_⟩ | refine ⟨(⟨by decide, by decide, by decide⟩ : CPow _ _), ?_⟩ | refine ⟨(.inl ⟨by omega, by omega⟩ : CMul _ _), ?_⟩ | refine ⟨(.inr ⟨by omega, by omega⟩ : CMul _ _), ?_⟩ | refine Or.inl ⟨_, rfl, ?_⟩ | refine Or.inr ⟨_, rfl, ?_⟩ | refine ⟨_, _, _, _, true, rfl, .ty _, .base (.str _), kit_ty (by decide +kernel), ?_⟩ | refine ⟨_, _, rfl, ⟨by rw [sizeLine_eq]; omega, rfl⟩, ?_⟩ | refine ⟨_, _, rfl, .inl ⟨_, SqL.of (by assumption), rfl⟩, ?_⟩ | refine ⟨_, _, rfl, .inr ⟨_, SqT.of (by assumption), rfl⟩, ?_⟩))
    obtain ⟨dx, lp, td, kvs, h1, h2, h3, h4⟩ := hW.ex
    refine ⟨x, dx, _, rfl, h1, wfl_no lp td (by decide +kernel) (by decide +kernel), ?_⟩
    (repeat (first | refine ⟨_, rfl, ?_⟩ | refine ⟨rfl, ?_⟩ | refine ⟨_, _, rfl, rfl, ?_⟩ | refine iteT ?_ | refine iteF ?_ | refine ⟨(by show (0 : Int) < _; omega), ?_⟩ | refine ⟨(⟨by omega, by omega⟩ : CDiv _ _), ?_⟩ | refine ⟨(⟨by decide, by decide, by decide⟩ : CPow _ _), ?_⟩ | refine ⟨(.inl ⟨by omega, by omega⟩ : CMul _ _), ?_⟩ | refine ⟨(.inr ⟨by omega, by omega⟩ : CMul _ _), ?_⟩ | refine Or.inl ⟨_, rfl, ?_⟩ | refine Or.inr ⟨_, rfl, ?_⟩ | refine ⟨_, _, _, _, true, rfl, .ty _, .base (.str _), kit_ty (by decide +kernel), ?_⟩ | refine ⟨_, _, rfl, ⟨by rw [sizeLine_eq]; omega, rfl⟩, ?_⟩ | refine ⟨_, _, rfl, .inl ⟨_, SqL.of (by assumption), rfl⟩, ?_⟩ | refine ⟨_, _, rfl, .inr ⟨_, SqT.of (by assumption), rfl⟩, ?_⟩))
    refine ⟨x, n, ps, ts, rfl, hW, fun e t hm _ => absurd (List.mem_map.mpr ⟨_, hm, rfl⟩) hn, fun _ ex H' s1 hd => ⟨true, T.xm_NoThing_NoThing, fun _ e ne => ?_, fun h => by cases h⟩⟩
    (repeat (first | refine ⟨_, rfl, ?_⟩ | refine ⟨rfl, ?_⟩ | refine ⟨_, _, rfl, rfl, ?_⟩ | refine iteT ?_ | refine iteF ?_ | refine ⟨(by show (0 : Int) < _; omega), ?_⟩ | refine ⟨(⟨by omega, by omega⟩ : CDiv _ _), ?_⟩ | refine ⟨(⟨by decide, by decide, by decide⟩ : CPow _ _), ?_⟩ | refine ⟨(.inl ⟨by omega, by omega⟩ : CMul _ _), ?_⟩ | refine ⟨(.inr ⟨by omega, by omega⟩ : CMul _ _), ?_⟩ | refine Or.inl ⟨_, rfl, ?_⟩ | refine Or.inr ⟨_, rfl, ?_⟩ | refine ⟨_, _, _, _, true, rfl, .ty _, .base (.str _), kit_ty (by decide +kernel), ?_⟩ | refine ⟨_, _, rfl, ⟨by rw [sizeLine_eq]; omega, rfl⟩, ?_⟩ | refine ⟨_, _, rfl, .inl ⟨_, SqL.of (by assumption), rfl⟩, ?_⟩ | refine ⟨_, _, rfl, .inr ⟨_, SqT.of (by assumption), rfl⟩, ?_⟩))
    refine ⟨_, _, _, rfl, hd, rfl, ?_⟩
    (repeat (first | refine ⟨_, rfl, ?_⟩ | refine ⟨rfl, ?_⟩ | refine ⟨_, _, rfl, rfl, ?_⟩ | refine iteT ?_ | refine iteF ?_ | refine ⟨(by show (0 : Int) < _; omega), ?_⟩ | refine ⟨(⟨by omega, by omega⟩ : CDiv _ _), ?_⟩ | refine ⟨(⟨by decide, by decide, by decide⟩ : CPow _ _), ?_⟩ | refine ⟨(.inl ⟨by omega, by omega⟩ : CMul _ _), ?_⟩ | refine ⟨(.inr ⟨by omega, by omega⟩ : CMul _ _), ?_⟩ | refine Or.inl ⟨_, rfl, ?_⟩ | refine Or.inr ⟨_, rfl, ?_⟩ | refine ⟨_, _, _, _, true, rfl, .ty _, .base (.str _), kit_ty (by decide +kernel), ?_⟩ | refine ⟨_, _, rfl, ⟨by rw [sizeLine_eq]; omega, rfl⟩, ?_⟩ | refine ⟨_, _, rfl, .inl ⟨_, SqL.of (by assumption), rfl⟩, ?_⟩ | refine ⟨_, _, rfl, .inr ⟨_, SqT.of (by assumption), rfl⟩, ?_⟩))
    rw [decide_eq_true rfl]
    exact k H' s1
end
end BF
set_option Elab.async false
set_option linter.all false
set_option maxRecDepth 100000
set_option maxHeartbeats 1000000
namespace BF
open PySem PySem.Spec PyProof.Rows L2
open C8 (Cal CalAt Met Mak cal0 met0 mak0 fn0 pe_c pe_mk pe_mt pe_mt0 pe_gc fnScope fnBody fnArgs fnScope_by)
open SX
section
variable {P : Program} {w : World} {K : PySem.W.Frag} {mg : Str → Option Value} {base : Heap} {A : Ad}
theorem mk_web {H : Hp} {a d : Addr} {ps : List Str} {rs : List Tr} {kvs : List (Key × V)} {R : Addr → Hp → Prop} (ha : H a = some (.lst (ps.map V.str))) (hd : H d = some (.dK kvs)) (hp : Paired (Tup2 H) kvs rs) (nd : (rs.map (·.1)).Nodup)
    (h1 : 1 ≤ ps.length) (h16 : ps.length ≤ 16) (hn : ∀ p ∈ ps, isNm p = true) (ndp : ps.Nodup) (hk : ∀ r ∈ rs, isNm r.1 = true ∧ r.2.1 ∈ ps ∧ r.2.2 ∈ ps) (hl : rs.length ≤ 24)
    (k : ∀ x H', H x = none → Same H H' → WebR A H' x (sortS ps) (webTies (rs.map rawE)) → (∀ dx lp td, H' x = some (.ins A.C_Web dx (wfl lp td)) → H lp = none ∧ H td = none) → R x H') :
    ∀ x dx, H x = none → H dx = none → dx ≠ x → spWI K A (V.ref x :: ([V.ref a, V.ref d] ++ [])) (upd (upd H dx (.own x)) x (.ins A.C_Web dx [])) (fun v H2 => v = .non ∧ R x H2) (fun _ _ _ => False) := by
  intro x dx nx ndx ne
  have s1 : Same H (upd (upd H dx (.own x)) x (.ins A.C_Web dx [])) := fun b o e => by
    rw [upd_ne (ne_of_none e nx), upd_ne (ne_of_none e ndx)]
    exact e
  have hdu := due_ok h1 h16 hn ndp hk nd hl
  have len : ∀ {y : Str}, isNm y = true → y.length ≤ 1000 := fun {y} h => by
    unfold isNm at h
    simp only [Bool.and_eq_true, decide_eq_true_eq] at h
    omega
  refine ⟨x, dx, a, d, ps, rs.map rawE, rfl, upd_same, s1 _ _ ha, (ties_raw hd hp nd).same s1, by omega, by rw [List.length_map]; omega, fun y hy => len (hn y hy), fun e he => ?_, fun du hd => ?_, fun _ H' f hW hF => ⟨rfl, ?_⟩⟩
  · obtain ⟨r, hr, rfl⟩ := List.mem_map.mp he
    exact len (hk r hr).1
  · rw [hdu] at hd
    cases hd
  · refine k x H' nx (fun b o e => f b o (ne_of_none e nx) (s1 _ _ e)) hW (fun dx2 lp td h2 => ?_)
    obtain ⟨q1, q2⟩ := hF dx2 lp td h2
    exact ⟨s1.free q1, s1.free q2⟩
theorem web_tail {wl a d kp hl x du y : Addr} {G : Hp} {ps : List Str} {rs : List Tr} {kvs0 : List (Key × V)} {dx : Addr} {fs : List (Str × V)} {D : Ends} (hw : WellAt G wl) (hkp : G kp = some (.lst (ps.map V.str))) (hhl : G hl = some (.dK kvs0)) (hp : Paired (Tup2 G) kvs0 rs) (nd : (rs.map (·.1)).Nodup)
    (hX : WebR A G x (sortS ps) (webTies (rs.map rawE))) (hxi : G x = some (.ins A.C_Web dx fs)) (hl1 : 1 ≤ ps.length) (hl15 : ps.length < 16) (hnm : ∀ p ∈ ps, isNm p = true) (hsh : ∀ p ∈ ps, Short p) (hndp : ps.Nodup) (hok : ∀ r ∈ rs, isNm r.1 = true ∧ r.2.1 ∈ ps ∧ r.2.2 ∈ ps) (hrl : rs.length ≤ 24) (hne : rs ≠ [])
    (k : ∀ H', Kp wl G H' → D.rt (.bl true) H') :
    tSeq
                      (tAsg
                        (tCall spPick [] C8.E0
                          (tCons (tVar 0)
                            (tCons
                              (tCB
                                (fun xs H Q =>
                                  ∃ a kvs ks,
                                    xs = [V.ref a] ∧
                                      Rd H a (HO.dK kvs) ∧
                                        List.map (fun x => x.fst) kvs = List.map Sum.inr ks ∧
                                          ks.length < 64 ∧
                                            ∀ (ys : List Str) (p : Addr),
                                              ys.Perm ks →
                                                sortedS ys = true →
                                                  H p = none → Q (V.ref p) (upd H p (HO.lst (List.map V.str ys))))
                                (tCons (tVar 4) tNil))
                              tNil)))
                        (gName 8))
                      (tSeq
                        (tAsg
                          (tCB
                            (fun xs H Q =>
                              ∃ a ps kvs,
                                xs = [V.ref a] ∧
                                  SqL K H a (List.map V.ref ps) ∧
                                    Paired (fun p kv => SqT K H p [kV kv.fst, kv.snd]) ps kvs ∧
                                      ∀ (p : Addr), H p = none → Q (V.ref p) (upd H p (HO.dK (mergeK [] kvs))))
                            (tCons
                              (tLockE
                                (tLc (iKeys (tVar 4)) (gName 12) (tTest (tOp rNe (tVar 12) (tVar 8)))
                                  (tTup (tCons (tVar 12) (tCons (tDGet (tVar 4) (tVar 12)) tNil)))
                                  (List.map (fun x => x.snd) [(Str.ofString "one", 12)])))
                              tNil))
                          (gName 9))
                        (tSeq
                          (tAsg
                            (tCB
                              (fun xs H Q =>
                                ∃ a kvs,
                                  xs = [V.ref a] ∧
                                    Rd H a (HO.dK kvs) ∧ ∀ (p : Addr), H p = none → Q (V.ref p) (upd H p (HO.dK kvs)))
                              (tCons (tVar 9) tNil))
                            (gName 10))
                          (tSeq
                            (sDPut (tVar 10) (tVar 8)
                              (tTup
                                (tCons (tC (V.str (Str.ofString "zzzzzzzz")))
                                  (tCons (tC (V.str (Str.ofString "zzzzzzzz"))) tNil))))
                            (tSeq
                              (tAsg
                                (tLst
                                  (tCons
                                    (tMake A.C_Web
                                      (spWI
                                        K
                                        A)
                                      [] (fun x x_2 x_3 => False) (tCons (tVar 3) (tCons (tVar 9) tNil)))
                                    (tCons
                                      (tMake A.C_Web
                                        (spWI
                                          K
                                          A)
                                        [] (fun x x_2 x_3 => False)
                                        (tCons
                                          (tOp rCat (tVar 3) (tLst (tCons (tC (V.str (Str.ofString "zzzzzzzz"))) tNil)))
                                          (tCons (tVar 4) tNil)))
                                      (tCons
                                        (tMake A.C_Web
                                          (spWI
                                            K
                                            A)
                                          [] (fun x x_2 x_3 => False)
                                          (tCons
                                            (tOp rCat (tVar 3)
                                              (tLst (tCons (tC (V.str (Str.ofString "zzzzzzzz"))) tNil)))
                                            (tCons (tVar 10) tNil)))
                                        tNil))))
                                (gName 11))
                              (tRet
                                (tAndV
                                  (tNotV
                                    (tCB (rAny K)
                                      (tCons
                                        (tLc
                                          (iList
                                            K
                                            (tVar 11))
                                          (gName 12) tYes (tOp (rEqO A.C_Web (spWQ A) id) (tVar 5) (tVar 12))
                                          (List.map (fun x => x.snd) [(Str.ofString "one", 12)]))
                                        tNil)))
                                  (tCB (rAll K)
                                    (tCons
                                      (tLc
                                        (iList
                                          K
                                          (tVar 11))
                                        (gName 12) tYes (tOp (rEqO A.C_Web (spWQ A) not) (tVar 5) (tVar 12))
                                        (List.map (fun x => x.snd) [(Str.ofString "one", 12)]))
                                      tNil))))))))
      D [some (.ref wl), some (.ref a), some (.ref d), some (.ref kp), some (.ref hl), some (.ref x), some (.ref du), some (.ref y), none, none, none, none, none] G := by
  have hk0 : kvs0.length = rs.length := hp.length
  refine seq_asg ?_
  refine ⟨_, rfl, _, rfl, hl, kvs0, rs.map (·.1), rfl, .inl hhl, keys2 hp, (by rw [List.length_map]; omega), fun ys lk pm so nlk => ?_⟩
  rw [sortS_eq pm so]
  have s0 := Same.new (o := .lst ((sortS (rs.map (·.1))).map V.str)) nlk
  have hsn : (sortS (rs.map (·.1))).map V.str ≠ [] := fun e => hne (by
    have := congrArg List.length e
    rw [List.length_map, sortS_length, List.length_map] at this
    exact List.length_eq_zero_iff.mp this)
  refine ⟨wl, _, rfl, hw.same s0, .inl ⟨lk, _, rfl, upd_same, isW_strs _, hsn, (by rw [List.length_map, sortS_length, List.length_map]; omega), fun v H1 hv k1 => ?_⟩⟩
  obtain ⟨nm, hnmm, rfl⟩ := List.mem_map.mp hv
  rw [mem_sortS] at hnmm
  have k01 := (Kp.same (w := wl) s0).trans k1
  have hhl1 := k01.get hw hhl
  have hp1 : Paired (Tup2 H1) kvs0 rs := tup2_mono (fun t xs q => k01.get hw q) hp
  have hkp1 := k01.get hw hkp (isW_strs ps)
  have hX1 := hX.kp k01 hw
  have hxi1 := k01.get hw hxi
  refine g_name ?_
  try dsimp only
  refine seq_asg ?_
  have scal2 : ∀ a b : Str, scal (V.str a) (V.str b) = true := fun _ _ => rfl
  refine ⟨hl, _, hhl1, trivial, fun od => ?_⟩
  refine ⟨_, rfl, hl, od, rfl, .inl ⟨kvs0, upd_same, fun D1 nD1 => ?_⟩⟩
  have hpL : Paired (Tup2 (upd H1 hl (.frz od (.dK kvs0)))) kvs0 rs := tup2_mono (fun t xs q => by rw [upd_ne (fun e => by rw [e, hhl1] at q; cases q)]; exact q) hp1
  refine lc_it walk_keys (fun i H' => ∃ qs : List Addr, Same (upd H1 hl (.frz od (.dK kvs0))) H' ∧ H' D1 = some (.lst (qs.map V.ref)) ∧ Paired (PT H') qs ((rs.take i).filter fun r => !decide (r.1 = nm)))
    ⟨[], Same.new nD1, upd_same, .nil⟩ (fun _ H' _ ⟨_, q, _, _⟩ => q _ _ upd_same) ?_ ?_
  · rintro i v H2 H3 hi ⟨qs, sL, hD, hP⟩ ⟨rfl, kk, u, hku, rfl⟩
    obtain ⟨r, hr, e1, _⟩ := at2 hpL hku
    have e1 : kk = Sum.inr r.1 := e1
    subst e1
    have hrm : r ∈ rs := List.mem_of_getElem? hr
    obtain ⟨t, hg, ht⟩ := get2' hpL nd hrm
    have hdL := sL _ _ (upd_same (H := H1) (a := hl) (o := .frz od (.dK kvs0)))
    have ht2 := sL _ _ ht
    have qlen : qs.length ≤ i := by
      rw [hP.length]
      refine Nat.le_trans (List.length_filter_le _ _) ?_
      rw [List.length_take]
      omega
    refine ⟨rfl, _, rfl, _, rfl, rfl, _, rfl, ?_⟩
    by_cases en : r.1 = nm
    · rw [show decide (kV (Sum.inr r.1) = V.str nm) = true from decide_eq_true (by rw [en]; rfl)]
      refine iteF ⟨qs, sL, hD, ?_⟩
      rw [take_filter hr, show (!decide (r.1 = nm)) = false from by simp [en], if_neg (by decide), List.append_nil]
      exact hP
    · rw [show decide (kV (Sum.inr r.1) = V.str nm) = false from decide_eq_false (fun e => en (V.str.inj e))]
      refine iteT ⟨_, rfl, _, rfl, _, rfl, hl, .ref t, rfl, dget_s (.inr ⟨od, hdL⟩) hg, (by show 2 ≤ sizeLine; rw [sizeLine_eq]; omega), fun q nq => ?_⟩
      have q3 := Same.new (o := .tup [V.str r.1, V.ref t]) nq
      refine ⟨_, q3 _ _ hD, small1000 (by rw [List.length_map]; omega), qs ++ [q], Same.put (sL.trans q3) nD1, by rw [upd_same, List.map_append]; rfl, ?_⟩
      have up : ∀ t' xs, upd H3 q (.tup [V.str r.1, V.ref t]) t' = some (.tup xs) → upd (upd H3 q (.tup [V.str r.1, V.ref t])) D1 (.lst (qs.map V.ref ++ [V.ref q])) t' = some (.tup xs) := fun t' xs h => by
        rw [upd_ne (fun e => by rw [e, q3 _ _ hD] at h; cases h)]
        exact h
      rw [take_filter hr, show (!decide (r.1 = nm)) = true from by simp [en], if_pos rfl]
      exact Paired.snoc ⟨t, up _ _ upd_same, up _ _ (q3 _ _ ht2)⟩ (Paired.imp (fun _ _ ⟨t, h1, h2⟩ => ⟨t, up _ _ (q3 _ _ h1), up _ _ (q3 _ _ h2)⟩) hP)
  rintro H2 ⟨qs, sL, hD, hP⟩
  rw [hk0, List.take_of_length_le (Nat.le_refl _)] at hP
  have dD : hl ≠ D1 := fun e => by rw [← e, upd_same] at nD1; cases nD1
  have s5 := lock_same hhl1 sL
  refine ⟨sL _ _ upd_same, ?_⟩
  have upT : ∀ t xs, H2 t = some (.tup xs) → upd H2 hl (.dK kvs0) t = some (.tup xs) := fun t xs h => by
    rw [upd_ne (fun e => by rw [e, sL _ _ upd_same] at h; cases h)]
    exact h
  have hP5 : Paired (PT (upd H2 hl (.dK kvs0))) qs (rs.filter fun r => !decide (r.1 = nm)) := Paired.imp (fun _ _ ⟨t, h1, h2⟩ => ⟨t, upT _ _ h1, upT _ _ h2⟩) hP
  have ndf : ((rs.filter fun r => !decide (r.1 = nm)).map (·.1)).Nodup := (List.Sublist.map _ List.filter_sublist).nodup nd
  have hfl : (rs.filter fun r => !decide (r.1 = nm)).length < rs.length := by
    rw [List.length_filter_lt_length_iff_exists]
    obtain ⟨r, hr, e⟩ := List.mem_map.mp hnmm
    exact ⟨r, hr, by simp [e]⟩
  have hfm : ∀ r, r ∈ (rs.filter fun r => !decide (r.1 = nm)) → r ∈ rs ∧ r.1 ≠ nm := fun r h => by
    obtain ⟨h1, h2⟩ := List.mem_filter.mp h
    exact ⟨h1, by simpa using h2⟩
  generalize hfr : (rs.filter fun r => !decide (r.1 = nm)) = fr at *
  obtain ⟨kvf, pk1, pk2⟩ := pt_kvs (K := K) hP5
  refine ⟨D1, qs, kvf, rfl, SqL.of (by rw [upd_ne dD.symm]; exact hD), pk1, fun f nf => ?_⟩
  rw [mergeK_nd pk2 ndf]
  have s6 := s5.trans (Same.new (o := .dK kvf) nf)
  have pkf := tup2_mono (fun t xs q => (Same.new (o := .dK kvf) nf) _ _ q) pk2
  have ef := upd_same (H := upd H2 hl (.dK kvs0)) (a := f) (o := .dK kvf)
  generalize hG6 : upd (upd H2 hl (.dK kvs0)) f (.dK kvf) = G6 at *
  refine g_name ?_
  try dsimp only
  refine seq_asg ?_
  refine ⟨_, rfl, f, kvf, rfl, .inl ef, fun m nm' => ?_⟩
  have s7 := Same.new (o := .dK kvf) nm'
  refine g_name ?_
  try dsimp only
  refine seq_put ?_
  refine ⟨(by show 2 ≤ sizeLine; rw [sizeLine_eq]; omega), fun t nt => ?_⟩
  have s8 := Same.new (o := .tup [V.str "zzzzzzzz", V.str "zzzzzzzz"]) nt
  have tm : t ≠ m := fun e => by rw [e, upd_same] at nt; cases nt
  have hkf : kvf.length = fr.length := pkf.length
  have hvn : valV kvf (.inr nm) = none := valV_none (by
    rw [keys2 pkf]
    intro h
    obtain ⟨n, h1, h2⟩ := List.mem_map.mp h
    cases h2
    obtain ⟨r, h3, h4⟩ := List.mem_map.mp h1
    exact (hfm r h3).2 h4)
  refine ⟨_, rfl, _, rfl, m, _, rfl, DPut.k (k := .inr nm) (s8 _ _ upd_same) (small1000 (by omega)), ?_⟩
  rw [putK_new _ hvn]
  have hme : m ≠ f := fun e => by rw [e, ef] at nm'; cases nm'
  have s69 : Same G6 (upd (upd (upd G6 m (.dK kvf)) t (.tup [V.str "zzzzzzzz", V.str "zzzzzzzz"])) m (.dK (kvf ++ [(.inr nm, .ref t)]))) := Same.put (s7.trans s8) nm'
  have em := upd_same (H := upd (upd G6 m (.dK kvf)) t (.tup [V.str "zzzzzzzz", V.str "zzzzzzzz"])) (a := m) (o := .dK (kvf ++ [(.inr nm, .ref t)]))
  have et : upd (upd (upd G6 m (.dK kvf)) t (.tup [V.str "zzzzzzzz", V.str "zzzzzzzz"])) m (.dK (kvf ++ [(.inr nm, .ref t)])) t = some (.tup [V.str "zzzzzzzz", V.str "zzzzzzzz"]) := by
    rw [upd_ne tm, upd_same]
  generalize hG9 : upd (upd (upd G6 m (.dK kvf)) t (.tup [V.str "zzzzzzzz", V.str "zzzzzzzz"])) m (.dK (kvf ++ [(.inr nm, .ref t)])) = G9 at *
  have s19 := s6.trans s69
  have pkm : Paired (Tup2 G9) (kvf ++ [(.inr nm, .ref t)]) (fr ++ [((nm, "zzzzzzzz", "zzzzzzzz") : Tr)]) := Paired.snoc ⟨rfl, t, rfl, et⟩ (tup2_mono (fun t xs q => s69 _ _ q) pkf)
  have pkf9 := tup2_mono (fun t xs q => s69 _ _ q) pkf
  have hkp9 := s19 _ _ hkp1
  have hhl9 := s19 _ _ hhl1
  have hp9 : Paired (Tup2 G9) kvs0 rs := tup2_mono (fun t xs q => s19 _ _ q) hp1
  have ef9 := s69 _ _ ef
  have hX9 := hX1.same s19
  have hxi9 := s19 _ _ hxi1
  try dsimp only
  refine seq_asg ?_
  refine ⟨_, rfl, _, rfl, mk_web hkp9 ef9 pkf9 ndf hl1 (by omega) hnm hndp (fun r hr => hok r (hfm r hr).1) (by omega) fun x1 H10 nx1 s10 hW1 _ => ?_⟩
  have hzn : isNm "zzzzzzzz" = true := by decide +kernel
  have hzp : ("zzzzzzzz" : Str) ∉ ps := fun h => by
    have h1 := (hsh _ h).2.1
    exact absurd h1 (by decide +kernel)
  have hmap : (ps ++ [("zzzzzzzz" : Str)]).map V.str = ps.map V.str ++ [V.str "zzzzzzzz"] := by
    rw [List.map_append]
    rfl
  have p1 : 1 ≤ (ps ++ [("zzzzzzzz" : Str)]).length := by simp
  have p2 : (ps ++ [("zzzzzzzz" : Str)]).length ≤ 16 := by
    rw [List.length_append]
    show ps.length + 1 ≤ 16
    omega
  have p3 : ∀ p ∈ ps ++ [("zzzzzzzz" : Str)], isNm p = true := fun p hp => by
    rcases List.mem_append.mp hp with hp | hp
    · exact hnm p hp
    · rw [List.mem_singleton.mp hp]
      exact hzn
  have p4 : (ps ++ [("zzzzzzzz" : Str)]).Nodup := by
    rw [List.nodup_append]
    refine ⟨hndp, by simp, fun a ha b hb e => ?_⟩
    rw [List.mem_singleton.mp hb] at e
    exact hzp (e ▸ ha)
  have hne2 : sortS ps ≠ sortS (ps ++ [("zzzzzzzz" : Str)]) := fun e => by
    have := congrArg List.length e
    rw [sortS_length, sortS_length, List.length_append] at this
    simp at this
  have ndm : ((fr ++ [((nm, "zzzzzzzz", "zzzzzzzz") : Tr)]).map (·.1)).Nodup := by
    rw [List.map_append, List.nodup_append]
    refine ⟨ndf, by simp, fun a ha b hb e => ?_⟩
    have hb : b = nm := by simpa using hb
    obtain ⟨r, hr, q⟩ := List.mem_map.mp ha
    exact (hfm r hr).2 (q.trans (e.trans hb))
  have hnmn : isNm nm = true := by
    obtain ⟨r, hr, e⟩ := List.mem_map.mp hnmm
    rw [← e]
    exact (hok r hr).1
  have sz1 : 1 ≤ sizeLine := by rw [sizeLine_eq]; omega
  (repeat (first | refine ⟨_, rfl, ?_⟩ | refine ⟨rfl, ?_⟩ | refine ⟨_, _, rfl, rfl, ?_⟩ | refine iteT ?_ | refine iteF ?_ | refine ⟨(by show (0 : Int) < _; omega), ?_⟩ | refine ⟨(⟨by omega, by omega⟩ : CDiv _ _), ?_⟩ | refine ⟨(⟨by decide, by decide, by decide⟩ : CPow _ _), ?_⟩ | refine ⟨(.inl ⟨by omega, by omega⟩ : CMul _ _), ?_⟩ | refine ⟨(.inr ⟨by omega, by omega⟩ : CMul _ _), ?_⟩ | refine Or.inl ⟨_, rfl, ?_⟩ | refine Or.inr ⟨_, rfl, ?_⟩ | refine ⟨_, _, _, _, true, rfl, .ty _, .base (.str _), kit_ty (by decide +kernel), ?_⟩ | refine ⟨_, _, rfl, ⟨by rw [sizeLine_eq]; omega, rfl⟩, ?_⟩ | refine ⟨_, _, rfl, .inl ⟨_, SqL.of (by assumption), rfl⟩, ?_⟩ | refine ⟨_, _, rfl, .inr ⟨_, SqT.of (by assumption), rfl⟩, ?_⟩))
  refine ⟨sz1, fun l nl => ⟨kp, l, _, _, rfl, rfl, (Same.new nl) _ _ (s10 _ _ hkp9), upd_same, (by rw [List.length_map, sizeLine_eq]; show ps.length + 1 ≤ _; omega), fun c nc => ?_⟩⟩
  have s11 := (Same.new (o := .lst [V.str "zzzzzzzz"]) nl).trans (Same.new (o := .lst (ps.map V.str ++ [V.str "zzzzzzzz"])) nc)
  have ec := upd_same (H := upd H10 l (.lst [V.str "zzzzzzzz"])) (a := c) (o := .lst (ps.map V.str ++ [V.str "zzzzzzzz"]))
  rw [← hmap] at ec s11 ⊢
  generalize hG11 : upd (upd H10 l (.lst [V.str "zzzzzzzz"])) c (.lst ((ps ++ [("zzzzzzzz" : Str)]).map V.str)) = G11 at *
  have s911 := s10.trans s11
  refine ⟨_, rfl, mk_web ec (s911 _ _ hhl9) (tup2_mono (fun t xs q => s911 _ _ q) hp9) nd p1 p2 p3 p4 (fun r hr => ?_) hrl fun x2 H12 nx2 s12 hW2 _ => ?_⟩
  · obtain ⟨q1, q2, q3⟩ := hok r hr
    exact ⟨q1, List.mem_append_left _ q2, List.mem_append_left _ q3⟩
  have s912 := s911.trans s12
  (repeat (first | refine ⟨_, rfl, ?_⟩ | refine ⟨rfl, ?_⟩ | refine ⟨_, _, rfl, rfl, ?_⟩ | refine iteT ?_ | refine iteF ?_ | refine ⟨(by show (0 : Int) < _; omega), ?_⟩ | refine ⟨(⟨by omega, by omega⟩ : CDiv _ _), ?_⟩ | refine ⟨(⟨by decide, by decide, by decide⟩ : CPow _ _), ?_⟩ | refine ⟨(.inl ⟨by omega, by omega⟩ : CMul _ _), ?_⟩ | refine ⟨(.inr ⟨by omega, by omega⟩ : CMul _ _), ?_⟩ | refine Or.inl ⟨_, rfl, ?_⟩ | refine Or.inr ⟨_, rfl, ?_⟩ | refine ⟨_, _, _, _, true, rfl, .ty _, .base (.str _), kit_ty (by decide +kernel), ?_⟩ | refine ⟨_, _, rfl, ⟨by rw [sizeLine_eq]; omega, rfl⟩, ?_⟩ | refine ⟨_, _, rfl, .inl ⟨_, SqL.of (by assumption), rfl⟩, ?_⟩ | refine ⟨_, _, rfl, .inr ⟨_, SqT.of (by assumption), rfl⟩, ?_⟩))
  refine ⟨sz1, fun l2 nl2 => ⟨kp, l2, _, _, rfl, rfl, (Same.new nl2) _ _ (s912 _ _ hkp9), upd_same, (by rw [List.length_map, sizeLine_eq]; show ps.length + 1 ≤ _; omega), fun c2 nc2 => ?_⟩⟩
  have s13 := (Same.new (o := .lst [V.str "zzzzzzzz"]) nl2).trans (Same.new (o := .lst (ps.map V.str ++ [V.str "zzzzzzzz"])) nc2)
  have ec2 := upd_same (H := upd H12 l2 (.lst [V.str "zzzzzzzz"])) (a := c2) (o := .lst (ps.map V.str ++ [V.str "zzzzzzzz"]))
  rw [← hmap] at ec2 s13 ⊢
  generalize hG13 : upd (upd H12 l2 (.lst [V.str "zzzzzzzz"])) c2 (.lst ((ps ++ [("zzzzzzzz" : Str)]).map V.str)) = G13 at *
  have s913 := s912.trans s13
  refine ⟨_, rfl, mk_web ec2 (s913 _ _ em) (tup2_mono (fun t xs q => s913 _ _ q) pkm) ndm p1 p2 p3 p4 (fun r hr => ?_) (by rw [List.length_append]; show fr.length + 1 ≤ 24; omega) fun x3 H14 nx3 s14 hW3 _ => ?_⟩
  · rcases List.mem_append.mp hr with hr | hr
    · obtain ⟨q1, q2, q3⟩ := hok r (hfm r hr).1
      exact ⟨q1, List.mem_append_left _ q2, List.mem_append_left _ q3⟩
    · rw [List.mem_singleton.mp hr]
      exact ⟨hnmn, List.mem_append_right _ (List.mem_singleton.mpr rfl), List.mem_append_right _ (List.mem_singleton.mpr rfl)⟩
  refine ⟨(by show 3 ≤ sizeLine; rw [sizeLine_eq]; omega), fun ul nul => ?_⟩
  have s15 := Same.new (o := .lst [V.ref x1, V.ref x2, V.ref x3]) nul
  have eul := upd_same (H := H14) (a := ul) (o := .lst [V.ref x1, V.ref x2, V.ref x3])
  have s915 := (s913.trans s14).trans s15
  have hu : ∀ v ∈ [V.ref x1, V.ref x2, V.ref x3], ∃ z dz fz qs us, v = V.ref z ∧ upd H14 ul (.lst [V.ref x1, V.ref x2, V.ref x3]) z = some (.ins A.C_Web dz fz) ∧ WebR A (upd H14 ul (.lst [V.ref x1, V.ref x2, V.ref x3])) z qs us ∧ (sortS ps ≠ qs ∨ (webTies (rs.map rawE)).length ≠ us.length) := by
    intro v hv
    have inst : ∀ {z qs us}, WebR A (upd H14 ul (.lst [V.ref x1, V.ref x2, V.ref x3])) z qs us → ∃ dz fz, upd H14 ul (.lst [V.ref x1, V.ref x2, V.ref x3]) z = some (.ins A.C_Web dz fz) := fun h => by
      obtain ⟨dz, _, _, _, h1, _⟩ := h.ex
      exact ⟨dz, _, h1⟩
    simp only [List.mem_cons, List.not_mem_nil, or_false] at hv
    rcases hv with rfl | rfl | rfl
    · have h := hW1.same (((s11.trans s12).trans (s13.trans s14)).trans s15)
      obtain ⟨dz, fz, hi⟩ := inst h
      exact ⟨x1, dz, fz, _, _, rfl, hi, h, .inr (by rw [webTies_len, webTies_len]; omega)⟩
    · have h := hW2.same ((s13.trans s14).trans s15)
      obtain ⟨dz, fz, hi⟩ := inst h
      exact ⟨x2, dz, fz, _, _, rfl, hi, h, .inl hne2⟩
    · have h := hW3.same s15
      obtain ⟨dz, fz, hi⟩ := inst h
      exact ⟨x3, dz, fz, _, _, rfl, hi, h, .inl hne2⟩
  have hX15 := hX9.same s915
  have hxi15 := s915 _ _ hxi9
  have k15 : Kp wl G (upd H14 ul (.lst [V.ref x1, V.ref x2, V.ref x3])) := k01.trans (Kp.same (s19.trans s915))
  generalize hG15 : upd H14 ul (.lst [V.ref x1, V.ref x2, V.ref x3]) = G15 at *
  refine g_name ?_
  try dsimp only
  have elem : ∀ (v : V), v ∈ [V.ref x1, V.ref x2, V.ref x3] → ∀ (g : Bool → Bool) (H2 : Hp), Same G15 H2 → ∀ R : VK, R (.bl (g false)) H2 → rEqO A.C_Web (spWQ A) g (V.ref x) v H2 R := by
    intro v hv g H2 s2 R hR
    obtain ⟨z, dz, fz, qs, us, rfl, hi, hZ, hd⟩ := hu v hv
    refine ⟨x, z, dx, dz, _, _, rfl, rfl, s2 _ _ hxi15, s2 _ _ hi, x, z, _, _, _, _, rfl, hX15.same s2, hZ.same s2, fun b h1 h2 _ => ⟨b, rfl, ?_⟩⟩
    have hb : b = false := by
      rcases hd with hd | hd
      · exact h1 hd
      · exact h2 hd
    subst hb
    exact hR
  refine ⟨_, rfl, ul, rfl, ⟨_, SqL.of eul⟩, fun D3 nD3 => ?_⟩
  refine lc_it walk_list (fun i H' => Same G15 H' ∧ H' D3 = some (.lst ((List.replicate i false).map V.bl)))
    ⟨Same.new nD3, upd_same⟩ (fun _ H' _ ⟨q, _⟩ => SqL.of (q _ _ eul)) ?_ ?_
  · rintro i v H2 H3 hi ⟨sL, hD⟩ ⟨rfl, hv⟩
    refine ⟨rfl, ?_⟩
    (repeat (first | refine ⟨_, rfl, ?_⟩ | refine ⟨rfl, ?_⟩ | refine ⟨_, _, rfl, rfl, ?_⟩ | refine iteT ?_ | refine iteF ?_ | refine ⟨(by show (0 : Int) < _; omega), ?_⟩ | refine ⟨(⟨by omega, by omega⟩ : CDiv _ _), ?_⟩ | refine ⟨(⟨by decide, by decide, by decide⟩ : CPow _ _), ?_⟩ | refine ⟨(.inl ⟨by omega, by omega⟩ : CMul _ _), ?_⟩ | refine ⟨(.inr ⟨by omega, by omega⟩ : CMul _ _), ?_⟩ | refine Or.inl ⟨_, rfl, ?_⟩ | refine Or.inr ⟨_, rfl, ?_⟩ | refine ⟨_, _, _, _, true, rfl, .ty _, .base (.str _), kit_ty (by decide +kernel), ?_⟩ | refine ⟨_, _, rfl, ⟨by rw [sizeLine_eq]; omega, rfl⟩, ?_⟩ | refine ⟨_, _, rfl, .inl ⟨_, SqL.of (by assumption), rfl⟩, ?_⟩ | refine ⟨_, _, rfl, .inr ⟨_, SqT.of (by assumption), rfl⟩, ?_⟩))
    refine elem v (List.mem_of_getElem? hv) id _ sL _ ?_
    have hi3 : i < 3 := hi
    refine ⟨_, hD, small1000 (by rw [List.length_map, List.length_replicate]; omega), Same.put sL nD3, ?_⟩
    rw [upd_same]
    exact congrArg _ (congrArg _ (replicate_snocF i).symm)
  rintro H16 ⟨s16, hD3⟩
  refine ⟨D3, _, rfl, SqL.of hD3, ?_⟩
  rw [any_replicate]
  refine ⟨_, rfl, _, rfl, iteT ?_⟩
  refine ⟨_, rfl, ul, rfl, ⟨_, SqL.of (s16 _ _ eul)⟩, fun D4 nD4 => ?_⟩
  refine lc_it walk_list (fun i H' => Same G15 H' ∧ H' D4 = some (.lst ((List.replicate i true).map V.bl)))
    ⟨s16.trans (Same.new nD4), upd_same⟩ (fun _ H' _ ⟨q, _⟩ => SqL.of (q _ _ eul)) ?_ ?_
  · rintro i v H2 H3 hi ⟨sL, hD⟩ ⟨rfl, hv⟩
    refine ⟨rfl, ?_⟩
    (repeat (first | refine ⟨_, rfl, ?_⟩ | refine ⟨rfl, ?_⟩ | refine ⟨_, _, rfl, rfl, ?_⟩ | refine iteT ?_ | refine iteF ?_ | refine ⟨(by show (0 : Int) < _; omega), ?_⟩ | refine ⟨(⟨by omega, by omega⟩ : CDiv _ _), ?_⟩ | refine ⟨(⟨by decide, by decide, by decide⟩ : CPow _ _), ?_⟩ | refine ⟨(.inl ⟨by omega, by omega⟩ : CMul _ _), ?_⟩ | refine ⟨(.inr ⟨by omega, by omega⟩ : CMul _ _), ?_⟩ | refine Or.inl ⟨_, rfl, ?_⟩ | refine Or.inr ⟨_, rfl, ?_⟩ | refine ⟨_, _, _, _, true, rfl, .ty _, .base (.str _), kit_ty (by decide +kernel), ?_⟩ | refine ⟨_, _, rfl, ⟨by rw [sizeLine_eq]; omega, rfl⟩, ?_⟩ | refine ⟨_, _, rfl, .inl ⟨_, SqL.of (by assumption), rfl⟩, ?_⟩ | refine ⟨_, _, rfl, .inr ⟨_, SqT.of (by assumption), rfl⟩, ?_⟩))
    refine elem v (List.mem_of_getElem? hv) not _ sL _ ?_
    have hi3 : i < 3 := hi
    refine ⟨_, hD, small1000 (by rw [List.length_map, List.length_replicate]; omega), Same.put sL (s16.free nD4), ?_⟩
    rw [upd_same]
    exact congrArg _ (congrArg _ (replicate_snoc i).symm)
  rintro H17 ⟨s17, hD4⟩
  refine ⟨D4, _, rfl, SqL.of hD4, ?_⟩
  rw [all_replicate]
  exact k H17 (k15.trans (Kp.same s17))
end
end BF
set_option Elab.async false
set_option linter.all false
set_option maxRecDepth 100000
set_option maxHeartbeats 1000000
namespace BF
open PySem PySem.Spec PyProof.Rows L2
open C8 (Cal CalAt Met Mak cal0 met0 mak0 fn0 pe_c pe_mk pe_mt pe_mt0 pe_gc fnScope fnBody fnArgs fnScope_by)
open SX
section
variable {P : Program} {w : World} {K : PySem.W.Frag} {mg : Str → Option Value} {base : Heap} {A : Ad}
def FrW (wl a d : Addr) (H H' : Hp) : Prop := ∀ b o, b ≠ wl → b ≠ a → b ≠ d → H b = some o → H' b = some o
def spWebRight (K : PySem.W.Frag) : Sp := fun vs H Q _ => ∃ (wl a d : Addr) (ps : List Str) (es : List (Str × TV)), vs = [.ref wl, .ref a, .ref d] ∧ WellAt H wl ∧ H a = some (.lst (ps.map V.str)) ∧ TiesR K H d es ∧ dueOf ps es = none ∧
  (∀ x ∈ ps, Short x) ∧ (∀ e ∈ es, GoodE ps e) ∧ ∀ H', FrW wl a d H H' → Q (.bl true) H'
theorem cal_law_web_right (T : Txt K mg A) : Cal P w K mg base 6 "_law_web_right" (spWebRight K) [] := by
  refine cal0 T.d_law_web_right T.b_law_web_right .nil sc_law_web_right (fun vs H Q E h => ?_) (fun cdv B outer s H vs Q E hr h => ?_)
  · obtain ⟨wl, a, d, ps, es, rfl, _⟩ := h
    rfl
  · obtain ⟨wl, a, d, ps, es, rfl, hw, ha, hT, hdue, hsh, hge, k⟩ := h
    refine ⟨_, (pss_cons (ps_asg (pe_tup (pa_cons (pe_callTy (listK K) (by rfl) T.z_list (by decide +kernel) (pa_cons (pv 1) pa_nil)) (pa_cons (pe_callTy call_dictD (by rfl) T.z_dict (by decide +kernel) (pa_cons (pv 2) pa_nil)) pa_nil))) (pg_tup (by rfl) (pgs_cons (pg_name (i := 3) sc_law_web_right.nd rfl (by first | exact Or.inl rfl | exact Or.inr rfl)) (pgs_cons (pg_name (i := 4) sc_law_web_right.nd rfl (by first | exact Or.inl rfl | exact Or.inr rfl)) pgs_nil))))
 (pss_cons (ps_set (i := 5) sc_law_web_right.nd rfl (by first | exact Or.inl rfl | exact Or.inr rfl) (pe_mkN (mak_Web T) hr (by decide) rfl (pa_cons (pv 1) (pa_cons (pv 2) pa_nil))))
 (pss_cons (ps_set (i := 6) sc_law_web_right.nd rfl (by first | exact Or.inl rfl | exact Or.inr rfl) (pe_callTy (dictPK K rfl) (by rfl) T.z_dict (by decide +kernel) (pa_cons (pe_lock (pe_lc (own := [("name", 8)]) (g := gName 8) rfl sc_law_web_right.nd (pi_keys (pv 2)) (blkOk_by (own := [("name", 8)]) (N := N_law_web_right) (sc := fnScope s_law_web_right) (by decide +kernel)) (fun _ _ _ _ _ => (pg_name (i := 8) sc_law_web_right.nd rfl (by first | exact Or.inl rfl | exact Or.inr rfl))) (fun _ _ _ _ _ => pts_nil) (fun _ _ _ _ _ => (pe_tup (pa_cons (pv 8) (pa_cons (pe_callTy (tupleK K) (by rfl) T.z_tuple (by decide +kernel) (pa_cons (pe_callB (sortedTK K) (by rfl) T.z_sorted (by decide +kernel) (pa_cons (pe_dget (hu_of hr) (pv 2) (pv 8) (fun _ _ => rfl)) pa_nil)) pa_nil)) pa_nil)))))) pa_nil)))
 (pss_cons (ps_set (i := 7) sc_law_web_right.nd rfl (by first | exact Or.inl rfl | exact Or.inr rfl) (pe_mkN (mak_Web T) hr (by decide) rfl (pa_cons (pe_c (cal_law_shuffled T) hr (by decide) rfl (pa_cons (pv 0) (pa_cons (pv 1) pa_nil))) (pa_cons (pe_callTy (dictPK K rfl) (by rfl) T.z_dict (by decide +kernel) (pa_cons (pe_lc (own := [("name", 8)]) (g := gName 8) rfl sc_law_web_right.nd (pi_list (pe_c (cal_law_shuffledD T) hr (by decide) rfl (pa_cons (pv 0) (pa_cons (pv 2) pa_nil)))) (blkOk_by (own := [("name", 8)]) (N := N_law_web_right) (sc := fnScope s_law_web_right) (by decide +kernel)) (fun _ _ _ _ _ => (pg_name (i := 8) sc_law_web_right.nd rfl (by first | exact Or.inl rfl | exact Or.inr rfl))) (fun _ _ _ _ _ => pts_nil) (fun _ _ _ _ _ => (pe_tup (pa_cons (pv 8) (pa_cons (pe_revTK K (pe_dget (hu_of hr) (pv 2) (pv 8) (fun _ _ => rfl))) pa_nil))))) pa_nil)) pa_nil))))
 (pss_cons (ps_if (PW.pt (pw_or (pt_cmpR (neDK K hr) (pe_mt0 (met_Web_places T) hr (by decide) (pv 5)) (pe_callB (sortedSK K) (by rfl) T.z_sorted (by decide +kernel) (pa_cons (pv 1) pa_nil)) (nomark _)) (pw_or (pt_cmpR (neDDK K hr) (pe_mt0 (met_Web_ties T) hr (by decide) (pv 5)) (pv 6) (nomark _)) (pw_or1 (pt_not (pt_val (pe_callB (allK K rfl) (by rfl) T.z_all (by decide +kernel) (pa_cons (pe_lock (pe_lc (own := [("name", 8)]) (g := gName 8) rfl sc_law_web_right.nd (pi_keys (pv 2)) (blkOk_by (own := [("name", 8)]) (N := N_law_web_right) (sc := fnScope s_law_web_right) (by decide +kernel)) (fun _ _ _ _ _ => (pg_name (i := 8) sc_law_web_right.nd rfl (by first | exact Or.inl rfl | exact Or.inr rfl))) (fun _ _ _ _ _ => pts_nil) (fun _ _ _ _ _ => (pe_cmpR (eqDK K hr) (pe_mtN (met_Web_ends T) hr (by decide) (pv 5) (pa_cons (pv 8) pa_nil)) (pe_dget (hu_of hr) (pv 6) (pv 8) (fun _ _ => rfl)) (nomark _))))) pa_nil)))))))) (pss_one (ps_ret pe_bl)) pss_nil)
 (pss_cons (ps_if (PW.pt (pw_or (pt_not (pt_cmpR (op_eq_Web T hr) (pv 5) (pv 7) (nomark _))) (pw_or (pt_cmpR (op_ne_Web T hr) (pv 5) (pv 7) (nomark _)) (pw_or (pt_not (pt_val (pe_c (cal_law_ends_refused T) hr (by decide) rfl (pa_cons (pv 5) (pa_cons pe_str pa_nil))))) (pw_or1 (pt_not (pt_val (pe_c (cal_law_ends_refused T) hr (by decide) rfl (pa_cons (pv 5) (pa_cons pe_str pa_nil)))))))))) (pss_one (ps_ret pe_bl)) pss_nil)
 (pss_cons (ps_expr (pe_bm0 PySem.F.plainAttrs_list PySem.F.slot_list_clear PySem.F.type_list_clear mt_clear (pv 1)))
 (pss_cons (ps_expr (pe_dclear (pv 2)))
 (pss_cons (ps_expr (pe_bm PySem.F.plainAttrs_list PySem.F.slot_list_append PySem.F.type_list_append mt_append (pe_mt0 (met_Web_places T) hr (by decide) (pv 5)) (pa_cons pe_str pa_nil)))
 (pss_cons (ps_expr (pe_dclear (pe_mt0 (met_Web_ties T) hr (by decide) (pv 5))))
 (pss_cons (ps_if (PW.pt (pw_or (pt_cmpR (neDK K hr) (pe_mt0 (met_Web_places T) hr (by decide) (pv 5)) (pe_callB (sortedSK K) (by rfl) T.z_sorted (by decide +kernel) (pa_cons (pv 3) pa_nil)) (nomark _)) (pw_or1 (pt_cmpR (neDDK K hr) (pe_mt0 (met_Web_ties T) hr (by decide) (pv 5)) (pv 6) (nomark _))))) (pss_one (ps_ret pe_bl)) pss_nil)
 (pss_cons (ps_if (PW.pt (pw_and (pt_cmpR (neDDK K hr) (pv 4) pe_dnewK (nomark _)) (pw_and1 (pt_cmpR op_lt (pe_callB (lenK K) (by rfl) T.z_len (by decide +kernel) (pa_cons (pv 3) pa_nil)) pe_int (nomark _))))) (pss_cons (ps_set (i := 8) sc_law_web_right.nd rfl (by first | exact Or.inl rfl | exact Or.inr rfl) (pe_c (cal_law_pick T) hr (by decide) rfl (pa_cons (pv 0) (pa_cons (pe_callB (call_sortedD rfl) (by rfl) T.z_sorted (by decide +kernel) (pa_cons (pv 4) pa_nil)) pa_nil))))
 (pss_cons (ps_set (i := 9) sc_law_web_right.nd rfl (by first | exact Or.inl rfl | exact Or.inr rfl) (pe_callTy (dictPK K rfl) (by rfl) T.z_dict (by decide +kernel) (pa_cons (pe_lock (pe_lc (own := [("one", 12)]) (g := gName 12) rfl sc_law_web_right.nd (pi_keys (pv 4)) (blkOk_by (own := [("one", 12)]) (N := N_law_web_right) (sc := fnScope s_law_web_right) (by decide +kernel)) (fun _ _ _ _ _ => (pg_name (i := 12) sc_law_web_right.nd rfl (by first | exact Or.inl rfl | exact Or.inr rfl))) (fun _ _ _ _ _ => (pts_one (pt_cmpR op_ne (pv 12) (pv 8) (nomark _)))) (fun _ _ _ _ _ => (pe_tup (pa_cons (pv 12) (pa_cons (pe_dget (hu_of hr) (pv 4) (pv 12) (fun _ _ => rfl)) pa_nil)))))) pa_nil)))
 (pss_cons (ps_set (i := 10) sc_law_web_right.nd rfl (by first | exact Or.inl rfl | exact Or.inr rfl) (pe_callTy call_dictD (by rfl) T.z_dict (by decide +kernel) (pa_cons (pv 9) pa_nil)))
 (pss_cons (ps_dput (hu_of hr) (pv 10) (pv 8) (pe_tup (pa_cons pe_str (pa_cons pe_str pa_nil))) rfl)
 (pss_cons (ps_set (i := 11) sc_law_web_right.nd rfl (by first | exact Or.inl rfl | exact Or.inr rfl) (pe_lst (pa_cons (pe_mkN (mak_Web T) hr (by decide) rfl (pa_cons (pv 3) (pa_cons (pv 9) pa_nil))) (pa_cons (pe_mkN (mak_Web T) hr (by decide) rfl (pa_cons (pe_op op_cat (pv 3) (pe_lst (pa_cons pe_str pa_nil))) (pa_cons (pv 4) pa_nil))) (pa_cons (pe_mkN (mak_Web T) hr (by decide) rfl (pa_cons (pe_op op_cat (pv 3) (pe_lst (pa_cons pe_str pa_nil))) (pa_cons (pv 10) pa_nil))) pa_nil)))))
 (pss_one (ps_ret (pe_and (pe_not (pe_callB (anyK K rfl) (by rfl) T.z_any (by decide +kernel) (pa_cons (pe_lc (own := [("one", 12)]) (g := gName 12) rfl sc_law_web_right.nd (pi_list (pv 11)) (blkOk_by (own := [("one", 12)]) (N := N_law_web_right) (sc := fnScope s_law_web_right) (by decide +kernel)) (fun _ _ _ _ _ => (pg_name (i := 12) sc_law_web_right.nd rfl (by first | exact Or.inl rfl | exact Or.inr rfl))) (fun _ _ _ _ _ => pts_nil) (fun _ _ _ _ _ => (pe_cmpR (op_eq_Web T hr) (pv 5) (pv 12) (nomark _)))) pa_nil))) (pe_one (pe_callB (allK K rfl) (by rfl) T.z_all (by decide +kernel) (pa_cons (pe_lc (own := [("one", 12)]) (g := gName 12) rfl sc_law_web_right.nd (pi_list (pv 11)) (blkOk_by (own := [("one", 12)]) (N := N_law_web_right) (sc := fnScope s_law_web_right) (by decide +kernel)) (fun _ _ _ _ _ => (pg_name (i := 12) sc_law_web_right.nd rfl (by first | exact Or.inl rfl | exact Or.inr rfl))) (fun _ _ _ _ _ => pts_nil) (fun _ _ _ _ _ => (pe_cmpR (op_ne_Web T hr) (pv 5) (pv 12) (nomark _)))) pa_nil))))))))))) pss_nil)
 (pss_one (ps_ret pe_bl)))))))))))))), ?_⟩
    obtain ⟨⟨hl1, hl16⟩, hfw, hpl, htiF, hes24⟩ := due_none hdue
    have hnm := fw_names hfw
    have hndp := fw_nodup hfw
    obtain ⟨rs, rfl, hrs⟩ := raw_of (ps := ps) (fun e he => (hge e he).2)
    have hrl : rs.length ≤ 24 := by rw [List.length_map] at hes24; exact hes24
    have nd : (rs.map (·.1)).Nodup := by rw [← raw_keys]; exact hT.nd
    obtain ⟨⟨kvs0, hd0, hp0⟩, _⟩ := hT
    have hp0 : Paired (Tup2 H) kvs0 rs := tie_raw hp0
    have hk0 : kvs0.length = rs.length := hp0.length
    have hkey : ∀ r ∈ rs, Short r.1 := fun r hr => (hge (rawE r) (List.mem_map.mpr ⟨r, hr, rfl⟩)).1
    have hok : ∀ r ∈ rs, isNm r.1 = true ∧ r.2.1 ∈ ps ∧ r.2.2 ∈ ps := fun r hr => ⟨(hkey r hr).1, (hrs r hr).1, (hrs r hr).2⟩
    have hz : ∀ y ∈ ps, y.length ≤ 1000 := fun y hy => by have := (hsh y hy).2.1; omega
    have hz2 : ∀ r ∈ rs, r.1.length ≤ 1000 := fun r hr => by have := (hkey r hr).2.1; omega
    have hso : ∀ r ∈ rs, PyData.strOk r.2.1 = true ∧ PyData.strOk r.2.2 = true := fun r hr => ⟨isNm_ok (hnm _ (hrs r hr).1), isNm_ok (hnm _ (hrs r hr).2)⟩
    have aw : a ≠ wl := hw.neo ha (isW_strs ps)
    have dw : d ≠ wl := hw.neo hd0 rfl
    have ad : a ≠ d := fun e => by rw [e, hd0] at ha; cases ha
    (repeat (first | refine ⟨_, rfl, ?_⟩ | refine ⟨rfl, ?_⟩ | refine ⟨_, _, rfl, rfl, ?_⟩ | refine iteT ?_ | refine iteF ?_ | refine ⟨(by show (0 : Int) < _; omega), ?_⟩ | refine ⟨(⟨by omega, by omega⟩ : CDiv _ _), ?_⟩ | refine ⟨(⟨by decide, by decide, by decide⟩ : CPow _ _), ?_⟩ | refine ⟨(.inl ⟨by omega, by omega⟩ : CMul _ _), ?_⟩ | refine ⟨(.inr ⟨by omega, by omega⟩ : CMul _ _), ?_⟩ | refine Or.inl ⟨_, rfl, ?_⟩ | refine Or.inr ⟨_, rfl, ?_⟩ | refine ⟨_, _, _, _, true, rfl, .ty _, .base (.str _), kit_ty (by decide +kernel), ?_⟩ | refine ⟨_, _, rfl, ⟨by rw [sizeLine_eq]; omega, rfl⟩, ?_⟩ | refine ⟨_, _, rfl, .inl ⟨_, SqL.of (by assumption), rfl⟩, ?_⟩ | refine ⟨_, _, rfl, .inr ⟨_, SqT.of (by assumption), rfl⟩, ?_⟩))
    refine ⟨a, _, rfl, .inl (SqL.of ha), fun kp nkp => ?_⟩
    have s1 := Same.new (o := .lst (ps.map V.str)) nkp
    have ekp := upd_same (H := H) (a := kp) (o := .lst (ps.map V.str))
    refine ⟨_, rfl, d, kvs0, rfl, .inl (s1 _ _ hd0), fun hl nhl => ?_⟩
    have s2 := s1.trans (Same.new (o := .dK kvs0) nhl)
    have ehl := upd_same (H := upd H kp (.lst (ps.map V.str))) (a := hl) (o := .dK kvs0)
    (repeat (first | refine ⟨_, rfl, ?_⟩ | refine ⟨rfl, ?_⟩ | refine ⟨_, _, rfl, rfl, ?_⟩ | refine iteT ?_ | refine iteF ?_ | refine ⟨(by show (0 : Int) < _; omega), ?_⟩ | refine ⟨(⟨by omega, by omega⟩ : CDiv _ _), ?_⟩ | refine ⟨(⟨by decide, by decide, by decide⟩ : CPow _ _), ?_⟩ | refine ⟨(.inl ⟨by omega, by omega⟩ : CMul _ _), ?_⟩ | refine ⟨(.inr ⟨by omega, by omega⟩ : CMul _ _), ?_⟩ | refine Or.inl ⟨_, rfl, ?_⟩ | refine Or.inr ⟨_, rfl, ?_⟩ | refine ⟨_, _, _, _, true, rfl, .ty _, .base (.str _), kit_ty (by decide +kernel), ?_⟩ | refine ⟨_, _, rfl, ⟨by rw [sizeLine_eq]; omega, rfl⟩, ?_⟩ | refine ⟨_, _, rfl, .inl ⟨_, SqL.of (by assumption), rfl⟩, ?_⟩ | refine ⟨_, _, rfl, .inr ⟨_, SqT.of (by assumption), rfl⟩, ?_⟩))
    refine ⟨(by show 2 ≤ sizeLine; rw [sizeLine_eq]; omega), fun tp ntp => ?_⟩
    have s3 := s2.trans (Same.new (o := .tup [V.ref kp, V.ref hl]) ntp)
    refine ⟨tp, _, rfl, SqT.of upd_same, rfl, _, _, rfl, _, _, rfl, rfl, ?_⟩
    (repeat (first | refine ⟨_, rfl, ?_⟩ | refine ⟨rfl, ?_⟩ | refine ⟨_, _, rfl, rfl, ?_⟩ | refine iteT ?_ | refine iteF ?_ | refine ⟨(by show (0 : Int) < _; omega), ?_⟩ | refine ⟨(⟨by omega, by omega⟩ : CDiv _ _), ?_⟩ | refine ⟨(⟨by decide, by decide, by decide⟩ : CPow _ _), ?_⟩ | refine ⟨(.inl ⟨by omega, by omega⟩ : CMul _ _), ?_⟩ | refine ⟨(.inr ⟨by omega, by omega⟩ : CMul _ _), ?_⟩ | refine Or.inl ⟨_, rfl, ?_⟩ | refine Or.inr ⟨_, rfl, ?_⟩ | refine ⟨_, _, _, _, true, rfl, .ty _, .base (.str _), kit_ty (by decide +kernel), ?_⟩ | refine ⟨_, _, rfl, ⟨by rw [sizeLine_eq]; omega, rfl⟩, ?_⟩ | refine ⟨_, _, rfl, .inl ⟨_, SqL.of (by assumption), rfl⟩, ?_⟩ | refine ⟨_, _, rfl, .inr ⟨_, SqT.of (by assumption), rfl⟩, ?_⟩))
    have s3' := (Same.new (o := .tup [V.ref kp, V.ref hl]) ntp)
    have ekp3 := s3' _ _ (Same.new (o := .dK kvs0) nhl _ _ ekp)
    have ehl3 := s3' _ _ ehl
    refine mk_web (s3 _ _ ha) (s3 _ _ hd0) (tup2_mono (fun t xs q => s3 _ _ q) hp0) nd hl1 hl16 hnm hndp hok hrl fun x H1 nx s4 hW hF => ?_
    have s14 := s3.trans s4
    obtain ⟨⟨dx, lp, td, kvw, w1, w2, w3, w4⟩, wnd, wop, wot, wlp, wlt⟩ := id hW
    obtain ⟨nlp, ntd⟩ := hF _ _ _ w1
    have nlpH : H lp = none := s3.free nlp
    have ntdH : H td = none := s3.free ntd
    have lpa : lp ≠ a := fun e => by rw [e, ha] at nlpH; cases nlpH
    have tdd : td ≠ d := fun e => by rw [e, hd0] at ntdH; cases ntdH
    have tda : td ≠ a := fun e => by rw [e, ha] at ntdH; cases ntdH
    have xa : x ≠ a := fun e => by rw [e, s3 _ _ ha] at nx; cases nx
    have xd : x ≠ d := fun e => by rw [e, s3 _ _ hd0] at nx; cases nx
    have ekp4 := s4 _ _ ekp3
    have ehl4 := s4 _ _ ehl3
    have hd4 := s14 _ _ hd0
    refine ⟨d, _, hd4, trivial, fun od => ?_⟩
    refine ⟨_, rfl, d, od, rfl, .inl ⟨kvs0, upd_same, fun D nD => ?_⟩⟩
    have hp4 : Paired (Tup2 (upd H1 d (.frz od (.dK kvs0)))) kvs0 rs := tup2_mono (fun t xs q => by rw [upd_ne (fun e => by rw [e, hd0] at q; cases q)]; exact s14 _ _ q) hp0
    refine lc_it walk_keys (fun i H' => ∃ qs : List Addr, Same (upd H1 d (.frz od (.dK kvs0))) H' ∧ H' D = some (.lst (qs.map V.ref)) ∧ Paired (PT H') qs ((rs.take i).map fun r => ((r.1, srt2 r.2.1 r.2.2) : Tr)))
      ⟨[], Same.new nD, upd_same, .nil⟩ (fun _ H' _ ⟨_, q, _, _⟩ => q _ _ upd_same) ?_ ?_
    · rintro i v H2 H3 hi ⟨qs, sL, hD, hP⟩ ⟨rfl, kk, u, hku, rfl⟩
      obtain ⟨r, hr, e1, _⟩ := at2 hp4 hku
      have e1 : kk = Sum.inr r.1 := e1
      subst e1
      have hrm : r ∈ rs := List.mem_of_getElem? hr
      obtain ⟨t, hg, ht⟩ := get2' hp4 nd hrm
      have hdL := sL _ _ (upd_same (H := H1) (a := d) (o := .frz od (.dK kvs0)))
      have ht2 := sL _ _ ht
      refine ⟨rfl, ?_⟩
      (repeat (first | refine ⟨_, rfl, ?_⟩ | refine ⟨rfl, ?_⟩ | refine ⟨_, _, rfl, rfl, ?_⟩ | refine iteT ?_ | refine iteF ?_ | refine ⟨(by show (0 : Int) < _; omega), ?_⟩ | refine ⟨(⟨by omega, by omega⟩ : CDiv _ _), ?_⟩ | refine ⟨(⟨by decide, by decide, by decide⟩ : CPow _ _), ?_⟩ | refine ⟨(.inl ⟨by omega, by omega⟩ : CMul _ _), ?_⟩ | refine ⟨(.inr ⟨by omega, by omega⟩ : CMul _ _), ?_⟩ | refine Or.inl ⟨_, rfl, ?_⟩ | refine Or.inr ⟨_, rfl, ?_⟩ | refine ⟨_, _, _, _, true, rfl, .ty _, .base (.str _), kit_ty (by decide +kernel), ?_⟩ | refine ⟨_, _, rfl, ⟨by rw [sizeLine_eq]; omega, rfl⟩, ?_⟩ | refine ⟨_, _, rfl, .inl ⟨_, SqL.of (by assumption), rfl⟩, ?_⟩ | refine ⟨_, _, rfl, .inr ⟨_, SqT.of (by assumption), rfl⟩, ?_⟩))
      refine ⟨d, .ref t, rfl, dget_s (.inr ⟨od, hdL⟩) hg, ?_⟩
      (repeat (first | refine ⟨_, rfl, ?_⟩ | refine ⟨rfl, ?_⟩ | refine ⟨_, _, rfl, rfl, ?_⟩ | refine iteT ?_ | refine iteF ?_ | refine ⟨(by show (0 : Int) < _; omega), ?_⟩ | refine ⟨(⟨by omega, by omega⟩ : CDiv _ _), ?_⟩ | refine ⟨(⟨by decide, by decide, by decide⟩ : CPow _ _), ?_⟩ | refine ⟨(.inl ⟨by omega, by omega⟩ : CMul _ _), ?_⟩ | refine ⟨(.inr ⟨by omega, by omega⟩ : CMul _ _), ?_⟩ | refine Or.inl ⟨_, rfl, ?_⟩ | refine Or.inr ⟨_, rfl, ?_⟩ | refine ⟨_, _, _, _, true, rfl, .ty _, .base (.str _), kit_ty (by decide +kernel), ?_⟩ | refine ⟨_, _, rfl, ⟨by rw [sizeLine_eq]; omega, rfl⟩, ?_⟩ | refine ⟨_, _, rfl, .inl ⟨_, SqL.of (by assumption), rfl⟩, ?_⟩ | refine ⟨_, _, rfl, .inr ⟨_, SqT.of (by assumption), rfl⟩, ?_⟩))
      refine ⟨t, [r.2.1, r.2.2], rfl, SqT.of ht2, (by show 2 < 64; decide), fun ys p pm so np => ?_⟩
      rw [sortS_eq pm so, sortS_two]
      have q1 := Same.new (o := .lst ([(srt2 r.2.1 r.2.2).1, (srt2 r.2.1 r.2.2).2].map V.str)) np
      refine ⟨p, _, rfl, .inl ⟨SqL.of upd_same, fun l nl => ?_⟩⟩
      have q2 := Same.new (o := .tup ([(srt2 r.2.1 r.2.2).1, (srt2 r.2.1 r.2.2).2].map V.str)) nl
      (repeat (first | refine ⟨_, rfl, ?_⟩ | refine ⟨rfl, ?_⟩ | refine ⟨_, _, rfl, rfl, ?_⟩ | refine iteT ?_ | refine iteF ?_ | refine ⟨(by show (0 : Int) < _; omega), ?_⟩ | refine ⟨(⟨by omega, by omega⟩ : CDiv _ _), ?_⟩ | refine ⟨(⟨by decide, by decide, by decide⟩ : CPow _ _), ?_⟩ | refine ⟨(.inl ⟨by omega, by omega⟩ : CMul _ _), ?_⟩ | refine ⟨(.inr ⟨by omega, by omega⟩ : CMul _ _), ?_⟩ | refine Or.inl ⟨_, rfl, ?_⟩ | refine Or.inr ⟨_, rfl, ?_⟩ | refine ⟨_, _, _, _, true, rfl, .ty _, .base (.str _), kit_ty (by decide +kernel), ?_⟩ | refine ⟨_, _, rfl, ⟨by rw [sizeLine_eq]; omega, rfl⟩, ?_⟩ | refine ⟨_, _, rfl, .inl ⟨_, SqL.of (by assumption), rfl⟩, ?_⟩ | refine ⟨_, _, rfl, .inr ⟨_, SqT.of (by assumption), rfl⟩, ?_⟩))
      refine ⟨(by show 2 ≤ sizeLine; rw [sizeLine_eq]; omega), fun q nq => ?_⟩
      have q3 := Same.new (o := .tup [V.str r.1, V.ref l]) nq
      have q123 := (q1.trans q2).trans q3
      have qlen : qs.length = i := by
        rw [hP.length, List.length_map, List.length_take]
        omega
      have nDL := nD
      refine ⟨_, q123 _ _ hD, small1000 (by rw [List.length_map]; omega), qs ++ [q], Same.put (sL.trans q123) nD, by rw [upd_same, List.map_append]; rfl, ?_⟩
      rw [take_snoc (fun r => ((r.1, srt2 r.2.1 r.2.2) : Tr)) hr]
      have up : ∀ t xs, upd (upd (upd H3 p (.lst ([(srt2 r.2.1 r.2.2).1, (srt2 r.2.1 r.2.2).2].map V.str))) l (.tup ([(srt2 r.2.1 r.2.2).1, (srt2 r.2.1 r.2.2).2].map V.str))) q (.tup [V.str r.1, V.ref l]) t = some (.tup xs) →
          upd (upd (upd (upd H3 p (.lst ([(srt2 r.2.1 r.2.2).1, (srt2 r.2.1 r.2.2).2].map V.str))) l (.tup ([(srt2 r.2.1 r.2.2).1, (srt2 r.2.1 r.2.2).2].map V.str))) q (.tup [V.str r.1, V.ref l])) D (.lst (qs.map V.ref ++ [V.ref q])) t = some (.tup xs) := fun t xs h => by
        rw [upd_ne (fun e => by rw [e, q123 _ _ hD] at h; cases h)]
        exact h
      refine Paired.snoc ⟨l, up _ _ upd_same, up _ _ (q3 _ _ upd_same)⟩ (Paired.imp (fun _ _ ⟨t, h1, h2⟩ => ⟨t, up _ _ (q123 _ _ h1), up _ _ (q123 _ _ h2)⟩) hP)
    rintro H2 ⟨qs, sL, hD, hP⟩
    rw [hk0, List.take_of_length_le (Nat.le_refl _)] at hP
    have dD : d ≠ D := fun e => by rw [← e, upd_same] at nD; cases nD
    have s5 := lock_same hd4 sL
    refine ⟨sL _ _ upd_same, ?_⟩
    have upT : ∀ t xs, H2 t = some (.tup xs) → upd H2 d (.dK kvs0) t = some (.tup xs) := fun t xs h => by
      rw [upd_ne (fun e => by rw [e, sL _ _ upd_same] at h; cases h)]
      exact h
    have hP5 : Paired (PT (upd H2 d (.dK kvs0))) qs (rs.map fun r => ((r.1, srt2 r.2.1 r.2.2) : Tr)) := Paired.imp (fun _ _ ⟨t, h1, h2⟩ => ⟨t, upT _ _ h1, upT _ _ h2⟩) hP
    have hkd : (rs.map fun r => ((r.1, srt2 r.2.1 r.2.2) : Tr)).map (·.1) = rs.map (·.1) := by
      rw [List.map_map]
      exact List.map_congr_left fun _ _ => rfl
    obtain ⟨kvd, pk1, pk2⟩ := pt_kvs (K := K) hP5
    refine ⟨D, qs, kvd, rfl, SqL.of (by rw [upd_ne dD.symm]; exact hD), pk1, fun du ndu => ?_⟩
    rw [mergeK_nd pk2 (by rw [hkd]; exact nd)]
    have s6 := Same.new (o := .dK kvd) ndu
    have pk3 := tup2_mono (fun t xs q => s6 _ _ q) pk2
    have edu := upd_same (H := upd H2 d (.dK kvs0)) (a := du) (o := .dK kvd)
    have s56 := s5.trans s6
    have s16 := s14.trans s56
    generalize hG5 : upd (upd H2 d (.dK kvs0)) du (.dK kvd) = G5 at *
    (repeat (first | refine ⟨_, rfl, ?_⟩ | refine ⟨rfl, ?_⟩ | refine ⟨_, _, rfl, rfl, ?_⟩ | refine iteT ?_ | refine iteF ?_ | refine ⟨(by show (0 : Int) < _; omega), ?_⟩ | refine ⟨(⟨by omega, by omega⟩ : CDiv _ _), ?_⟩ | refine ⟨(⟨by decide, by decide, by decide⟩ : CPow _ _), ?_⟩ | refine ⟨(.inl ⟨by omega, by omega⟩ : CMul _ _), ?_⟩ | refine ⟨(.inr ⟨by omega, by omega⟩ : CMul _ _), ?_⟩ | refine Or.inl ⟨_, rfl, ?_⟩ | refine Or.inr ⟨_, rfl, ?_⟩ | refine ⟨_, _, _, _, true, rfl, .ty _, .base (.str _), kit_ty (by decide +kernel), ?_⟩ | refine ⟨_, _, rfl, ⟨by rw [sizeLine_eq]; omega, rfl⟩, ?_⟩ | refine ⟨_, _, rfl, .inl ⟨_, SqL.of (by assumption), rfl⟩, ?_⟩ | refine ⟨_, _, rfl, .inr ⟨_, SqT.of (by assumption), rfl⟩, ?_⟩))
    have hw5 := hw.same s16
    have ha5 := s16 _ _ ha
    refine ⟨wl, a, _, rfl, hw5, ha5, isW_strs ps, (by rw [List.length_map]; omega), fun sp ys H6 nsp k6 hsp pm => ?_⟩
    obtain ⟨ps2, rfl, pmp⟩ := perm_strs pm
    have hw6 := k6.well hw5
    have hd6 := k6.get hw5 (s16 _ _ hd0)
    have hp6 : Paired (Tup2 H6) kvs0 rs := tup2_mono (fun t xs q => k6.get hw5 (s16 _ _ q)) hp0
    (repeat (first | refine ⟨_, rfl, ?_⟩ | refine ⟨rfl, ?_⟩ | refine ⟨_, _, rfl, rfl, ?_⟩ | refine iteT ?_ | refine iteF ?_ | refine ⟨(by show (0 : Int) < _; omega), ?_⟩ | refine ⟨(⟨by omega, by omega⟩ : CDiv _ _), ?_⟩ | refine ⟨(⟨by decide, by decide, by decide⟩ : CPow _ _), ?_⟩ | refine ⟨(.inl ⟨by omega, by omega⟩ : CMul _ _), ?_⟩ | refine ⟨(.inr ⟨by omega, by omega⟩ : CMul _ _), ?_⟩ | refine Or.inl ⟨_, rfl, ?_⟩ | refine Or.inr ⟨_, rfl, ?_⟩ | refine ⟨_, _, _, _, true, rfl, .ty _, .base (.str _), kit_ty (by decide +kernel), ?_⟩ | refine ⟨_, _, rfl, ⟨by rw [sizeLine_eq]; omega, rfl⟩, ?_⟩ | refine ⟨_, _, rfl, .inl ⟨_, SqL.of (by assumption), rfl⟩, ?_⟩ | refine ⟨_, _, rfl, .inr ⟨_, SqT.of (by assumption), rfl⟩, ?_⟩))
    refine ⟨wl, d, kvs0, rfl, hw6, hd6, (by omega), fun sn ys H7 nsn k7 hsn pm => ?_⟩
    rw [keysV hp0] at pm
    obtain ⟨ns, rfl, pmn⟩ := perm_strs pm
    have hw7 := k7.well hw6
    have hd7 := k7.get hw6 hd6
    have hp7 : Paired (Tup2 H7) kvs0 rs := tup2_mono (fun t xs q => k7.get hw6 q) hp6
    have hsp7 := k7.get hw6 hsp (isW_strs ps2)
    refine ⟨sn, rfl, ⟨_, SqL.of hsn⟩, fun D2 nD2 => ?_⟩
    refine lc_it walk_list (fun i H' => ∃ qs : List Addr, Same H7 H' ∧ H' D2 = some (.lst (qs.map V.ref)) ∧ Paired (PT H') qs ((ns.take i).map fun n => ((n, (endR rs n).2, (endR rs n).1) : Tr)))
      ⟨[], Same.new nD2, upd_same, .nil⟩ (fun _ H' _ ⟨_, q, _, _⟩ => SqL.of (q _ _ hsn)) ?_ ?_
    · rintro i v H2 H3 hi ⟨qs, sL, hD, hP⟩ ⟨rfl, hv⟩
      rw [List.length_map] at hi
      have hn : ns[i]? = some ns[i] := List.getElem?_eq_getElem hi
      have ev : v = V.str ns[i] := by
        rw [List.getElem?_map, hn] at hv
        exact (Option.some.inj hv).symm
      subst ev
      have hrm : (ns[i], endR rs ns[i]) ∈ rs := endR_mem (pmn.mem_iff.mp (List.getElem_mem hi))
      obtain ⟨t, hg, ht⟩ := get2' hp7 nd hrm
      have ht2 := sL _ _ ht
      refine ⟨rfl, ?_⟩
      (repeat (first | refine ⟨_, rfl, ?_⟩ | refine ⟨rfl, ?_⟩ | refine ⟨_, _, rfl, rfl, ?_⟩ | refine iteT ?_ | refine iteF ?_ | refine ⟨(by show (0 : Int) < _; omega), ?_⟩ | refine ⟨(⟨by omega, by omega⟩ : CDiv _ _), ?_⟩ | refine ⟨(⟨by decide, by decide, by decide⟩ : CPow _ _), ?_⟩ | refine ⟨(.inl ⟨by omega, by omega⟩ : CMul _ _), ?_⟩ | refine ⟨(.inr ⟨by omega, by omega⟩ : CMul _ _), ?_⟩ | refine Or.inl ⟨_, rfl, ?_⟩ | refine Or.inr ⟨_, rfl, ?_⟩ | refine ⟨_, _, _, _, true, rfl, .ty _, .base (.str _), kit_ty (by decide +kernel), ?_⟩ | refine ⟨_, _, rfl, ⟨by rw [sizeLine_eq]; omega, rfl⟩, ?_⟩ | refine ⟨_, _, rfl, .inl ⟨_, SqL.of (by assumption), rfl⟩, ?_⟩ | refine ⟨_, _, rfl, .inr ⟨_, SqT.of (by assumption), rfl⟩, ?_⟩))
      refine ⟨d, .ref t, rfl, dget_s (.inl (sL _ _ hd7)) hg, ?_⟩
      refine ⟨t, _, _, rfl, SqT.of ht2, fun l nl => ?_⟩
      have q2 := Same.new (o := .tup [V.str (endR rs ns[i]).2, V.str (endR rs ns[i]).1]) nl
      (repeat (first | refine ⟨_, rfl, ?_⟩ | refine ⟨rfl, ?_⟩ | refine ⟨_, _, rfl, rfl, ?_⟩ | refine iteT ?_ | refine iteF ?_ | refine ⟨(by show (0 : Int) < _; omega), ?_⟩ | refine ⟨(⟨by omega, by omega⟩ : CDiv _ _), ?_⟩ | refine ⟨(⟨by decide, by decide, by decide⟩ : CPow _ _), ?_⟩ | refine ⟨(.inl ⟨by omega, by omega⟩ : CMul _ _), ?_⟩ | refine ⟨(.inr ⟨by omega, by omega⟩ : CMul _ _), ?_⟩ | refine Or.inl ⟨_, rfl, ?_⟩ | refine Or.inr ⟨_, rfl, ?_⟩ | refine ⟨_, _, _, _, true, rfl, .ty _, .base (.str _), kit_ty (by decide +kernel), ?_⟩ | refine ⟨_, _, rfl, ⟨by rw [sizeLine_eq]; omega, rfl⟩, ?_⟩ | refine ⟨_, _, rfl, .inl ⟨_, SqL.of (by assumption), rfl⟩, ?_⟩ | refine ⟨_, _, rfl, .inr ⟨_, SqT.of (by assumption), rfl⟩, ?_⟩))
      refine ⟨(by show 2 ≤ sizeLine; rw [sizeLine_eq]; omega), fun q nq => ?_⟩
      have q3 := Same.new (o := .tup [V.str ns[i], V.ref l]) nq
      have q23 := q2.trans q3
      have qlen : qs.length = i := by
        rw [hP.length, List.length_map, List.length_take]
        omega
      have nsl : ns.length = rs.length := by rw [pmn.length_eq, List.length_map]
      refine ⟨_, q23 _ _ hD, small1000 (by rw [List.length_map]; omega), qs ++ [q], Same.put (sL.trans q23) nD2, by rw [upd_same, List.map_append]; rfl, ?_⟩
      rw [take_snoc (fun n => ((n, (endR rs n).2, (endR rs n).1) : Tr)) hn]
      have up : ∀ t xs, upd (upd H3 l (.tup [V.str (endR rs ns[i]).2, V.str (endR rs ns[i]).1])) q (.tup [V.str ns[i], V.ref l]) t = some (.tup xs) →
          upd (upd (upd H3 l (.tup [V.str (endR rs ns[i]).2, V.str (endR rs ns[i]).1])) q (.tup [V.str ns[i], V.ref l])) D2 (.lst (qs.map V.ref ++ [V.ref q])) t = some (.tup xs) := fun t xs h => by
        rw [upd_ne (fun e => by rw [e, q23 _ _ hD] at h; cases h)]
        exact h
      refine Paired.snoc ⟨l, up _ _ upd_same, up _ _ (q3 _ _ upd_same)⟩ (Paired.imp (fun _ _ ⟨t, h1, h2⟩ => ⟨t, up _ _ (q23 _ _ h1), up _ _ (q23 _ _ h2)⟩) hP)
    rintro H8 ⟨qs2, s8, hD2, hP2⟩
    rw [List.length_map, List.take_of_length_le (Nat.le_refl _)] at hP2
    have hk2 : (ns.map fun n => ((n, (endR rs n).2, (endR rs n).1) : Tr)).map (·.1) = ns := by
      rw [List.map_map]
      exact (List.map_congr_left fun _ _ => rfl).trans (List.map_id _)
    have hnd2 : ((ns.map fun n => ((n, (endR rs n).2, (endR rs n).1) : Tr)).map (·.1)).Nodup := by
      rw [hk2]
      exact pmn.nodup_iff.mpr nd
    obtain ⟨kv2, pk1', pk2'⟩ := pt_kvs (K := K) hP2
    refine ⟨D2, qs2, kv2, rfl, SqL.of hD2, pk1', fun d2 nd2 => ?_⟩
    rw [mergeK_nd pk2' hnd2]
    have s9 := Same.new (o := .dK kv2) nd2
    have s89 := s8.trans s9
    have pk3' := tup2_mono (fun t xs q => s9 _ _ q) pk2'
    have ed2 := upd_same (H := H8) (a := d2) (o := .dK kv2)
    generalize hG9 : upd H8 d2 (.dK kv2) = G9 at *
    (repeat (first | refine ⟨_, rfl, ?_⟩ | refine ⟨rfl, ?_⟩ | refine ⟨_, _, rfl, rfl, ?_⟩ | refine iteT ?_ | refine iteF ?_ | refine ⟨(by show (0 : Int) < _; omega), ?_⟩ | refine ⟨(⟨by omega, by omega⟩ : CDiv _ _), ?_⟩ | refine ⟨(⟨by decide, by decide, by decide⟩ : CPow _ _), ?_⟩ | refine ⟨(.inl ⟨by omega, by omega⟩ : CMul _ _), ?_⟩ | refine ⟨(.inr ⟨by omega, by omega⟩ : CMul _ _), ?_⟩ | refine Or.inl ⟨_, rfl, ?_⟩ | refine Or.inr ⟨_, rfl, ?_⟩ | refine ⟨_, _, _, _, true, rfl, .ty _, .base (.str _), kit_ty (by decide +kernel), ?_⟩ | refine ⟨_, _, rfl, ⟨by rw [sizeLine_eq]; omega, rfl⟩, ?_⟩ | refine ⟨_, _, rfl, .inl ⟨_, SqL.of (by assumption), rfl⟩, ?_⟩ | refine ⟨_, _, rfl, .inr ⟨_, SqT.of (by assumption), rfl⟩, ?_⟩))
    refine mk_web (s89 _ _ hsp7) ed2 pk3' hnd2 (by rw [pmp.length_eq]; exact hl1) (by rw [pmp.length_eq]; exact hl16) (fun p hp => hnm p (pmp.mem_iff.mp hp)) (pmp.nodup_iff.mpr hndp) (fun r hr => ?_) (by rw [List.length_map, pmn.length_eq, List.length_map]; exact hrl) fun y H10 ny s10 hY _ => ?_
    · obtain ⟨n, hn, rfl⟩ := List.mem_map.mp hr
      have hm := endR_mem (pmn.mem_iff.mp hn)
      obtain ⟨q1, q2, q3⟩ := hok _ hm
      exact ⟨q1, pmp.mem_iff.mpr q3, pmp.mem_iff.mpr q2⟩
    rw [webTies_rev nd pmn, sortS_of_perm pmp] at hY
    have k17 : Kp wl H1 H10 := (((Kp.same s56).trans (k6.trans k7)).trans (Kp.same (s89.trans s10)))
    have hw1 := hw.same s14
    have kH : Kp wl H H10 := (Kp.same s14).trans k17
    have hX := hW.kp k17 hw1
    have w1' := k17.get hw1 w1
    have w2' := k17.get hw1 w2 (isW_strs _)
    have w3' := k17.get hw1 w3
    have w4' := tup2_mono (fun t xs q => k17.get hw1 q) w4
    have ha10 := kH.get hw ha (isW_strs ps)
    have hd10 := kH.get hw hd0
    have hp10 : Paired (Tup2 H10) kvs0 rs := tup2_mono (fun t xs q => kH.get hw q) hp0
    have ekp10 := k17.get hw1 ekp4 (isW_strs ps)
    have ehl10 := k17.get hw1 ehl4
    have k610 : Kp wl G5 H10 := (k6.trans k7).trans (Kp.same (s89.trans s10))
    have edu10 := k610.get hw5 edu
    have pkd10 := tup2_mono (fun t xs q => k610.get hw5 q) pk3
    (repeat (first | refine ⟨_, rfl, ?_⟩ | refine ⟨rfl, ?_⟩ | refine ⟨_, _, rfl, rfl, ?_⟩ | refine iteT ?_ | refine iteF ?_ | refine ⟨(by show (0 : Int) < _; omega), ?_⟩ | refine ⟨(⟨by omega, by omega⟩ : CDiv _ _), ?_⟩ | refine ⟨(⟨by decide, by decide, by decide⟩ : CPow _ _), ?_⟩ | refine ⟨(.inl ⟨by omega, by omega⟩ : CMul _ _), ?_⟩ | refine ⟨(.inr ⟨by omega, by omega⟩ : CMul _ _), ?_⟩ | refine Or.inl ⟨_, rfl, ?_⟩ | refine Or.inr ⟨_, rfl, ?_⟩ | refine ⟨_, _, _, _, true, rfl, .ty _, .base (.str _), kit_ty (by decide +kernel), ?_⟩ | refine ⟨_, _, rfl, ⟨by rw [sizeLine_eq]; omega, rfl⟩, ?_⟩ | refine ⟨_, _, rfl, .inl ⟨_, SqL.of (by assumption), rfl⟩, ?_⟩ | refine ⟨_, _, rfl, .inr ⟨_, SqT.of (by assumption), rfl⟩, ?_⟩))
    have nolk : ∀ m : Str, ¬ m = "_ties" → ¬ m = "_places" → (wfl lp td).lookup m = none := fun m h1 h2 => wfl_no lp td h1 h2
    refine ⟨x, dx, _, rfl, w1', nolk _ (by decide +kernel) (by decide +kernel), ?_⟩
    (repeat (first | refine ⟨_, rfl, ?_⟩ | refine ⟨rfl, ?_⟩ | refine ⟨_, _, rfl, rfl, ?_⟩ | refine iteT ?_ | refine iteF ?_ | refine ⟨(by show (0 : Int) < _; omega), ?_⟩ | refine ⟨(⟨by omega, by omega⟩ : CDiv _ _), ?_⟩ | refine ⟨(⟨by decide, by decide, by decide⟩ : CPow _ _), ?_⟩ | refine ⟨(.inl ⟨by omega, by omega⟩ : CMul _ _), ?_⟩ | refine ⟨(.inr ⟨by omega, by omega⟩ : CMul _ _), ?_⟩ | refine Or.inl ⟨_, rfl, ?_⟩ | refine Or.inr ⟨_, rfl, ?_⟩ | refine ⟨_, _, _, _, true, rfl, .ty _, .base (.str _), kit_ty (by decide +kernel), ?_⟩ | refine ⟨_, _, rfl, ⟨by rw [sizeLine_eq]; omega, rfl⟩, ?_⟩ | refine ⟨_, _, rfl, .inl ⟨_, SqL.of (by assumption), rfl⟩, ?_⟩ | refine ⟨_, _, rfl, .inr ⟨_, SqT.of (by assumption), rfl⟩, ?_⟩))
    refine ⟨x, _, _, rfl, hX, fun pl H11 npl s11 hpl11 => ?_⟩
    refine ⟨_, rfl, a, ps, rfl, SqL.of (s11 _ _ ha10), by omega, fun ys p2 pm so np2 => ?_⟩
    rw [sortS_eq pm so]
    have s12 := s11.trans (Same.new (o := .lst ((sortS ps).map V.str)) np2)
    refine ⟨_, _, dp_strs (Same.new np2 _ _ hpl11), dp_strs upd_same, shaped_strs wop, shaped_strs wop, ?_⟩
    rw [eqv_strs, decide_eq_true rfl]
    generalize hG12 : upd H11 p2 (.lst ((sortS ps).map V.str)) = G12 at *
    (repeat (first | refine ⟨_, rfl, ?_⟩ | refine ⟨rfl, ?_⟩ | refine ⟨_, _, rfl, rfl, ?_⟩ | refine iteT ?_ | refine iteF ?_ | refine ⟨(by show (0 : Int) < _; omega), ?_⟩ | refine ⟨(⟨by omega, by omega⟩ : CDiv _ _), ?_⟩ | refine ⟨(⟨by decide, by decide, by decide⟩ : CPow _ _), ?_⟩ | refine ⟨(.inl ⟨by omega, by omega⟩ : CMul _ _), ?_⟩ | refine ⟨(.inr ⟨by omega, by omega⟩ : CMul _ _), ?_⟩ | refine Or.inl ⟨_, rfl, ?_⟩ | refine Or.inr ⟨_, rfl, ?_⟩ | refine ⟨_, _, _, _, true, rfl, .ty _, .base (.str _), kit_ty (by decide +kernel), ?_⟩ | refine ⟨_, _, rfl, ⟨by rw [sizeLine_eq]; omega, rfl⟩, ?_⟩ | refine ⟨_, _, rfl, .inl ⟨_, SqL.of (by assumption), rfl⟩, ?_⟩ | refine ⟨_, _, rfl, .inr ⟨_, SqT.of (by assumption), rfl⟩, ?_⟩))
    refine ⟨x, dx, _, rfl, s12 _ _ w1', nolk _ (by decide +kernel) (by decide +kernel), ?_⟩
    (repeat (first | refine ⟨_, rfl, ?_⟩ | refine ⟨rfl, ?_⟩ | refine ⟨_, _, rfl, rfl, ?_⟩ | refine iteT ?_ | refine iteF ?_ | refine ⟨(by show (0 : Int) < _; omega), ?_⟩ | refine ⟨(⟨by omega, by omega⟩ : CDiv _ _), ?_⟩ | refine ⟨(⟨by decide, by decide, by decide⟩ : CPow _ _), ?_⟩ | refine ⟨(.inl ⟨by omega, by omega⟩ : CMul _ _), ?_⟩ | refine ⟨(.inr ⟨by omega, by omega⟩ : CMul _ _), ?_⟩ | refine Or.inl ⟨_, rfl, ?_⟩ | refine Or.inr ⟨_, rfl, ?_⟩ | refine ⟨_, _, _, _, true, rfl, .ty _, .base (.str _), kit_ty (by decide +kernel), ?_⟩ | refine ⟨_, _, rfl, ⟨by rw [sizeLine_eq]; omega, rfl⟩, ?_⟩ | refine ⟨_, _, rfl, .inl ⟨_, SqL.of (by assumption), rfl⟩, ?_⟩ | refine ⟨_, _, rfl, .inr ⟨_, SqT.of (by assumption), rfl⟩, ?_⟩))
    refine ⟨x, _, _, rfl, hX.same s12, fun pt H13 kvt npt s13 hkt hpt => ?_⟩
    have s1013 := s12.trans s13
    have oku : ∀ t ∈ rs.map (fun r => ((r.1, srt2 r.2.1 r.2.2) : Tr)), OkT t := fun t ht => by
      obtain ⟨r, hr, rfl⟩ := List.mem_map.mp ht
      have q : ∀ z, z = (srt2 r.2.1 r.2.2).1 ∨ z = (srt2 r.2.1 r.2.2).2 → PyData.strOk z = true := fun z hz => by
        rcases srt2_mem hz with rfl | rfl
        · exact (hso r hr).1
        · exact (hso r hr).2
      exact ⟨q _ (.inl rfl), q _ (.inr rfl)⟩
    have eqT : eqKD ((webTies (rs.map rawE)).map tieD) ((rs.map fun r => ((r.1, srt2 r.2.1 r.2.2) : Tr)).map tieD) = true := eqKD_mem (by rw [webTies_len, List.length_map]) (by rw [hkd]; exact nd) fun t ht => by
      obtain ⟨r, hr, rfl⟩ := webTies_mem nd ht
      exact List.mem_map.mpr ⟨r, hr, rfl⟩
    (repeat (first | refine ⟨_, rfl, ?_⟩ | refine ⟨rfl, ?_⟩ | refine ⟨_, _, rfl, rfl, ?_⟩ | refine iteT ?_ | refine iteF ?_ | refine ⟨(by show (0 : Int) < _; omega), ?_⟩ | refine ⟨(⟨by omega, by omega⟩ : CDiv _ _), ?_⟩ | refine ⟨(⟨by decide, by decide, by decide⟩ : CPow _ _), ?_⟩ | refine ⟨(.inl ⟨by omega, by omega⟩ : CMul _ _), ?_⟩ | refine ⟨(.inr ⟨by omega, by omega⟩ : CMul _ _), ?_⟩ | refine Or.inl ⟨_, rfl, ?_⟩ | refine Or.inr ⟨_, rfl, ?_⟩ | refine ⟨_, _, _, _, true, rfl, .ty _, .base (.str _), kit_ty (by decide +kernel), ?_⟩ | refine ⟨_, _, rfl, ⟨by rw [sizeLine_eq]; omega, rfl⟩, ?_⟩ | refine ⟨_, _, rfl, .inl ⟨_, SqL.of (by assumption), rfl⟩, ?_⟩ | refine ⟨_, _, rfl, .inr ⟨_, SqT.of (by assumption), rfl⟩, ?_⟩))
    refine ⟨_, _, dkd_of hkt hpt wot, dkd_of (s1013 _ _ edu10) (tup2_mono (fun t xs q => s1013 _ _ q) pkd10) oku, ?_⟩
    rw [eqT]
    (repeat (first | refine ⟨_, rfl, ?_⟩ | refine ⟨rfl, ?_⟩ | refine ⟨_, _, rfl, rfl, ?_⟩ | refine iteT ?_ | refine iteF ?_ | refine ⟨(by show (0 : Int) < _; omega), ?_⟩ | refine ⟨(⟨by omega, by omega⟩ : CDiv _ _), ?_⟩ | refine ⟨(⟨by decide, by decide, by decide⟩ : CPow _ _), ?_⟩ | refine ⟨(.inl ⟨by omega, by omega⟩ : CMul _ _), ?_⟩ | refine ⟨(.inr ⟨by omega, by omega⟩ : CMul _ _), ?_⟩ | refine Or.inl ⟨_, rfl, ?_⟩ | refine Or.inr ⟨_, rfl, ?_⟩ | refine ⟨_, _, _, _, true, rfl, .ty _, .base (.str _), kit_ty (by decide +kernel), ?_⟩ | refine ⟨_, _, rfl, ⟨by rw [sizeLine_eq]; omega, rfl⟩, ?_⟩ | refine ⟨_, _, rfl, .inl ⟨_, SqL.of (by assumption), rfl⟩, ?_⟩ | refine ⟨_, _, rfl, .inr ⟨_, SqT.of (by assumption), rfl⟩, ?_⟩))
    refine ⟨d, _, s1013 _ _ hd10, trivial, fun od2 => ?_⟩
    refine ⟨_, rfl, d, od2, rfl, .inl ⟨kvs0, upd_same, fun D3 nD3 => ?_⟩⟩
    have upL : ∀ t o, (∀ u, o ≠ HO.dK u) → H10 t = some o → upd H13 d (.frz od2 (.dK kvs0)) t = some o := fun t o hno h => by
      rw [upd_ne (fun e => by rw [e, hd10] at h; exact hno _ (Option.some.inj h).symm)]
      exact s1013 _ _ h
    have upLd : ∀ t o, t ≠ d → H10 t = some o → upd H13 d (.frz od2 (.dK kvs0)) t = some o := fun t o hno h => by
      rw [upd_ne hno]
      exact s1013 _ _ h
    have hXL : WebR A (upd H13 d (.frz od2 (.dK kvs0))) x (sortS ps) (webTies (rs.map rawE)) := ⟨⟨dx, lp, td, kvw, upLd _ _ xd w1', upL _ _ (by intros; simp) w2', upLd _ _ tdd w3', tup2_mono (fun t xs q => upL _ _ (by intros; simp) q) w4'⟩, wnd, wop, wot, wlp, wlt⟩
    have hpL : Paired (Tup2 (upd H13 d (.frz od2 (.dK kvs0)))) kvs0 rs := tup2_mono (fun t xs q => upL _ _ (by intros; simp) q) hp10
    have dud : du ≠ d := fun e => by rw [e, s5 _ _ hd4] at ndu; cases ndu
    have pkdL := tup2_mono (fun t xs q => upL _ _ (by intros; simp) q) pkd10
    refine lc_it walk_keys (fun i H' => Same (upd H13 d (.frz od2 (.dK kvs0))) H' ∧ H' D3 = some (.lst ((List.replicate i true).map V.bl)))
      ⟨Same.new nD3, upd_same⟩ (fun _ H' _ ⟨q, _⟩ => q _ _ upd_same) ?_ ?_
    · rintro i v H2 H3 hi ⟨sL, hD⟩ ⟨rfl, kk, u, hku, rfl⟩
      obtain ⟨r, hr, e1, _⟩ := at2 hpL hku
      have e1 : kk = Sum.inr r.1 := e1
      subst e1
      have hrm : r ∈ rs := List.mem_of_getElem? hr
      refine ⟨rfl, ?_⟩
      (repeat (first | refine ⟨_, rfl, ?_⟩ | refine ⟨rfl, ?_⟩ | refine ⟨_, _, rfl, rfl, ?_⟩ | refine iteT ?_ | refine iteF ?_ | refine ⟨(by show (0 : Int) < _; omega), ?_⟩ | refine ⟨(⟨by omega, by omega⟩ : CDiv _ _), ?_⟩ | refine ⟨(⟨by decide, by decide, by decide⟩ : CPow _ _), ?_⟩ | refine ⟨(.inl ⟨by omega, by omega⟩ : CMul _ _), ?_⟩ | refine ⟨(.inr ⟨by omega, by omega⟩ : CMul _ _), ?_⟩ | refine Or.inl ⟨_, rfl, ?_⟩ | refine Or.inr ⟨_, rfl, ?_⟩ | refine ⟨_, _, _, _, true, rfl, .ty _, .base (.str _), kit_ty (by decide +kernel), ?_⟩ | refine ⟨_, _, rfl, ⟨by rw [sizeLine_eq]; omega, rfl⟩, ?_⟩ | refine ⟨_, _, rfl, .inl ⟨_, SqL.of (by assumption), rfl⟩, ?_⟩ | refine ⟨_, _, rfl, .inr ⟨_, SqT.of (by assumption), rfl⟩, ?_⟩))
      refine ⟨x, dx, _, rfl, sL _ _ (upLd _ _ xd w1'), nolk _ (by decide +kernel) (by decide +kernel), ?_⟩
      (repeat (first | refine ⟨_, rfl, ?_⟩ | refine ⟨rfl, ?_⟩ | refine ⟨_, _, rfl, rfl, ?_⟩ | refine iteT ?_ | refine iteF ?_ | refine ⟨(by show (0 : Int) < _; omega), ?_⟩ | refine ⟨(⟨by omega, by omega⟩ : CDiv _ _), ?_⟩ | refine ⟨(⟨by decide, by decide, by decide⟩ : CPow _ _), ?_⟩ | refine ⟨(.inl ⟨by omega, by omega⟩ : CMul _ _), ?_⟩ | refine ⟨(.inr ⟨by omega, by omega⟩ : CMul _ _), ?_⟩ | refine Or.inl ⟨_, rfl, ?_⟩ | refine Or.inr ⟨_, rfl, ?_⟩ | refine ⟨_, _, _, _, true, rfl, .ty _, .base (.str _), kit_ty (by decide +kernel), ?_⟩ | refine ⟨_, _, rfl, ⟨by rw [sizeLine_eq]; omega, rfl⟩, ?_⟩ | refine ⟨_, _, rfl, .inl ⟨_, SqL.of (by assumption), rfl⟩, ?_⟩ | refine ⟨_, _, rfl, .inr ⟨_, SqT.of (by assumption), rfl⟩, ?_⟩))
      refine ⟨x, r.1, _, _, rfl, hXL.same sL, fun e t hm ht => ?_, fun hn => absurd (List.mem_map.mpr ⟨_, mem_webTies nd hrm, rfl⟩) hn⟩
      have ee := key_uniq wnd hm (mem_webTies nd hrm)
      subst ee
      have hmd : ((r.1, srt2 r.2.1 r.2.2) : Tr) ∈ rs.map (fun r => ((r.1, srt2 r.2.1 r.2.2) : Tr)) := List.mem_map.mpr ⟨r, hrm, rfl⟩
      obtain ⟨t2, hg2, ht2⟩ := get2' pkdL (by rw [hkd]; exact nd) hmd
      refine ⟨_, rfl, _, rfl, du, .ref t2, rfl, dget_s (.inl (sL _ _ (upLd _ _ dud edu10))) hg2, ?_⟩
      have oo := oku _ hmd
      refine ⟨_, _, dp_tup2 ht, dp_tup2 (sL _ _ ht2), shaped_two oo.1 oo.2, shaped_two oo.1 oo.2, ?_⟩
      rw [eqv_tup2 (srt2 r.2.1 r.2.2) (srt2 r.2.1 r.2.2), decide_eq_true rfl]
      refine ⟨_, hD, small1000 (by rw [List.length_map, List.length_replicate]; omega), Same.put sL nD3, ?_⟩
      rw [upd_same, replicate_snoc]
    rintro H14 ⟨s14L, hD3⟩
    have s15 := lock_same (s1013 _ _ hd10) s14L
    have dD3 : d ≠ D3 := fun e => by rw [← e, upd_same] at nD3; cases nD3
    refine ⟨s14L _ _ upd_same, ?_⟩
    refine ⟨D3, _, rfl, SqL.of (by rw [upd_ne dD3.symm]; exact hD3), ?_⟩
    rw [all_replicate]
    have s1015 := s1013.trans s15
    generalize hG15 : upd H14 d (.dK kvs0) = G15 at *
    obtain ⟨⟨dy, lpy, tdy, kvy, y1, y2, y3, y4⟩, _⟩ := id hY
    (repeat (first | refine ⟨_, rfl, ?_⟩ | refine ⟨rfl, ?_⟩ | refine ⟨_, _, rfl, rfl, ?_⟩ | refine iteT ?_ | refine iteF ?_ | refine ⟨(by show (0 : Int) < _; omega), ?_⟩ | refine ⟨(⟨by omega, by omega⟩ : CDiv _ _), ?_⟩ | refine ⟨(⟨by decide, by decide, by decide⟩ : CPow _ _), ?_⟩ | refine ⟨(.inl ⟨by omega, by omega⟩ : CMul _ _), ?_⟩ | refine ⟨(.inr ⟨by omega, by omega⟩ : CMul _ _), ?_⟩ | refine Or.inl ⟨_, rfl, ?_⟩ | refine Or.inr ⟨_, rfl, ?_⟩ | refine ⟨_, _, _, _, true, rfl, .ty _, .base (.str _), kit_ty (by decide +kernel), ?_⟩ | refine ⟨_, _, rfl, ⟨by rw [sizeLine_eq]; omega, rfl⟩, ?_⟩ | refine ⟨_, _, rfl, .inl ⟨_, SqL.of (by assumption), rfl⟩, ?_⟩ | refine ⟨_, _, rfl, .inr ⟨_, SqT.of (by assumption), rfl⟩, ?_⟩))
    refine ⟨x, y, dx, dy, _, _, rfl, rfl, s1015 _ _ w1', s1015 _ _ y1, x, y, _, _, _, _, rfl, hX.same s1015, hY.same s1015, fun b _ _ hb => ⟨b, rfl, ?_⟩⟩
    have hb := hb rfl rfl
    subst hb
    (repeat (first | refine ⟨_, rfl, ?_⟩ | refine ⟨rfl, ?_⟩ | refine ⟨_, _, rfl, rfl, ?_⟩ | refine iteT ?_ | refine iteF ?_ | refine ⟨(by show (0 : Int) < _; omega), ?_⟩ | refine ⟨(⟨by omega, by omega⟩ : CDiv _ _), ?_⟩ | refine ⟨(⟨by decide, by decide, by decide⟩ : CPow _ _), ?_⟩ | refine ⟨(.inl ⟨by omega, by omega⟩ : CMul _ _), ?_⟩ | refine ⟨(.inr ⟨by omega, by omega⟩ : CMul _ _), ?_⟩ | refine Or.inl ⟨_, rfl, ?_⟩ | refine Or.inr ⟨_, rfl, ?_⟩ | refine ⟨_, _, _, _, true, rfl, .ty _, .base (.str _), kit_ty (by decide +kernel), ?_⟩ | refine ⟨_, _, rfl, ⟨by rw [sizeLine_eq]; omega, rfl⟩, ?_⟩ | refine ⟨_, _, rfl, .inl ⟨_, SqL.of (by assumption), rfl⟩, ?_⟩ | refine ⟨_, _, rfl, .inr ⟨_, SqT.of (by assumption), rfl⟩, ?_⟩))
    refine ⟨x, y, dx, dy, _, _, rfl, rfl, s1015 _ _ w1', s1015 _ _ y1, x, y, _, _, _, _, rfl, hX.same s1015, hY.same s1015, fun b _ _ hb => ⟨b, rfl, ?_⟩⟩
    have hb := hb rfl rfl
    subst hb
    have keyno : ∀ n : Str, (∀ r ∈ rs, r.1 ≠ n) → n ∉ (webTies (rs.map rawE)).map (·.1) := fun n h hm => by
      rw [webTies_keys, mem_sortS, raw_keys] at hm
      obtain ⟨r, hr, e⟩ := List.mem_map.mp hm
      exact h r hr e
    (repeat (first | refine ⟨_, rfl, ?_⟩ | refine ⟨rfl, ?_⟩ | refine ⟨_, _, rfl, rfl, ?_⟩ | refine iteT ?_ | refine iteF ?_ | refine ⟨(by show (0 : Int) < _; omega), ?_⟩ | refine ⟨(⟨by omega, by omega⟩ : CDiv _ _), ?_⟩ | refine ⟨(⟨by decide, by decide, by decide⟩ : CPow _ _), ?_⟩ | refine ⟨(.inl ⟨by omega, by omega⟩ : CMul _ _), ?_⟩ | refine ⟨(.inr ⟨by omega, by omega⟩ : CMul _ _), ?_⟩ | refine Or.inl ⟨_, rfl, ?_⟩ | refine Or.inr ⟨_, rfl, ?_⟩ | refine ⟨_, _, _, _, true, rfl, .ty _, .base (.str _), kit_ty (by decide +kernel), ?_⟩ | refine ⟨_, _, rfl, ⟨by rw [sizeLine_eq]; omega, rfl⟩, ?_⟩ | refine ⟨_, _, rfl, .inl ⟨_, SqL.of (by assumption), rfl⟩, ?_⟩ | refine ⟨_, _, rfl, .inr ⟨_, SqT.of (by assumption), rfl⟩, ?_⟩))
    refine ⟨x, _, _, _, rfl, hX.same s1015, keyno _ (fun r hr e => (hkey r hr).2.2 (by rw [e]; decide +kernel)), fun H16 s16' => ?_⟩
    (repeat (first | refine ⟨_, rfl, ?_⟩ | refine ⟨rfl, ?_⟩ | refine ⟨_, _, rfl, rfl, ?_⟩ | refine iteT ?_ | refine iteF ?_ | refine ⟨(by show (0 : Int) < _; omega), ?_⟩ | refine ⟨(⟨by omega, by omega⟩ : CDiv _ _), ?_⟩ | refine ⟨(⟨by decide, by decide, by decide⟩ : CPow _ _), ?_⟩ | refine ⟨(.inl ⟨by omega, by omega⟩ : CMul _ _), ?_⟩ | refine ⟨(.inr ⟨by omega, by omega⟩ : CMul _ _), ?_⟩ | refine Or.inl ⟨_, rfl, ?_⟩ | refine Or.inr ⟨_, rfl, ?_⟩ | refine ⟨_, _, _, _, true, rfl, .ty _, .base (.str _), kit_ty (by decide +kernel), ?_⟩ | refine ⟨_, _, rfl, ⟨by rw [sizeLine_eq]; omega, rfl⟩, ?_⟩ | refine ⟨_, _, rfl, .inl ⟨_, SqL.of (by assumption), rfl⟩, ?_⟩ | refine ⟨_, _, rfl, .inr ⟨_, SqT.of (by assumption), rfl⟩, ?_⟩))
    refine ⟨x, _, _, _, rfl, (hX.same s1015).same s16', keyno _ (fun r hr e => by have h := (hkey r hr).1; rw [e] at h; exact absurd h (by decide +kernel)), fun H17 s17 => ?_⟩
    have s1017 := (s1015.trans s16').trans s17
    (repeat (first | refine ⟨_, rfl, ?_⟩ | refine ⟨rfl, ?_⟩ | refine ⟨_, _, rfl, rfl, ?_⟩ | refine iteT ?_ | refine iteF ?_ | refine ⟨(by show (0 : Int) < _; omega), ?_⟩ | refine ⟨(⟨by omega, by omega⟩ : CDiv _ _), ?_⟩ | refine ⟨(⟨by decide, by decide, by decide⟩ : CPow _ _), ?_⟩ | refine ⟨(.inl ⟨by omega, by omega⟩ : CMul _ _), ?_⟩ | refine ⟨(.inr ⟨by omega, by omega⟩ : CMul _ _), ?_⟩ | refine Or.inl ⟨_, rfl, ?_⟩ | refine Or.inr ⟨_, rfl, ?_⟩ | refine ⟨_, _, _, _, true, rfl, .ty _, .base (.str _), kit_ty (by decide +kernel), ?_⟩ | refine ⟨_, _, rfl, ⟨by rw [sizeLine_eq]; omega, rfl⟩, ?_⟩ | refine ⟨_, _, rfl, .inl ⟨_, SqL.of (by assumption), rfl⟩, ?_⟩ | refine ⟨_, _, rfl, .inr ⟨_, SqT.of (by assumption), rfl⟩, ?_⟩))
    have ha17 := s1017 _ _ ha10
    have hd17 := s1017 _ _ hd10
    refine ⟨.inl ⟨rfl, _, SqL.of ha17⟩, a, _, rfl, rfl, ha17, ?_⟩
    have hd17' : upd H17 a (.lst []) d = some (.dK kvs0) := by
      rw [upd_ne ad.symm]
      exact hd17
    (repeat (first | refine ⟨_, rfl, ?_⟩ | refine ⟨rfl, ?_⟩ | refine ⟨_, _, rfl, rfl, ?_⟩ | refine iteT ?_ | refine iteF ?_ | refine ⟨(by show (0 : Int) < _; omega), ?_⟩ | refine ⟨(⟨by omega, by omega⟩ : CDiv _ _), ?_⟩ | refine ⟨(⟨by decide, by decide, by decide⟩ : CPow _ _), ?_⟩ | refine ⟨(.inl ⟨by omega, by omega⟩ : CMul _ _), ?_⟩ | refine ⟨(.inr ⟨by omega, by omega⟩ : CMul _ _), ?_⟩ | refine Or.inl ⟨_, rfl, ?_⟩ | refine Or.inr ⟨_, rfl, ?_⟩ | refine ⟨_, _, _, _, true, rfl, .ty _, .base (.str _), kit_ty (by decide +kernel), ?_⟩ | refine ⟨_, _, rfl, ⟨by rw [sizeLine_eq]; omega, rfl⟩, ?_⟩ | refine ⟨_, _, rfl, .inl ⟨_, SqL.of (by assumption), rfl⟩, ?_⟩ | refine ⟨_, _, rfl, .inr ⟨_, SqT.of (by assumption), rfl⟩, ?_⟩))
    refine ⟨.inr (.inr (.inl ⟨rfl, .inl ⟨_, hd17'⟩⟩)), d, _, rfl, rfl, hd17', ?_⟩
    have tr : ∀ t o, t ≠ a → t ≠ d → H10 t = some o → upd (upd H17 a (.lst [])) d (.dK []) t = some o := fun t o h1 h2 h => by
      rw [upd_ne h2, upd_ne h1]
      exact s1017 _ _ h
    have trT : ∀ t xs, H10 t = some (.tup xs) → upd (upd H17 a (.lst [])) d (.dK []) t = some (.tup xs) := fun t xs h => tr _ _ (fun e => by rw [e, ha10] at h; cases h) (fun e => by rw [e, hd10] at h; cases h) h
    have fr18 : FrW wl a d H (upd (upd H17 a (.lst [])) d (.dK [])) := fun b o n1 n2 n3 h => tr b o n2 n3 (kH.keep b o n1 h)
    generalize hG18 : upd (upd H17 a (.lst [])) d (.dK []) = G18 at *
    have lpd : lp ≠ d := fun e => by rw [e, hd10] at w2'; cases w2'
    have kpa : kp ≠ a := fun e => by rw [e, ha] at nkp; cases nkp
    have kpd : kp ≠ d := fun e => by rw [e, hd0] at nkp; cases nkp
    have hla : hl ≠ a := fun e => by rw [e, s1 _ _ ha] at nhl; cases nhl
    have hld : hl ≠ d := fun e => by rw [e, s1 _ _ hd0] at nhl; cases nhl
    have dua : du ≠ a := fun e => by rw [e, s5 _ _ (s14 _ _ ha)] at ndu; cases ndu
    have hX18 : WebR A G18 x (sortS ps) (webTies (rs.map rawE)) := ⟨⟨dx, lp, td, kvw, tr _ _ xa xd w1', tr _ _ lpa lpd w2', tr _ _ tda tdd w3', tup2_mono trT w4'⟩, wnd, wop, wot, wlp, wlt⟩
    have ekp18 := tr _ _ kpa kpd ekp10
    have ehl18 := tr _ _ hla hld ehl10
    have edu18 := tr _ _ dua dud edu10
    have pkd18 := tup2_mono trT pkd10
    have hp18 : Paired (Tup2 G18) kvs0 rs := tup2_mono trT hp10
    have w18 := tr _ _ xa xd w1'
    (repeat (first | refine ⟨_, rfl, ?_⟩ | refine ⟨rfl, ?_⟩ | refine ⟨_, _, rfl, rfl, ?_⟩ | refine iteT ?_ | refine iteF ?_ | refine ⟨(by show (0 : Int) < _; omega), ?_⟩ | refine ⟨(⟨by omega, by omega⟩ : CDiv _ _), ?_⟩ | refine ⟨(⟨by decide, by decide, by decide⟩ : CPow _ _), ?_⟩ | refine ⟨(.inl ⟨by omega, by omega⟩ : CMul _ _), ?_⟩ | refine ⟨(.inr ⟨by omega, by omega⟩ : CMul _ _), ?_⟩ | refine Or.inl ⟨_, rfl, ?_⟩ | refine Or.inr ⟨_, rfl, ?_⟩ | refine ⟨_, _, _, _, true, rfl, .ty _, .base (.str _), kit_ty (by decide +kernel), ?_⟩ | refine ⟨_, _, rfl, ⟨by rw [sizeLine_eq]; omega, rfl⟩, ?_⟩ | refine ⟨_, _, rfl, .inl ⟨_, SqL.of (by assumption), rfl⟩, ?_⟩ | refine ⟨_, _, rfl, .inr ⟨_, SqT.of (by assumption), rfl⟩, ?_⟩))
    refine ⟨x, dx, _, rfl, w18, nolk _ (by decide +kernel) (by decide +kernel), ?_⟩
    (repeat (first | refine ⟨_, rfl, ?_⟩ | refine ⟨rfl, ?_⟩ | refine ⟨_, _, rfl, rfl, ?_⟩ | refine iteT ?_ | refine iteF ?_ | refine ⟨(by show (0 : Int) < _; omega), ?_⟩ | refine ⟨(⟨by omega, by omega⟩ : CDiv _ _), ?_⟩ | refine ⟨(⟨by decide, by decide, by decide⟩ : CPow _ _), ?_⟩ | refine ⟨(.inl ⟨by omega, by omega⟩ : CMul _ _), ?_⟩ | refine ⟨(.inr ⟨by omega, by omega⟩ : CMul _ _), ?_⟩ | refine Or.inl ⟨_, rfl, ?_⟩ | refine Or.inr ⟨_, rfl, ?_⟩ | refine ⟨_, _, _, _, true, rfl, .ty _, .base (.str _), kit_ty (by decide +kernel), ?_⟩ | refine ⟨_, _, rfl, ⟨by rw [sizeLine_eq]; omega, rfl⟩, ?_⟩ | refine ⟨_, _, rfl, .inl ⟨_, SqL.of (by assumption), rfl⟩, ?_⟩ | refine ⟨_, _, rfl, .inr ⟨_, SqT.of (by assumption), rfl⟩, ?_⟩))
    refine ⟨x, _, _, rfl, hX18, fun pm1 H19 npm1 s19 hpm1 => ?_⟩
    refine ⟨.inl ⟨rfl, _, SqL.of hpm1⟩, pm1, _, _, rfl, rfl, hpm1, small1000 (by rw [List.length_map]; omega), ?_⟩
    have s1819 := Same.put (o := .lst ((sortS ps).map V.str ++ [V.str "more"])) s19 npm1
    generalize hG19 : upd H19 pm1 (.lst ((sortS ps).map V.str ++ [V.str "more"])) = G19 at *
    (repeat (first | refine ⟨_, rfl, ?_⟩ | refine ⟨rfl, ?_⟩ | refine ⟨_, _, rfl, rfl, ?_⟩ | refine iteT ?_ | refine iteF ?_ | refine ⟨(by show (0 : Int) < _; omega), ?_⟩ | refine ⟨(⟨by omega, by omega⟩ : CDiv _ _), ?_⟩ | refine ⟨(⟨by decide, by decide, by decide⟩ : CPow _ _), ?_⟩ | refine ⟨(.inl ⟨by omega, by omega⟩ : CMul _ _), ?_⟩ | refine ⟨(.inr ⟨by omega, by omega⟩ : CMul _ _), ?_⟩ | refine Or.inl ⟨_, rfl, ?_⟩ | refine Or.inr ⟨_, rfl, ?_⟩ | refine ⟨_, _, _, _, true, rfl, .ty _, .base (.str _), kit_ty (by decide +kernel), ?_⟩ | refine ⟨_, _, rfl, ⟨by rw [sizeLine_eq]; omega, rfl⟩, ?_⟩ | refine ⟨_, _, rfl, .inl ⟨_, SqL.of (by assumption), rfl⟩, ?_⟩ | refine ⟨_, _, rfl, .inr ⟨_, SqT.of (by assumption), rfl⟩, ?_⟩))
    refine ⟨x, dx, _, rfl, s1819 _ _ w18, nolk _ (by decide +kernel) (by decide +kernel), ?_⟩
    (repeat (first | refine ⟨_, rfl, ?_⟩ | refine ⟨rfl, ?_⟩ | refine ⟨_, _, rfl, rfl, ?_⟩ | refine iteT ?_ | refine iteF ?_ | refine ⟨(by show (0 : Int) < _; omega), ?_⟩ | refine ⟨(⟨by omega, by omega⟩ : CDiv _ _), ?_⟩ | refine ⟨(⟨by decide, by decide, by decide⟩ : CPow _ _), ?_⟩ | refine ⟨(.inl ⟨by omega, by omega⟩ : CMul _ _), ?_⟩ | refine ⟨(.inr ⟨by omega, by omega⟩ : CMul _ _), ?_⟩ | refine Or.inl ⟨_, rfl, ?_⟩ | refine Or.inr ⟨_, rfl, ?_⟩ | refine ⟨_, _, _, _, true, rfl, .ty _, .base (.str _), kit_ty (by decide +kernel), ?_⟩ | refine ⟨_, _, rfl, ⟨by rw [sizeLine_eq]; omega, rfl⟩, ?_⟩ | refine ⟨_, _, rfl, .inl ⟨_, SqL.of (by assumption), rfl⟩, ?_⟩ | refine ⟨_, _, rfl, .inr ⟨_, SqT.of (by assumption), rfl⟩, ?_⟩))
    refine ⟨x, _, _, rfl, hX18.same s1819, fun pt1 H20 kvt1 npt1 s20 hkt1 hpt1 => ?_⟩
    refine ⟨.inr (.inr (.inl ⟨rfl, .inl ⟨_, hkt1⟩⟩)), pt1, _, rfl, rfl, hkt1, ?_⟩
    have s1820 := s1819.trans (Same.put (o := .dK []) s20 npt1)
    generalize hG20 : upd H20 pt1 (.dK []) = G20 at *
    (repeat (first | refine ⟨_, rfl, ?_⟩ | refine ⟨rfl, ?_⟩ | refine ⟨_, _, rfl, rfl, ?_⟩ | refine iteT ?_ | refine iteF ?_ | refine ⟨(by show (0 : Int) < _; omega), ?_⟩ | refine ⟨(⟨by omega, by omega⟩ : CDiv _ _), ?_⟩ | refine ⟨(⟨by decide, by decide, by decide⟩ : CPow _ _), ?_⟩ | refine ⟨(.inl ⟨by omega, by omega⟩ : CMul _ _), ?_⟩ | refine ⟨(.inr ⟨by omega, by omega⟩ : CMul _ _), ?_⟩ | refine Or.inl ⟨_, rfl, ?_⟩ | refine Or.inr ⟨_, rfl, ?_⟩ | refine ⟨_, _, _, _, true, rfl, .ty _, .base (.str _), kit_ty (by decide +kernel), ?_⟩ | refine ⟨_, _, rfl, ⟨by rw [sizeLine_eq]; omega, rfl⟩, ?_⟩ | refine ⟨_, _, rfl, .inl ⟨_, SqL.of (by assumption), rfl⟩, ?_⟩ | refine ⟨_, _, rfl, .inr ⟨_, SqT.of (by assumption), rfl⟩, ?_⟩))
    refine ⟨x, dx, _, rfl, s1820 _ _ w18, nolk _ (by decide +kernel) (by decide +kernel), ?_⟩
    (repeat (first | refine ⟨_, rfl, ?_⟩ | refine ⟨rfl, ?_⟩ | refine ⟨_, _, rfl, rfl, ?_⟩ | refine iteT ?_ | refine iteF ?_ | refine ⟨(by show (0 : Int) < _; omega), ?_⟩ | refine ⟨(⟨by omega, by omega⟩ : CDiv _ _), ?_⟩ | refine ⟨(⟨by decide, by decide, by decide⟩ : CPow _ _), ?_⟩ | refine ⟨(.inl ⟨by omega, by omega⟩ : CMul _ _), ?_⟩ | refine ⟨(.inr ⟨by omega, by omega⟩ : CMul _ _), ?_⟩ | refine Or.inl ⟨_, rfl, ?_⟩ | refine Or.inr ⟨_, rfl, ?_⟩ | refine ⟨_, _, _, _, true, rfl, .ty _, .base (.str _), kit_ty (by decide +kernel), ?_⟩ | refine ⟨_, _, rfl, ⟨by rw [sizeLine_eq]; omega, rfl⟩, ?_⟩ | refine ⟨_, _, rfl, .inl ⟨_, SqL.of (by assumption), rfl⟩, ?_⟩ | refine ⟨_, _, rfl, .inr ⟨_, SqT.of (by assumption), rfl⟩, ?_⟩))
    refine ⟨x, _, _, rfl, hX18.same s1820, fun pl2 H21 npl2 s21 hpl2 => ?_⟩
    refine ⟨_, rfl, kp, ps, rfl, SqL.of (s21 _ _ (s1820 _ _ ekp18)), by omega, fun ys p3 pm so np3 => ?_⟩
    rw [sortS_eq pm so]
    have s1822 := (s1820.trans s21).trans (Same.new (o := .lst ((sortS ps).map V.str)) np3)
    refine ⟨_, _, dp_strs (Same.new np3 _ _ hpl2), dp_strs upd_same, shaped_strs wop, shaped_strs wop, ?_⟩
    rw [eqv_strs, decide_eq_true rfl]
    generalize hG22 : upd H21 p3 (.lst ((sortS ps).map V.str)) = G22 at *
    (repeat (first | refine ⟨_, rfl, ?_⟩ | refine ⟨rfl, ?_⟩ | refine ⟨_, _, rfl, rfl, ?_⟩ | refine iteT ?_ | refine iteF ?_ | refine ⟨(by show (0 : Int) < _; omega), ?_⟩ | refine ⟨(⟨by omega, by omega⟩ : CDiv _ _), ?_⟩ | refine ⟨(⟨by decide, by decide, by decide⟩ : CPow _ _), ?_⟩ | refine ⟨(.inl ⟨by omega, by omega⟩ : CMul _ _), ?_⟩ | refine ⟨(.inr ⟨by omega, by omega⟩ : CMul _ _), ?_⟩ | refine Or.inl ⟨_, rfl, ?_⟩ | refine Or.inr ⟨_, rfl, ?_⟩ | refine ⟨_, _, _, _, true, rfl, .ty _, .base (.str _), kit_ty (by decide +kernel), ?_⟩ | refine ⟨_, _, rfl, ⟨by rw [sizeLine_eq]; omega, rfl⟩, ?_⟩ | refine ⟨_, _, rfl, .inl ⟨_, SqL.of (by assumption), rfl⟩, ?_⟩ | refine ⟨_, _, rfl, .inr ⟨_, SqT.of (by assumption), rfl⟩, ?_⟩))
    refine ⟨x, dx, _, rfl, s1822 _ _ w18, nolk _ (by decide +kernel) (by decide +kernel), ?_⟩
    (repeat (first | refine ⟨_, rfl, ?_⟩ | refine ⟨rfl, ?_⟩ | refine ⟨_, _, rfl, rfl, ?_⟩ | refine iteT ?_ | refine iteF ?_ | refine ⟨(by show (0 : Int) < _; omega), ?_⟩ | refine ⟨(⟨by omega, by omega⟩ : CDiv _ _), ?_⟩ | refine ⟨(⟨by decide, by decide, by decide⟩ : CPow _ _), ?_⟩ | refine ⟨(.inl ⟨by omega, by omega⟩ : CMul _ _), ?_⟩ | refine ⟨(.inr ⟨by omega, by omega⟩ : CMul _ _), ?_⟩ | refine Or.inl ⟨_, rfl, ?_⟩ | refine Or.inr ⟨_, rfl, ?_⟩ | refine ⟨_, _, _, _, true, rfl, .ty _, .base (.str _), kit_ty (by decide +kernel), ?_⟩ | refine ⟨_, _, rfl, ⟨by rw [sizeLine_eq]; omega, rfl⟩, ?_⟩ | refine ⟨_, _, rfl, .inl ⟨_, SqL.of (by assumption), rfl⟩, ?_⟩ | refine ⟨_, _, rfl, .inr ⟨_, SqT.of (by assumption), rfl⟩, ?_⟩))
    refine ⟨x, _, _, rfl, hX18.same s1822, fun pt2 H23 kvt2 npt2 s23 hkt2 hpt2 => ?_⟩
    have s1823 := s1822.trans s23
    (repeat (first | refine ⟨_, rfl, ?_⟩ | refine ⟨rfl, ?_⟩ | refine ⟨_, _, rfl, rfl, ?_⟩ | refine iteT ?_ | refine iteF ?_ | refine ⟨(by show (0 : Int) < _; omega), ?_⟩ | refine ⟨(⟨by omega, by omega⟩ : CDiv _ _), ?_⟩ | refine ⟨(⟨by decide, by decide, by decide⟩ : CPow _ _), ?_⟩ | refine ⟨(.inl ⟨by omega, by omega⟩ : CMul _ _), ?_⟩ | refine ⟨(.inr ⟨by omega, by omega⟩ : CMul _ _), ?_⟩ | refine Or.inl ⟨_, rfl, ?_⟩ | refine Or.inr ⟨_, rfl, ?_⟩ | refine ⟨_, _, _, _, true, rfl, .ty _, .base (.str _), kit_ty (by decide +kernel), ?_⟩ | refine ⟨_, _, rfl, ⟨by rw [sizeLine_eq]; omega, rfl⟩, ?_⟩ | refine ⟨_, _, rfl, .inl ⟨_, SqL.of (by assumption), rfl⟩, ?_⟩ | refine ⟨_, _, rfl, .inr ⟨_, SqT.of (by assumption), rfl⟩, ?_⟩))
    refine ⟨_, _, dkd_of hkt2 hpt2 wot, dkd_of (s1823 _ _ edu18) (tup2_mono (fun t xs q => s1823 _ _ q) pkd18) oku, ?_⟩
    rw [eqT]
    (repeat (first | refine ⟨_, rfl, ?_⟩ | refine ⟨rfl, ?_⟩ | refine ⟨_, _, rfl, rfl, ?_⟩ | refine iteT ?_ | refine iteF ?_ | refine ⟨(by show (0 : Int) < _; omega), ?_⟩ | refine ⟨(⟨by omega, by omega⟩ : CDiv _ _), ?_⟩ | refine ⟨(⟨by decide, by decide, by decide⟩ : CPow _ _), ?_⟩ | refine ⟨(.inl ⟨by omega, by omega⟩ : CMul _ _), ?_⟩ | refine ⟨(.inr ⟨by omega, by omega⟩ : CMul _ _), ?_⟩ | refine Or.inl ⟨_, rfl, ?_⟩ | refine Or.inr ⟨_, rfl, ?_⟩ | refine ⟨_, _, _, _, true, rfl, .ty _, .base (.str _), kit_ty (by decide +kernel), ?_⟩ | refine ⟨_, _, rfl, ⟨by rw [sizeLine_eq]; omega, rfl⟩, ?_⟩ | refine ⟨_, _, rfl, .inl ⟨_, SqL.of (by assumption), rfl⟩, ?_⟩ | refine ⟨_, _, rfl, .inr ⟨_, SqT.of (by assumption), rfl⟩, ?_⟩))
    refine fun em nem => ?_
    have s1824 := s1823.trans (Same.new (o := .dK []) nem)
    have okr : ∀ t ∈ rs, OkT t := fun t ht => hso t ht
    refine ⟨_, _, dkd_of (s1824 _ _ ehl18) (tup2_mono (fun t xs q => s1824 _ _ q) hp18) okr, dkd_of (ts := []) upd_same .nil (fun t ht => by cases ht), ?_⟩
    have fin : ∀ H', Kp wl G18 H' → Q (.bl true) H' := fun H' s => k H' fun b o n1 n2 n3 h => s.keep b o n1 (fr18 b o n1 n2 n3 h)
    have hw18 : WellAt G18 wl := by
      obtain ⟨i1, i2, i3, hwe⟩ := kH.well hw
      exact ⟨i1, i2, i3, tr _ _ aw.symm dw.symm hwe⟩
    generalize hG24 : upd H23 em (.dK []) = G24 at *
    have ekp24 := s1824 _ _ ekp18
    by_cases hrs : rs = []
    · rw [eqKD_mem (ts := rs) (us := []) (by rw [hrs]) List.nodup_nil (fun t ht => by rw [hrs] at ht; cases ht)]
      (repeat (first | refine ⟨_, rfl, ?_⟩ | refine ⟨rfl, ?_⟩ | refine ⟨_, _, rfl, rfl, ?_⟩ | refine iteT ?_ | refine iteF ?_ | refine ⟨(by show (0 : Int) < _; omega), ?_⟩ | refine ⟨(⟨by omega, by omega⟩ : CDiv _ _), ?_⟩ | refine ⟨(⟨by decide, by decide, by decide⟩ : CPow _ _), ?_⟩ | refine ⟨(.inl ⟨by omega, by omega⟩ : CMul _ _), ?_⟩ | refine ⟨(.inr ⟨by omega, by omega⟩ : CMul _ _), ?_⟩ | refine Or.inl ⟨_, rfl, ?_⟩ | refine Or.inr ⟨_, rfl, ?_⟩ | refine ⟨_, _, _, _, true, rfl, .ty _, .base (.str _), kit_ty (by decide +kernel), ?_⟩ | refine ⟨_, _, rfl, ⟨by rw [sizeLine_eq]; omega, rfl⟩, ?_⟩ | refine ⟨_, _, rfl, .inl ⟨_, SqL.of (by assumption), rfl⟩, ?_⟩ | refine ⟨_, _, rfl, .inr ⟨_, SqT.of (by assumption), rfl⟩, ?_⟩))
      exact fin _ (Kp.same s1824)
    · rw [eqKD_len (fun e => hrs (List.length_eq_zero_iff.mp e))]
      (repeat (first | refine ⟨_, rfl, ?_⟩ | refine ⟨rfl, ?_⟩ | refine ⟨_, _, rfl, rfl, ?_⟩ | refine iteT ?_ | refine iteF ?_ | refine ⟨(by show (0 : Int) < _; omega), ?_⟩ | refine ⟨(⟨by omega, by omega⟩ : CDiv _ _), ?_⟩ | refine ⟨(⟨by decide, by decide, by decide⟩ : CPow _ _), ?_⟩ | refine ⟨(.inl ⟨by omega, by omega⟩ : CMul _ _), ?_⟩ | refine ⟨(.inr ⟨by omega, by omega⟩ : CMul _ _), ?_⟩ | refine Or.inl ⟨_, rfl, ?_⟩ | refine Or.inr ⟨_, rfl, ?_⟩ | refine ⟨_, _, _, _, true, rfl, .ty _, .base (.str _), kit_ty (by decide +kernel), ?_⟩ | refine ⟨_, _, rfl, ⟨by rw [sizeLine_eq]; omega, rfl⟩, ?_⟩ | refine ⟨_, _, rfl, .inl ⟨_, SqL.of (by assumption), rfl⟩, ?_⟩ | refine ⟨_, _, rfl, .inr ⟨_, SqT.of (by assumption), rfl⟩, ?_⟩))
      by_cases h16 : ((ps.map V.str).length : Int) < 16
      · rw [decide_eq_true h16]
        rw [List.length_map] at h16
        have wt := fun (D : Ends) (hk : ∀ H', Kp wl G24 H' → D.rt (.bl true) H') => web_tail (K := K) (A := A) (a := a) (d := d) (du := du) (y := y) (ps := ps) (rs := rs) (D := D) (hw18.same s1824) ekp24 (s1824 _ _ ehl18) (tup2_mono (fun t xs q => s1824 _ _ q) hp18) nd (hX18.same s1824) (s1824 _ _ w18) hl1 (by omega) hnm hsh hndp hok hrl hrs hk
        first
          | exact iteT (wt { nx := tRet (tC (V.bl true)) { nx := fun _ H' => Q V.non H', rt := Q }, rt := Q } (fun H' k' => fin H' ((Kp.same s1824).trans k')))
          | (refine iteT (wt _ ?_)
             exact fun H' k' => fin H' ((Kp.same s1824).trans k'))
          | (refine ⟨_, rfl, iteT (wt _ ?_)⟩
             exact fun H' k' => fin H' ((Kp.same s1824).trans k'))
          | (refine wt _ ?_
             exact fun H' k' => fin H' ((Kp.same s1824).trans k'))
      · rw [decide_eq_false h16]
        (repeat (first | refine ⟨_, rfl, ?_⟩ | refine ⟨rfl, ?_⟩ | refine ⟨_, _, rfl, rfl, ?_⟩ | refine iteT ?_ | refine iteF ?_ | refine ⟨(by show (0 : Int) < _; omega), ?_⟩ | refine ⟨(⟨by omega, by omega⟩ : CDiv _ _), ?_⟩ | refine ⟨(⟨by decide, by decide, by decide⟩ : CPow _ _), ?_⟩ | refine ⟨(.inl ⟨by omega, by omega⟩ : CMul _ _), ?_⟩ | refine ⟨(.inr ⟨by omega, by omega⟩ : CMul _ _), ?_⟩ | refine Or.inl ⟨_, rfl, ?_⟩ | refine Or.inr ⟨_, rfl, ?_⟩ | refine ⟨_, _, _, _, true, rfl, .ty _, .base (.str _), kit_ty (by decide +kernel), ?_⟩ | refine ⟨_, _, rfl, ⟨by rw [sizeLine_eq]; omega, rfl⟩, ?_⟩ | refine ⟨_, _, rfl, .inl ⟨_, SqL.of (by assumption), rfl⟩, ?_⟩ | refine ⟨_, _, rfl, .inr ⟨_, SqT.of (by assumption), rfl⟩, ?_⟩))
        exact fin _ (Kp.same s1824)
end
end BF
set_option Elab.async false
set_option linter.all false
set_option maxRecDepth 100000
set_option maxHeartbeats 1000000
namespace BF
open PySem PySem.Spec PyProof.Rows L2
open C8 (Cal CalAt Met Mak cal0 met0 mak0 fn0 pe_c pe_mk pe_mt pe_mt0 pe_gc fnScope fnBody fnArgs fnScope_by)
open SX
section
variable {P : Program} {w : World} {K : PySem.W.Frag} {mg : Str → Option Value} {base : Heap} {A : Ad}
def dueD : Due → PyData
  | .places k => .tuple [.str "places", .int k]
  | .ties n => .tuple [.str "ties", .str n]
  | .many => .tuple [.str "many", .int 24]
theorem dp_due {H : Hp} {p : Addr} {du : Due} (h : H p = some (.tup (dueT du))) : Dp K H (.ref p) (dueD du) := by
  cases du with
  | places k => exact .tup (SqT.of h) (.cons (.str _) (.cons (.int _) .nil))
  | ties n => exact .tup (SqT.of h) (.cons (.str _) (.cons (.str _) .nil))
  | many => exact .tup (SqT.of h) (.cons (.str _) (.cons (.int _) .nil))
theorem shaped_si {a : Str} {n : Int} (ha : PyData.strOk a = true) : SeqAt.shaped (.tuple [.str a, .int n]) = true := by
  simp [SeqAt.shaped, PyData.canLay0, PyData.canLayAll0, PyData.depth, PyData.depthAll, ha]
theorem shaped_due {ps : List Str} {es : List (Str × TV)} {du : Due} (h : dueOf ps es = some du) (hx : ∀ e ∈ es, W8 e.1) : SeqAt.shaped (dueD du) = true := by
  cases du with
  | places k => exact shaped_si (by decide +kernel)
  | many => exact shaped_si (by decide +kernel)
  | ties n =>
    refine shaped_two (by decide +kernel) ?_
    unfold dueOf at h
    cases e : plF ps with
    | some k => rw [e] at h; cases h
    | none =>
      rw [e] at h
      cases f : tiF ps es with
      | none =>
        rw [f] at h
        by_cases c : 24 < es.length
        · simp only [if_pos c] at h
          cases h
        · simp only [if_neg c] at h
          cases h
      | some m =>
        rw [f] at h
        cases h
        unfold tiF at f
        have hm := List.mem_of_find?_eq_some f
        rw [mem_sortS] at hm
        obtain ⟨e, he, q⟩ := List.mem_map.mp hm
        rw [← q]
        exact (hx e he).2
theorem eqv_due (du : Due) : PyData.eqv (dueD du) (dueD du) = true := by
  cases du with
  | places k => exact (PySem.W.Datum.eqv (α := Str × Int) ("places", k) ("places", k)).trans (decide_eq_true rfl)
  | ties n => exact (PySem.W.Datum.eqv (α := Str × Str) ("ties", n) ("ties", n)).trans (decide_eq_true rfl)
  | many => exact (PySem.W.Datum.eqv (α := Str × Int) ("many", 24) ("many", 24)).trans (decide_eq_true rfl)
theorem told_eq {σ : L2.St} {H : Hp} {i j : Nat} {a d : Addr} {ps : List Str} {es : List (Str × TV)} (hi : σ[i]? = some (some (.ref a))) (hj : σ[j]? = some (some (.ref d))) (ha : H a = some (.lst (ps.map V.str))) (hT : TiesR K H d es) (hl : ps.length ≤ 63) (hl2 : es.length ≤ 63) (hx : ∀ x ∈ ps, W8 x) (hx2 : ∀ e ∈ es, W8 e.1)
    {R : VK} (k : ∀ H', Same H H' → R (.bl false) H') :
    tOp (rNeD K) (tCall (spDue K) [] C8.E0 (tCons (tCB (fun xs H Q => ∃ p ys, xs = [V.ref p] ∧ (SqL K H p ys ∨ SqT K H p ys) ∧ ∀ (l : Addr), H l = none → Q (V.ref l) (upd H l (HO.lst ys))) (tCons (tVar i) tNil))
        (tCons (tCB (fun xs H Q => ∃ a kvs, xs = [V.ref a] ∧ Rd H a (HO.dK kvs) ∧ ∀ (p : Addr), H p = none → Q (V.ref p) (upd H p (HO.dK kvs))) (tCons (tVar j) tNil)) tNil)))
      (tCall (spDue K) [] C8.E0 (tCons (tVar i) (tCons (tVar j) tNil))) σ H R := by
  obtain ⟨⟨kvs, hd, hp⟩, nd⟩ := id hT
  refine ⟨_, hi, a, _, rfl, .inl (SqL.of ha), fun la nla => ?_⟩
  have s1 := Same.new (o := .lst (ps.map V.str)) nla
  refine ⟨_, hj, d, kvs, rfl, .inl (s1 _ _ hd), fun ld nld => ?_⟩
  have s2 := Same.new (o := .dK kvs) nld
  have s12 := s1.trans s2
  have hTl : TiesR K (upd (upd H la (.lst (ps.map V.str))) ld (.dK kvs)) ld es := ⟨⟨kvs, upd_same, Paired.imp (fun _ _ q => ⟨q.1, q.2.same s12⟩) hp⟩, nd⟩
  have b1 : ∀ y ∈ ps, y.length ≤ 1000 := fun y hy => (hx y hy).1
  have b2 : ∀ e ∈ es, e.1.length ≤ 1000 := fun e he => (hx2 e he).1
  cases hdu : dueOf ps es with
  | none =>
    refine ⟨la, ld, ps, es, rfl, s2 _ _ upd_same, hTl, hl, hl2, b1, b2, (fun du h => by rw [hdu] at h; cases h), fun _ H3 s3 => ?_⟩
    have s13 := s12.trans s3
    refine ⟨_, hi, _, hj, a, d, ps, es, rfl, s13 _ _ ha, hT.same s13, hl, hl2, b1, b2, (fun du h => by rw [hdu] at h; cases h), fun _ H4 s4 => ?_⟩
    refine ⟨_, _, .non, .non, rfl, rfl, ?_⟩
    exact k H4 (s13.trans s4)
  | some du =>
    refine ⟨la, ld, ps, es, rfl, s2 _ _ upd_same, hTl, hl, hl2, b1, b2, fun du' h p H3 np s3 hp3 => ?_, (fun h => by rw [hdu] at h; cases h)⟩
    rw [hdu] at h
    cases h
    have s13 := s12.trans s3
    refine ⟨_, hi, _, hj, a, d, ps, es, rfl, s13 _ _ ha, hT.same s13, hl, hl2, b1, b2, fun du' h q H4 nq s4 hq4 => ?_, (fun h => by rw [hdu] at h; cases h)⟩
    rw [hdu] at h
    cases h
    refine ⟨_, _, dp_due (s4 _ _ hp3), dp_due hq4, shaped_due hdu hx2, shaped_due hdu hx2, ?_⟩
    rw [eqv_due]
    exact k H4 (s13.trans s4)
def spRight : Sp := fun vs H Q _ => ∃ (wl : Addr), vs = [.ref wl] ∧ WellAt H wl ∧ ∀ H', (∀ b o, b ≠ wl → H b = some o → H' b = some o) → Q (.bl true) H'
theorem cal_law_right (T : Txt K mg A) : Cal P w K mg base 7 "_law_right" spRight [] := by
  refine cal0 T.d_law_right T.b_law_right .nil sc_law_right (fun vs H Q E h => ?_) (fun cdv B outer s H vs Q E hr h => ?_)
  · obtain ⟨wl, rfl, _⟩ := h
    rfl
  · obtain ⟨wl, rfl, hw, k⟩ := h
    refine ⟨_, (pss_cons (ps_asg (pe_c (cal_law_drawn T) hr (by decide) rfl (pa_cons (pv 0) pa_nil)) (pg_tup (by rfl) (pgs_cons (pg_name (i := 1) sc_law_right.nd rfl (by first | exact Or.inl rfl | exact Or.inr rfl)) (pgs_cons (pg_name (i := 2) sc_law_right.nd rfl (by first | exact Or.inl rfl | exact Or.inr rfl)) pgs_nil))))
 (pss_cons (ps_par (i := 3) (j := 4) (by rfl) sc_law_right.nd rfl rfl (by decide) rfl rfl (pa_cons (pv 1) (pa_cons (pv 2) pa_nil)) (by rfl))
 (pss_cons (ps_for PassesOwn.never rfl (pi_range1 (by rfl) T.z_range (pa_cons (pe_op op_add pe_int (pe_c (cal_law_draw T) hr (by decide) rfl (pa_cons (pv 0) (pa_cons pe_int pa_nil)))) pa_nil)) (pg_name (i := 5) sc_law_right.nd rfl (by first | exact Or.inl rfl | exact Or.inr rfl)) (pss_cons (ps_asg (pe_c (cal_law_spoiled T) hr (by decide) rfl (pa_cons (pv 0) (pa_cons (pv 3) (pa_cons (pv 4) pa_nil)))) (pg_tup (by rfl) (pgs_cons (pg_name (i := 3) sc_law_right.nd rfl (by first | exact Or.inl rfl | exact Or.inr rfl)) (pgs_cons (pg_name (i := 4) sc_law_right.nd rfl (by first | exact Or.inl rfl | exact Or.inr rfl)) pgs_nil))))
 (pss_one (ps_if (pt_cmpR (neDK K hr) (pe_c (cal_law_told T) hr (by decide) rfl (pa_cons (pe_callTy (listK K) (by rfl) T.z_list (by decide +kernel) (pa_cons (pv 3) pa_nil)) (pa_cons (pe_callTy call_dictD (by rfl) T.z_dict (by decide +kernel) (pa_cons (pv 4) pa_nil)) pa_nil))) (pe_c (cal_law_due T) hr (by decide) rfl (pa_cons (pv 3) (pa_cons (pv 4) pa_nil))) (nomark _)) (pss_one (ps_ret pe_bl)) pss_nil))))
 (pss_cons (ps_if (pt_cmpR (neDK K hr) (pe_c (cal_law_told T) hr (by decide) rfl (pa_cons (pe_callTy (listK K) (by rfl) T.z_list (by decide +kernel) (pa_cons (pv 1) pa_nil)) (pa_cons (pe_callTy call_dictD (by rfl) T.z_dict (by decide +kernel) (pa_cons (pv 2) pa_nil)) pa_nil))) (pe_c (cal_law_due T) hr (by decide) rfl (pa_cons (pv 1) (pa_cons (pv 2) pa_nil))) (nomark _)) (pss_one (ps_ret pe_bl)) pss_nil)
 (pss_one (ps_ret (pe_or (pe_cmpR op_notN (pe_c (cal_law_due T) hr (by decide) rfl (pa_cons (pv 1) (pa_cons (pv 2) pa_nil))) pe_non (nomark _)) (pe_one (pe_c (cal_law_web_right T) hr (by decide) rfl (pa_cons (pv 0) (pa_cons (pe_callTy (listK K) (by rfl) T.z_list (by decide +kernel) (pa_cons (pv 1) pa_nil)) (pa_cons (pe_callTy call_dictD (by rfl) T.z_dict (by decide +kernel) (pa_cons (pv 2) pa_nil)) pa_nil)))))))))))), ?_⟩
    (repeat (first | refine ⟨_, rfl, ?_⟩ | refine ⟨rfl, ?_⟩ | refine ⟨_, _, rfl, rfl, ?_⟩ | refine iteT ?_ | refine iteF ?_ | refine ⟨(by show (0 : Int) < _; omega), ?_⟩ | refine ⟨(⟨by omega, by omega⟩ : CDiv _ _), ?_⟩ | refine ⟨(⟨by decide, by decide, by decide⟩ : CPow _ _), ?_⟩ | refine ⟨(.inl ⟨by omega, by omega⟩ : CMul _ _), ?_⟩ | refine ⟨(.inr ⟨by omega, by omega⟩ : CMul _ _), ?_⟩ | refine Or.inl ⟨_, rfl, ?_⟩ | refine Or.inr ⟨_, rfl, ?_⟩ | refine ⟨_, _, _, _, true, rfl, .ty _, .base (.str _), kit_ty (by decide +kernel), ?_⟩ | refine ⟨_, _, rfl, ⟨by rw [sizeLine_eq]; omega, rfl⟩, ?_⟩ | refine ⟨_, _, rfl, .inl ⟨_, SqL.of (by assumption), rfl⟩, ?_⟩ | refine ⟨_, _, rfl, .inr ⟨_, SqT.of (by assumption), rfl⟩, ?_⟩))
    refine ⟨hw, fun p a d ps es H1 k1 hp ha hT h1 h17 h25 hsh hge => ?_⟩
    refine ⟨p, _, rfl, SqT.of hp, rfl, _, _, rfl, _, _, rfl, rfl, ?_⟩
    have hw1 := k1.well hw
    have sW8 : ∀ {x : Str}, Short x → W8 x := fun {x} h => ⟨by have := h.2.1; omega, isNm_ok h.1⟩
    have hx : ∀ x ∈ ps, W8 x := fun x h => sW8 (hsh x h)
    have hx2 : ∀ e ∈ es, W8 e.1 := fun e h => sW8 (hge e h).1
    (repeat (first | refine ⟨_, rfl, ?_⟩ | refine ⟨rfl, ?_⟩ | refine ⟨_, _, rfl, rfl, ?_⟩ | refine iteT ?_ | refine iteF ?_ | refine ⟨(by show (0 : Int) < _; omega), ?_⟩ | refine ⟨(⟨by omega, by omega⟩ : CDiv _ _), ?_⟩ | refine ⟨(⟨by decide, by decide, by decide⟩ : CPow _ _), ?_⟩ | refine ⟨(.inl ⟨by omega, by omega⟩ : CMul _ _), ?_⟩ | refine ⟨(.inr ⟨by omega, by omega⟩ : CMul _ _), ?_⟩ | refine Or.inl ⟨_, rfl, ?_⟩ | refine Or.inr ⟨_, rfl, ?_⟩ | refine ⟨_, _, _, _, true, rfl, .ty _, .base (.str _), kit_ty (by decide +kernel), ?_⟩ | refine ⟨_, _, rfl, ⟨by rw [sizeLine_eq]; omega, rfl⟩, ?_⟩ | refine ⟨_, _, rfl, .inl ⟨_, SqL.of (by assumption), rfl⟩, ?_⟩ | refine ⟨_, _, rfl, .inr ⟨_, SqT.of (by assumption), rfl⟩, ?_⟩))
    refine ⟨_, _, rfl, ?_⟩
    (repeat (first | refine ⟨_, rfl, ?_⟩ | refine ⟨rfl, ?_⟩ | refine ⟨_, _, rfl, rfl, ?_⟩ | refine iteT ?_ | refine iteF ?_ | refine ⟨(by show (0 : Int) < _; omega), ?_⟩ | refine ⟨(⟨by omega, by omega⟩ : CDiv _ _), ?_⟩ | refine ⟨(⟨by decide, by decide, by decide⟩ : CPow _ _), ?_⟩ | refine ⟨(.inl ⟨by omega, by omega⟩ : CMul _ _), ?_⟩ | refine ⟨(.inr ⟨by omega, by omega⟩ : CMul _ _), ?_⟩ | refine Or.inl ⟨_, rfl, ?_⟩ | refine Or.inr ⟨_, rfl, ?_⟩ | refine ⟨_, _, _, _, true, rfl, .ty _, .base (.str _), kit_ty (by decide +kernel), ?_⟩ | refine ⟨_, _, rfl, ⟨by rw [sizeLine_eq]; omega, rfl⟩, ?_⟩ | refine ⟨_, _, rfl, .inl ⟨_, SqL.of (by assumption), rfl⟩, ?_⟩ | refine ⟨_, _, rfl, .inr ⟨_, SqT.of (by assumption), rfl⟩, ?_⟩))
    refine ⟨wl, 3, rfl, hw1, by omega, by omega, fun n H2 n0 n3 k2 => ?_⟩
    have wl0 : ∀ {p : Addr}, H p = none → p ≠ wl := fun h => hw.ne h
    have ha2 := k2.get hw1 ha (isW_strs ps)
    have hT2 := hT.kp k2 hw1
    (repeat (first | refine ⟨_, rfl, ?_⟩ | refine ⟨rfl, ?_⟩ | refine ⟨_, _, rfl, rfl, ?_⟩ | refine iteT ?_ | refine iteF ?_ | refine ⟨(by show (0 : Int) < _; omega), ?_⟩ | refine ⟨(⟨by omega, by omega⟩ : CDiv _ _), ?_⟩ | refine ⟨(⟨by decide, by decide, by decide⟩ : CPow _ _), ?_⟩ | refine ⟨(.inl ⟨by omega, by omega⟩ : CMul _ _), ?_⟩ | refine ⟨(.inr ⟨by omega, by omega⟩ : CMul _ _), ?_⟩ | refine Or.inl ⟨_, rfl, ?_⟩ | refine Or.inr ⟨_, rfl, ?_⟩ | refine ⟨_, _, _, _, true, rfl, .ty _, .base (.str _), kit_ty (by decide +kernel), ?_⟩ | refine ⟨_, _, rfl, ⟨by rw [sizeLine_eq]; omega, rfl⟩, ?_⟩ | refine ⟨_, _, rfl, .inl ⟨_, SqL.of (by assumption), rfl⟩, ?_⟩ | refine ⟨_, _, rfl, .inr ⟨_, SqT.of (by assumption), rfl⟩, ?_⟩))
    refine ⟨by omega, by omega, for_it walk_range (fun i σ H' => ∃ (v5 : Option V) (a' d' : Addr) (ps' : List Str) (es' : List (Str × TV)), σ = [some (.ref wl), some (.ref a), some (.ref d), some (.ref a'), some (.ref d'), v5] ∧ Kp wl H1 H' ∧ H' a' = some (.lst (ps'.map V.str)) ∧ TiesR K H' d' es' ∧
        ps'.length ≤ 17 + i ∧ es'.length ≤ 25 + i ∧ (∀ x ∈ ps', W8 x) ∧ (∀ e ∈ es', W8 e.1))
      ⟨_, a, d, ps, es, rfl, k2, ha2, hT2, h17, h25, hx, hx2⟩ (fun _ _ _ _ _ => True.intro) ?_ ?_⟩
    · rintro i v σ H3 H4 hi ⟨v5, a', d', ps', es', rfl, k3, ha', hT', hl, hl2, hxs, hxs2⟩ ⟨rfl, rfl⟩
      have hi3 : i < 3 := by omega
      (repeat (first | refine ⟨_, rfl, ?_⟩ | refine ⟨rfl, ?_⟩ | refine ⟨_, _, rfl, rfl, ?_⟩ | refine iteT ?_ | refine iteF ?_ | refine ⟨(by show (0 : Int) < _; omega), ?_⟩ | refine ⟨(⟨by omega, by omega⟩ : CDiv _ _), ?_⟩ | refine ⟨(⟨by decide, by decide, by decide⟩ : CPow _ _), ?_⟩ | refine ⟨(.inl ⟨by omega, by omega⟩ : CMul _ _), ?_⟩ | refine ⟨(.inr ⟨by omega, by omega⟩ : CMul _ _), ?_⟩ | refine Or.inl ⟨_, rfl, ?_⟩ | refine Or.inr ⟨_, rfl, ?_⟩ | refine ⟨_, _, _, _, true, rfl, .ty _, .base (.str _), kit_ty (by decide +kernel), ?_⟩ | refine ⟨_, _, rfl, ⟨by rw [sizeLine_eq]; omega, rfl⟩, ?_⟩ | refine ⟨_, _, rfl, .inl ⟨_, SqL.of (by assumption), rfl⟩, ?_⟩ | refine ⟨_, _, rfl, .inr ⟨_, SqT.of (by assumption), rfl⟩, ?_⟩))
      refine ⟨wl, a', d', ps', es', rfl, k3.well hw1, ha', hT', by omega, by omega, hxs, hxs2, fun p3 a3 d3 ps3 es3 H5 np3 k5 hp3 ha3 hT3 hl3 hl4 hxs3 hxs4 => ?_⟩
      refine ⟨p3, _, rfl, SqT.of hp3, rfl, _, _, rfl, _, _, rfl, rfl, ?_⟩
      refine told_eq (by rfl) (by rfl) ha3 hT3 (by omega) (by omega) hxs3 hxs4 (fun H6 s6 => ?_)
      (repeat (first | refine ⟨_, rfl, ?_⟩ | refine ⟨rfl, ?_⟩ | refine ⟨_, _, rfl, rfl, ?_⟩ | refine iteT ?_ | refine iteF ?_ | refine ⟨(by show (0 : Int) < _; omega), ?_⟩ | refine ⟨(⟨by omega, by omega⟩ : CDiv _ _), ?_⟩ | refine ⟨(⟨by decide, by decide, by decide⟩ : CPow _ _), ?_⟩ | refine ⟨(.inl ⟨by omega, by omega⟩ : CMul _ _), ?_⟩ | refine ⟨(.inr ⟨by omega, by omega⟩ : CMul _ _), ?_⟩ | refine Or.inl ⟨_, rfl, ?_⟩ | refine Or.inr ⟨_, rfl, ?_⟩ | refine ⟨_, _, _, _, true, rfl, .ty _, .base (.str _), kit_ty (by decide +kernel), ?_⟩ | refine ⟨_, _, rfl, ⟨by rw [sizeLine_eq]; omega, rfl⟩, ?_⟩ | refine ⟨_, _, rfl, .inl ⟨_, SqL.of (by assumption), rfl⟩, ?_⟩ | refine ⟨_, _, rfl, .inr ⟨_, SqT.of (by assumption), rfl⟩, ?_⟩))
      exact ⟨_, a3, d3, ps3, es3, rfl, (k3.trans k5).trans (Kp.same s6), s6 _ _ ha3, hT3.same s6, by omega, by omega, hxs3, hxs4⟩
    · rintro σ H3 ⟨v5, a', d', ps', es', rfl, k3, _, _, _, _, _, _⟩
      have ha3 := k3.get hw1 ha (isW_strs ps)
      have hT3 := hT.kp k3 hw1
      refine told_eq (by rfl) (by rfl) ha3 hT3 (by omega) (by omega) hx hx2 (fun H4 s4 => ?_)
      have k4 := k3.trans (Kp.same s4)
      have ha4 := s4 _ _ ha3
      have hT4 := hT3.same s4
      have b1 : ∀ y ∈ ps, y.length ≤ 1000 := fun y hy => (hx y hy).1
      have b2 : ∀ e ∈ es, e.1.length ≤ 1000 := fun e he => (hx2 e he).1
      (repeat (first | refine ⟨_, rfl, ?_⟩ | refine ⟨rfl, ?_⟩ | refine ⟨_, _, rfl, rfl, ?_⟩ | refine iteT ?_ | refine iteF ?_ | refine ⟨(by show (0 : Int) < _; omega), ?_⟩ | refine ⟨(⟨by omega, by omega⟩ : CDiv _ _), ?_⟩ | refine ⟨(⟨by decide, by decide, by decide⟩ : CPow _ _), ?_⟩ | refine ⟨(.inl ⟨by omega, by omega⟩ : CMul _ _), ?_⟩ | refine ⟨(.inr ⟨by omega, by omega⟩ : CMul _ _), ?_⟩ | refine Or.inl ⟨_, rfl, ?_⟩ | refine Or.inr ⟨_, rfl, ?_⟩ | refine ⟨_, _, _, _, true, rfl, .ty _, .base (.str _), kit_ty (by decide +kernel), ?_⟩ | refine ⟨_, _, rfl, ⟨by rw [sizeLine_eq]; omega, rfl⟩, ?_⟩ | refine ⟨_, _, rfl, .inl ⟨_, SqL.of (by assumption), rfl⟩, ?_⟩ | refine ⟨_, _, rfl, .inr ⟨_, SqT.of (by assumption), rfl⟩, ?_⟩))
      cases hdu : dueOf ps es with
      | some du =>
        refine ⟨a, d, ps, es, rfl, ha4, hT4, by omega, by omega, b1, b2, fun du' h q H5 nq s5 hq5 => ?_, (fun h => by rw [hdu] at h; cases h)⟩
        refine ⟨rfl, _, rfl, ?_⟩
        rw [decide_eq_false (by simp)]
        exact iteT (k H5 fun b o nb h => s5 _ _ (k4.keep b o nb (k1.keep b o nb h)))
      | none =>
        refine ⟨a, d, ps, es, rfl, ha4, hT4, by omega, by omega, b1, b2, (fun du' h => by rw [hdu] at h; cases h), fun _ H5 s5 => ?_⟩
        refine ⟨rfl, _, rfl, ?_⟩
        rw [decide_eq_true rfl]
        obtain ⟨⟨kvs, hd5, hp5⟩, nd5⟩ := hT4.same s5
        have s6 := fun (la : Addr) (nla : H5 la = none) => Same.new (o := .lst (ps.map V.str)) nla
        refine iteF ⟨_, rfl, _, rfl, a, _, rfl, .inl (SqL.of (s5 _ _ ha4)), fun la nla => ⟨_, rfl, d, kvs, rfl, .inl (s6 la nla _ _ hd5), fun ld nld => ?_⟩⟩
        have s7 := Same.new (o := .dK kvs) nld
        have s67 := (s6 la nla).trans s7
        refine ⟨wl, la, ld, ps, es, rfl, (((k4.trans (Kp.same s5)).well hw1).same s67), s7 _ _ upd_same, ⟨⟨kvs, upd_same, Paired.imp (fun _ _ q => ⟨q.1, q.2.same s67⟩) hp5⟩, nd5⟩, hdu, hsh, hge, fun H8 fr => k H8 fun b o nb h => ?_⟩
        have h5 := s5 _ _ (k4.keep b o nb (k1.keep b o nb h))
        exact fr b o nb (ne_of_none h5 nla) (ne_of_none ((s6 la nla) _ _ h5) nld) (s67 _ _ h5)
def spLaw (K : PySem.W.Frag) : Sp := fun vs H Q _ => ∃ (a : Addr) (ns : List Int), vs = [.ref a] ∧ SqL K H a (ns.map V.int) ∧ ∀ H', Q (.bl true) H'
theorem ok_law (T : Txt K mg A) : FnOk P w K mg base C8.CX0 8 A.f_law A.fd_law ["script"] (spLaw K) := by
  refine C8.fn0 T.d_law.fn sc_law (fun vs H Q E h => ?_) (fun cdv B outer s H vs Q E hr h => ?_)
  · obtain ⟨a, ns, rfl, _⟩ := h
    rfl
  · obtain ⟨a, ns, rfl, ha, k⟩ := h
    refine ⟨_, (pss_one (ps_ret (pe_callB (allK K rfl) (by rfl) T.z_all (by decide +kernel) (pa_cons (pe_lc (own := [("cell", 1)]) (g := gName 1) rfl sc_law.nd (pi_list (pe_op op_cat (pe_slice (slLK K) (pv 0) po_none (po_some pe_int)) (pe_lst (pa_cons pe_int pa_nil)))) (blkOk_by (own := [("cell", 1)]) (N := N_law) (sc := fnScope s_law) (by decide +kernel)) (fun _ _ _ _ _ => (pg_name (i := 1) sc_law.nd rfl (by first | exact Or.inl rfl | exact Or.inr rfl))) (fun _ _ _ _ _ => pts_nil) (fun _ _ _ _ _ => (pe_c (cal_law_right T) hr (by decide) rfl (pa_cons (pe_c (cal_law_source T) hr (by decide) rfl (pa_cons (pv 1) pa_nil)) pa_nil)))) pa_nil)))), ?_⟩
    (repeat (first | refine ⟨_, rfl, ?_⟩ | refine ⟨rfl, ?_⟩ | refine ⟨_, _, rfl, rfl, ?_⟩ | refine iteT ?_ | refine iteF ?_ | refine ⟨(by show (0 : Int) < _; omega), ?_⟩ | refine ⟨(⟨by omega, by omega⟩ : CDiv _ _), ?_⟩ | refine ⟨(⟨by decide, by decide, by decide⟩ : CPow _ _), ?_⟩ | refine ⟨(.inl ⟨by omega, by omega⟩ : CMul _ _), ?_⟩ | refine ⟨(.inr ⟨by omega, by omega⟩ : CMul _ _), ?_⟩ | refine Or.inl ⟨_, rfl, ?_⟩ | refine Or.inr ⟨_, rfl, ?_⟩ | refine ⟨_, _, _, _, true, rfl, .ty _, .base (.str _), kit_ty (by decide +kernel), ?_⟩ | refine ⟨_, _, rfl, ⟨by rw [sizeLine_eq]; omega, rfl⟩, ?_⟩ | refine ⟨_, _, rfl, .inl ⟨_, SqL.of (by assumption), rfl⟩, ?_⟩ | refine ⟨_, _, rfl, .inr ⟨_, SqT.of (by assumption), rfl⟩, ?_⟩))
    refine ⟨a, _, rfl, ha, fun q nq => ?_⟩
    rw [show (3 : Int) = ((3 : Nat) : Int) from rfl, cut_to, ← List.map_take]
    refine ⟨(by show 1 ≤ sizeLine; rw [sizeLine_eq]; omega), fun l nl => ?_⟩
    refine ⟨q, l, _, _, rfl, rfl, (Same.new nl) _ _ upd_same, upd_same, (by rw [List.length_map, List.length_take, sizeLine_eq]; show _ + 1 ≤ _; omega), fun c nc => ?_⟩
    have ec := upd_same (H := upd (upd H q (.lst ((ns.take 3).map V.int))) l (.lst [V.int 0])) (a := c) (o := .lst ((ns.take 3).map V.int ++ [V.int 0]))
    rw [show (ns.take 3).map V.int ++ [V.int 0] = (ns.take 3 ++ [0]).map V.int from by rw [List.map_append]; rfl] at ec ⊢
    generalize hGc : upd (upd (upd H q (.lst ((ns.take 3).map V.int))) l (.lst [V.int 0])) c (.lst ((ns.take 3 ++ [0]).map V.int)) = Gc at *
    refine ⟨c, rfl, ⟨_, SqL.of ec⟩, fun D nD => ?_⟩
    refine lc_it walk_list (fun i H' => H' c = some (.lst ((ns.take 3 ++ [0]).map V.int)) ∧ H' D = some (.lst ((List.replicate i true).map V.bl)))
      ⟨(Same.new nD) _ _ ec, upd_same⟩ (fun _ H' _ ⟨q, _⟩ => SqL.of q) ?_ ?_
    · rintro i v H2 H3 hi ⟨hc, hD⟩ ⟨rfl, hv⟩
      refine ⟨rfl, ?_⟩
      have hi4 : i < 4 := by
        rw [List.length_map, List.length_append, List.length_take] at hi
        have : ([0] : List Int).length = 1 := rfl
        omega
      obtain ⟨z, _, rfl⟩ := List.mem_map.mp (List.mem_of_getElem? hv)
      have cD : c ≠ D := fun e => by rw [e, nD] at ec; cases ec
      (repeat (first | refine ⟨_, rfl, ?_⟩ | refine ⟨rfl, ?_⟩ | refine ⟨_, _, rfl, rfl, ?_⟩ | refine iteT ?_ | refine iteF ?_ | refine ⟨(by show (0 : Int) < _; omega), ?_⟩ | refine ⟨(⟨by omega, by omega⟩ : CDiv _ _), ?_⟩ | refine ⟨(⟨by decide, by decide, by decide⟩ : CPow _ _), ?_⟩ | refine ⟨(.inl ⟨by omega, by omega⟩ : CMul _ _), ?_⟩ | refine ⟨(.inr ⟨by omega, by omega⟩ : CMul _ _), ?_⟩ | refine Or.inl ⟨_, rfl, ?_⟩ | refine Or.inr ⟨_, rfl, ?_⟩ | refine ⟨_, _, _, _, true, rfl, .ty _, .base (.str _), kit_ty (by decide +kernel), ?_⟩ | refine ⟨_, _, rfl, ⟨by rw [sizeLine_eq]; omega, rfl⟩, ?_⟩ | refine ⟨_, _, rfl, .inl ⟨_, SqL.of (by assumption), rfl⟩, ?_⟩ | refine ⟨_, _, rfl, .inr ⟨_, SqT.of (by assumption), rfl⟩, ?_⟩))
      refine fun wl H4 nw s4 hw4 => ⟨wl, rfl, hw4, fun H5 fr => ?_⟩
      have wc : c ≠ wl := fun e => by rw [e, nw] at hc; cases hc
      have wD : D ≠ wl := fun e => by rw [e, nw] at hD; cases hD
      refine ⟨_, fr _ _ wD (s4 _ _ hD), small1000 (by rw [List.length_map, List.length_replicate]; omega), ?_, ?_⟩
      · rw [upd_ne cD]
        exact fr _ _ wc (s4 _ _ hc)
      · rw [upd_same, replicate_snoc]
    rintro H2 ⟨hc, hD⟩
    refine ⟨D, _, rfl, SqL.of hD, ?_⟩
    rw [all_replicate]
    exact k H2
end
end BF
set_option Elab.async false
set_option linter.all false
set_option maxRecDepth 100000
set_option maxHeartbeats 4000000
namespace BF
open PySem PySem.Spec PyProof.Rows L2
open C8 (Cal CalAt Met Mak cal0 met0 mak0 fn0 pe_c pe_mk pe_mt pe_mt0 pe_gc fnScope fnBody fnArgs fnScope_by)
theorem all_mk {K : PySem.W.Frag} {h : Heap} {mg : Str → Option Value} {C_LotError C_NoThing C_TooMany C_BadPlaces C_BadTies C_Web f_NoThing__init f_TooMany__init f_BadPlaces__init f_BadTies__init f_is_name f_first_wrong f_sorted_places f_Web__init f_Web_places f_Web_ties f_Web_ends f_Web__eq f_checked_ties f_are_ends f_law_source f_law_draw f_law_pick f_law_names f_law_shuffled f_law_is_name f_law_due f_law_told f_law_drawn f_law_spoiled f_law_ends_refused f_law_web_right f_law_right f_law : Addr} (X : K.In h) (G : h.Ns mainGlobals mg)
    {od_NoThing__init an_NoThing__init od_TooMany__init an_TooMany__init od_BadPlaces__init an_BadPlaces__init od_BadTies__init an_BadTies__init od_is_name an_is_name od_first_wrong an_first_wrong od_sorted_places an_sorted_places od_Web__init an_Web__init od_Web_places an_Web_places od_Web_ties an_Web_ties od_Web_ends an_Web_ends od_Web__eq an_Web__eq od_checked_ties an_checked_ties od_are_ends an_are_ends od_law_source an_law_source od_law_draw an_law_draw od_law_pick an_law_pick od_law_names an_law_names od_law_shuffled an_law_shuffled od_law_is_name an_law_is_name od_law_due an_law_due od_law_told an_law_told od_law_drawn an_law_drawn od_law_spoiled an_law_spoiled od_law_ends_refused an_law_ends_refused od_law_web_right an_law_web_right od_law_right an_law_right od_law an_law : Option Addr} {sl_NoThing__init sl_TooMany__init sl_BadPlaces__init sl_BadTies__init sl_is_name sl_first_wrong sl_sorted_places sl_Web__init sl_Web_places sl_Web_ties sl_Web_ends sl_Web__eq sl_checked_ties sl_are_ends sl_law_source sl_law_draw sl_law_pick sl_law_names sl_law_shuffled sl_law_is_name sl_law_due sl_law_told sl_law_drawn sl_law_spoiled sl_law_ends_refused sl_law_web_right sl_law_right sl_law : Array (Option Value)} {oc_NoThing__init kV_NoThing__init dc_NoThing__init pm_NoThing__init cd_NoThing__init ct_NoThing__init oc_TooMany__init kV_TooMany__init dc_TooMany__init pm_TooMany__init cd_TooMany__init ct_TooMany__init oc_BadPlaces__init kV_BadPlaces__init dc_BadPlaces__init pm_BadPlaces__init cd_BadPlaces__init ct_BadPlaces__init oc_BadTies__init kV_BadTies__init dc_BadTies__init pm_BadTies__init cd_BadTies__init ct_BadTies__init oc_is_name kV_is_name dc_is_name pm_is_name cd_is_name ct_is_name oc_first_wrong kV_first_wrong dc_first_wrong pm_first_wrong cd_first_wrong ct_first_wrong oc_sorted_places kV_sorted_places dc_sorted_places pm_sorted_places cd_sorted_places ct_sorted_places oc_Web__init kV_Web__init dc_Web__init pm_Web__init cd_Web__init ct_Web__init oc_Web_places kV_Web_places dc_Web_places pm_Web_places cd_Web_places ct_Web_places oc_Web_ties kV_Web_ties dc_Web_ties pm_Web_ties cd_Web_ties ct_Web_ties oc_Web_ends kV_Web_ends dc_Web_ends pm_Web_ends cd_Web_ends ct_Web_ends oc_Web__eq kV_Web__eq dc_Web__eq pm_Web__eq cd_Web__eq ct_Web__eq oc_checked_ties kV_checked_ties dc_checked_ties pm_checked_ties cd_checked_ties ct_checked_ties oc_are_ends kV_are_ends dc_are_ends pm_are_ends cd_are_ends ct_are_ends oc_law_source kV_law_source dc_law_source pm_law_source cd_law_source ct_law_source oc_law_draw kV_law_draw dc_law_draw pm_law_draw cd_law_draw ct_law_draw oc_law_pick kV_law_pick dc_law_pick pm_law_pick cd_law_pick ct_law_pick oc_law_names kV_law_names dc_law_names pm_law_names cd_law_names ct_law_names oc_law_shuffled kV_law_shuffled dc_law_shuffled pm_law_shuffled cd_law_shuffled ct_law_shuffled oc_law_is_name kV_law_is_name dc_law_is_name pm_law_is_name cd_law_is_name ct_law_is_name oc_law_due kV_law_due dc_law_due pm_law_due cd_law_due ct_law_due oc_law_told kV_law_told dc_law_told pm_law_told cd_law_told ct_law_told oc_law_drawn kV_law_drawn dc_law_drawn pm_law_drawn cd_law_drawn ct_law_drawn oc_law_spoiled kV_law_spoiled dc_law_spoiled pm_law_spoiled cd_law_spoiled ct_law_spoiled oc_law_ends_refused kV_law_ends_refused dc_law_ends_refused pm_law_ends_refused cd_law_ends_refused ct_law_ends_refused oc_law_web_right kV_law_web_right dc_law_web_right pm_law_web_right cd_law_web_right ct_law_web_right oc_law_right kV_law_right dc_law_right pm_law_right cd_law_right ct_law_right oc_law kV_law dc_law pm_law cd_law ct_law : Value} {tk_LONGEST_NAME tk_MOST_WEB_PLACES tk_MOST_TIES : Tok}
    {hd2_Web : Bool} {ni_Web : String}
    {nm_NoThing qn_NoThing : Str} {NS_NoThing : Addr} {bs_NoThing : List Value} {sn_NoThing : List Str} {sub_NoThing : List Value} {ab_NoThing : Bool} {col_NoThing : Option Bool} {dd_NoThing : Option Addr} {k0_NoThing k1_NoThing k2_NoThing k3_NoThing k5_NoThing : Option Value}
    {nm_TooMany qn_TooMany : Str} {NS_TooMany : Addr} {bs_TooMany : List Value} {sn_TooMany : List Str} {sub_TooMany : List Value} {ab_TooMany : Bool} {col_TooMany : Option Bool} {dd_TooMany : Option Addr} {k0_TooMany k1_TooMany k2_TooMany k3_TooMany k5_TooMany : Option Value}
    {nm_BadPlaces qn_BadPlaces : Str} {NS_BadPlaces : Addr} {bs_BadPlaces : List Value} {sn_BadPlaces : List Str} {sub_BadPlaces : List Value} {ab_BadPlaces : Bool} {col_BadPlaces : Option Bool} {dd_BadPlaces : Option Addr} {k0_BadPlaces k1_BadPlaces k2_BadPlaces k3_BadPlaces k5_BadPlaces : Option Value}
    {nm_BadTies qn_BadTies : Str} {NS_BadTies : Addr} {bs_BadTies : List Value} {sn_BadTies : List Str} {sub_BadTies : List Value} {ab_BadTies : Bool} {col_BadTies : Option Bool} {dd_BadTies : Option Addr} {k0_BadTies k1_BadTies k2_BadTies k3_BadTies k5_BadTies : Option Value}
    {nm_Web qn_Web : Str} {NS_Web : Addr} {bs_Web : List Value} {sn_Web : List Str} {sub_Web : List Value} {ab_Web : Bool} {col_Web : Option Bool} {dd_Web : Option Addr} {k0_Web k1_Web k2_Web k3_Web k5_Web : Option Value}
    (hgC_LotError : PySem.W.nsIn K mainGlobals "LotError" = some (some (.ref C_LotError)))
    (hgC_NoThing : PySem.W.nsIn K mainGlobals "NoThing" = some (some (.ref C_NoThing)))
    (hgC_TooMany : PySem.W.nsIn K mainGlobals "TooMany" = some (some (.ref C_TooMany)))
    (hgC_BadPlaces : PySem.W.nsIn K mainGlobals "BadPlaces" = some (some (.ref C_BadPlaces)))
    (hgC_BadTies : PySem.W.nsIn K mainGlobals "BadTies" = some (some (.ref C_BadTies)))
    (hgC_Web : PySem.W.nsIn K mainGlobals "Web" = some (some (.ref C_Web)))
    (ha_NoThing__init : PySem.W.findIn K (.ref C_NoThing) "__init__" = some (some (.ref f_NoThing__init)))
    (hi_NoThing__init : PySem.W.isFn K (.ref f_NoThing__init) = true)
    (hl_NoThing__init : K.lookup f_NoThing__init = some ⟨oc_NoThing__init, od_NoThing__init, .func (PySem.W.fnOf "__init__" "NoThing.__init__" (fnArgs s_NoThing__init) (fnBody s_NoThing__init) (fnScope s_NoThing__init) .none kV_NoThing__init dc_NoThing__init pm_NoThing__init an_NoThing__init cd_NoThing__init ct_NoThing__init), sl_NoThing__init⟩)
    (hc_NoThing__init : PySem.W.codeIn K cd_NoThing__init "NoThing.__init__" = true)
    (hk_NoThing__init : PySem.W.keepIn K (.ref f_NoThing__init) = true)
    (ha_TooMany__init : PySem.W.findIn K (.ref C_TooMany) "__init__" = some (some (.ref f_TooMany__init)))
    (hi_TooMany__init : PySem.W.isFn K (.ref f_TooMany__init) = true)
    (hl_TooMany__init : K.lookup f_TooMany__init = some ⟨oc_TooMany__init, od_TooMany__init, .func (PySem.W.fnOf "__init__" "TooMany.__init__" (fnArgs s_TooMany__init) (fnBody s_TooMany__init) (fnScope s_TooMany__init) .none kV_TooMany__init dc_TooMany__init pm_TooMany__init an_TooMany__init cd_TooMany__init ct_TooMany__init), sl_TooMany__init⟩)
    (hc_TooMany__init : PySem.W.codeIn K cd_TooMany__init "TooMany.__init__" = true)
    (hk_TooMany__init : PySem.W.keepIn K (.ref f_TooMany__init) = true)
    (ha_BadPlaces__init : PySem.W.findIn K (.ref C_BadPlaces) "__init__" = some (some (.ref f_BadPlaces__init)))
    (hi_BadPlaces__init : PySem.W.isFn K (.ref f_BadPlaces__init) = true)
    (hl_BadPlaces__init : K.lookup f_BadPlaces__init = some ⟨oc_BadPlaces__init, od_BadPlaces__init, .func (PySem.W.fnOf "__init__" "BadPlaces.__init__" (fnArgs s_BadPlaces__init) (fnBody s_BadPlaces__init) (fnScope s_BadPlaces__init) .none kV_BadPlaces__init dc_BadPlaces__init pm_BadPlaces__init an_BadPlaces__init cd_BadPlaces__init ct_BadPlaces__init), sl_BadPlaces__init⟩)
    (hc_BadPlaces__init : PySem.W.codeIn K cd_BadPlaces__init "BadPlaces.__init__" = true)
    (hk_BadPlaces__init : PySem.W.keepIn K (.ref f_BadPlaces__init) = true)
    (ha_BadTies__init : PySem.W.findIn K (.ref C_BadTies) "__init__" = some (some (.ref f_BadTies__init)))
    (hi_BadTies__init : PySem.W.isFn K (.ref f_BadTies__init) = true)
    (hl_BadTies__init : K.lookup f_BadTies__init = some ⟨oc_BadTies__init, od_BadTies__init, .func (PySem.W.fnOf "__init__" "BadTies.__init__" (fnArgs s_BadTies__init) (fnBody s_BadTies__init) (fnScope s_BadTies__init) .none kV_BadTies__init dc_BadTies__init pm_BadTies__init an_BadTies__init cd_BadTies__init ct_BadTies__init), sl_BadTies__init⟩)
    (hc_BadTies__init : PySem.W.codeIn K cd_BadTies__init "BadTies.__init__" = true)
    (hk_BadTies__init : PySem.W.keepIn K (.ref f_BadTies__init) = true)
    (ha_is_name : PySem.W.nsIn K mainGlobals "is_name" = some (some (.ref f_is_name)))
    (hl_is_name : K.lookup f_is_name = some ⟨oc_is_name, od_is_name, .func (PySem.W.fnOf "is_name" "is_name" (fnArgs s_is_name) (fnBody s_is_name) (fnScope s_is_name) .none kV_is_name dc_is_name pm_is_name an_is_name cd_is_name ct_is_name), sl_is_name⟩)
    (hc_is_name : PySem.W.codeIn K cd_is_name "is_name" = true)
    (hk_is_name : PySem.W.keepIn K (.ref f_is_name) = true)
    (ha_first_wrong : PySem.W.nsIn K mainGlobals "first_wrong" = some (some (.ref f_first_wrong)))
    (hl_first_wrong : K.lookup f_first_wrong = some ⟨oc_first_wrong, od_first_wrong, .func (PySem.W.fnOf "first_wrong" "first_wrong" (fnArgs s_first_wrong) (fnBody s_first_wrong) (fnScope s_first_wrong) .none kV_first_wrong dc_first_wrong pm_first_wrong an_first_wrong cd_first_wrong ct_first_wrong), sl_first_wrong⟩)
    (hc_first_wrong : PySem.W.codeIn K cd_first_wrong "first_wrong" = true)
    (hk_first_wrong : PySem.W.keepIn K (.ref f_first_wrong) = true)
    (ha_sorted_places : PySem.W.nsIn K mainGlobals "sorted_places" = some (some (.ref f_sorted_places)))
    (hl_sorted_places : K.lookup f_sorted_places = some ⟨oc_sorted_places, od_sorted_places, .func (PySem.W.fnOf "sorted_places" "sorted_places" (fnArgs s_sorted_places) (fnBody s_sorted_places) (fnScope s_sorted_places) .none kV_sorted_places dc_sorted_places pm_sorted_places an_sorted_places cd_sorted_places ct_sorted_places), sl_sorted_places⟩)
    (hc_sorted_places : PySem.W.codeIn K cd_sorted_places "sorted_places" = true)
    (hk_sorted_places : PySem.W.keepIn K (.ref f_sorted_places) = true)
    (ha_Web__init : PySem.W.findIn K (.ref C_Web) "__init__" = some (some (.ref f_Web__init)))
    (hi_Web__init : PySem.W.isFn K (.ref f_Web__init) = true)
    (hl_Web__init : K.lookup f_Web__init = some ⟨oc_Web__init, od_Web__init, .func (PySem.W.fnOf "__init__" "Web.__init__" (fnArgs s_Web__init) (fnBody s_Web__init) (fnScope s_Web__init) .none kV_Web__init dc_Web__init pm_Web__init an_Web__init cd_Web__init ct_Web__init), sl_Web__init⟩)
    (hc_Web__init : PySem.W.codeIn K cd_Web__init "Web.__init__" = true)
    (hk_Web__init : PySem.W.keepIn K (.ref f_Web__init) = true)
    (ha_Web_places : PySem.W.findIn K (.ref C_Web) "places" = some (some (.ref f_Web_places)))
    (hi_Web_places : PySem.W.isFn K (.ref f_Web_places) = true)
    (hl_Web_places : K.lookup f_Web_places = some ⟨oc_Web_places, od_Web_places, .func (PySem.W.fnOf "places" "Web.places" (fnArgs s_Web_places) (fnBody s_Web_places) (fnScope s_Web_places) .none kV_Web_places dc_Web_places pm_Web_places an_Web_places cd_Web_places ct_Web_places), sl_Web_places⟩)
    (hc_Web_places : PySem.W.codeIn K cd_Web_places "Web.places" = true)
    (hk_Web_places : PySem.W.keepIn K (.ref f_Web_places) = true)
    (ha_Web_ties : PySem.W.findIn K (.ref C_Web) "ties" = some (some (.ref f_Web_ties)))
    (hi_Web_ties : PySem.W.isFn K (.ref f_Web_ties) = true)
    (hl_Web_ties : K.lookup f_Web_ties = some ⟨oc_Web_ties, od_Web_ties, .func (PySem.W.fnOf "ties" "Web.ties" (fnArgs s_Web_ties) (fnBody s_Web_ties) (fnScope s_Web_ties) .none kV_Web_ties dc_Web_ties pm_Web_ties an_Web_ties cd_Web_ties ct_Web_ties), sl_Web_ties⟩)
    (hc_Web_ties : PySem.W.codeIn K cd_Web_ties "Web.ties" = true)
    (hk_Web_ties : PySem.W.keepIn K (.ref f_Web_ties) = true)
    (ha_Web_ends : PySem.W.findIn K (.ref C_Web) "ends" = some (some (.ref f_Web_ends)))
    (hi_Web_ends : PySem.W.isFn K (.ref f_Web_ends) = true)
    (hl_Web_ends : K.lookup f_Web_ends = some ⟨oc_Web_ends, od_Web_ends, .func (PySem.W.fnOf "ends" "Web.ends" (fnArgs s_Web_ends) (fnBody s_Web_ends) (fnScope s_Web_ends) .none kV_Web_ends dc_Web_ends pm_Web_ends an_Web_ends cd_Web_ends ct_Web_ends), sl_Web_ends⟩)
    (hc_Web_ends : PySem.W.codeIn K cd_Web_ends "Web.ends" = true)
    (hk_Web_ends : PySem.W.keepIn K (.ref f_Web_ends) = true)
    (ha_Web__eq : PySem.W.findIn K (.ref C_Web) "__eq__" = some (some (.ref f_Web__eq)))
    (hi_Web__eq : PySem.W.isFn K (.ref f_Web__eq) = true)
    (hl_Web__eq : K.lookup f_Web__eq = some ⟨oc_Web__eq, od_Web__eq, .func (PySem.W.fnOf "__eq__" "Web.__eq__" (fnArgs s_Web__eq) (fnBody s_Web__eq) (fnScope s_Web__eq) .none kV_Web__eq dc_Web__eq pm_Web__eq an_Web__eq cd_Web__eq ct_Web__eq), sl_Web__eq⟩)
    (hc_Web__eq : PySem.W.codeIn K cd_Web__eq "Web.__eq__" = true)
    (hk_Web__eq : PySem.W.keepIn K (.ref f_Web__eq) = true)
    (ha_checked_ties : PySem.W.nsIn K mainGlobals "_checked_ties" = some (some (.ref f_checked_ties)))
    (hl_checked_ties : K.lookup f_checked_ties = some ⟨oc_checked_ties, od_checked_ties, .func (PySem.W.fnOf "_checked_ties" "_checked_ties" (fnArgs s_checked_ties) (fnBody s_checked_ties) (fnScope s_checked_ties) .none kV_checked_ties dc_checked_ties pm_checked_ties an_checked_ties cd_checked_ties ct_checked_ties), sl_checked_ties⟩)
    (hc_checked_ties : PySem.W.codeIn K cd_checked_ties "_checked_ties" = true)
    (hk_checked_ties : PySem.W.keepIn K (.ref f_checked_ties) = true)
    (ha_are_ends : PySem.W.nsIn K mainGlobals "_are_ends" = some (some (.ref f_are_ends)))
    (hl_are_ends : K.lookup f_are_ends = some ⟨oc_are_ends, od_are_ends, .func (PySem.W.fnOf "_are_ends" "_are_ends" (fnArgs s_are_ends) (fnBody s_are_ends) (fnScope s_are_ends) .none kV_are_ends dc_are_ends pm_are_ends an_are_ends cd_are_ends ct_are_ends), sl_are_ends⟩)
    (hc_are_ends : PySem.W.codeIn K cd_are_ends "_are_ends" = true)
    (hk_are_ends : PySem.W.keepIn K (.ref f_are_ends) = true)
    (ha_law_source : PySem.W.nsIn K mainGlobals "_law_source" = some (some (.ref f_law_source)))
    (hl_law_source : K.lookup f_law_source = some ⟨oc_law_source, od_law_source, .func (PySem.W.fnOf "_law_source" "_law_source" (fnArgs s_law_source) (fnBody s_law_source) (fnScope s_law_source) .none kV_law_source dc_law_source pm_law_source an_law_source cd_law_source ct_law_source), sl_law_source⟩)
    (hc_law_source : PySem.W.codeIn K cd_law_source "_law_source" = true)
    (hk_law_source : PySem.W.keepIn K (.ref f_law_source) = true)
    (ha_law_draw : PySem.W.nsIn K mainGlobals "_law_draw" = some (some (.ref f_law_draw)))
    (hl_law_draw : K.lookup f_law_draw = some ⟨oc_law_draw, od_law_draw, .func (PySem.W.fnOf "_law_draw" "_law_draw" (fnArgs s_law_draw) (fnBody s_law_draw) (fnScope s_law_draw) .none kV_law_draw dc_law_draw pm_law_draw an_law_draw cd_law_draw ct_law_draw), sl_law_draw⟩)
    (hc_law_draw : PySem.W.codeIn K cd_law_draw "_law_draw" = true)
    (hk_law_draw : PySem.W.keepIn K (.ref f_law_draw) = true)
    (ha_law_pick : PySem.W.nsIn K mainGlobals "_law_pick" = some (some (.ref f_law_pick)))
    (hl_law_pick : K.lookup f_law_pick = some ⟨oc_law_pick, od_law_pick, .func (PySem.W.fnOf "_law_pick" "_law_pick" (fnArgs s_law_pick) (fnBody s_law_pick) (fnScope s_law_pick) .none kV_law_pick dc_law_pick pm_law_pick an_law_pick cd_law_pick ct_law_pick), sl_law_pick⟩)
    (hc_law_pick : PySem.W.codeIn K cd_law_pick "_law_pick" = true)
    (hk_law_pick : PySem.W.keepIn K (.ref f_law_pick) = true)
    (ha_law_names : PySem.W.nsIn K mainGlobals "_law_names" = some (some (.ref f_law_names)))
    (hl_law_names : K.lookup f_law_names = some ⟨oc_law_names, od_law_names, .func (PySem.W.fnOf "_law_names" "_law_names" (fnArgs s_law_names) (fnBody s_law_names) (fnScope s_law_names) .none kV_law_names dc_law_names pm_law_names an_law_names cd_law_names ct_law_names), sl_law_names⟩)
    (hc_law_names : PySem.W.codeIn K cd_law_names "_law_names" = true)
    (hk_law_names : PySem.W.keepIn K (.ref f_law_names) = true)
    (ha_law_shuffled : PySem.W.nsIn K mainGlobals "_law_shuffled" = some (some (.ref f_law_shuffled)))
    (hl_law_shuffled : K.lookup f_law_shuffled = some ⟨oc_law_shuffled, od_law_shuffled, .func (PySem.W.fnOf "_law_shuffled" "_law_shuffled" (fnArgs s_law_shuffled) (fnBody s_law_shuffled) (fnScope s_law_shuffled) .none kV_law_shuffled dc_law_shuffled pm_law_shuffled an_law_shuffled cd_law_shuffled ct_law_shuffled), sl_law_shuffled⟩)
    (hc_law_shuffled : PySem.W.codeIn K cd_law_shuffled "_law_shuffled" = true)
    (hk_law_shuffled : PySem.W.keepIn K (.ref f_law_shuffled) = true)
    (ha_law_is_name : PySem.W.nsIn K mainGlobals "_law_is_name" = some (some (.ref f_law_is_name)))
    (hl_law_is_name : K.lookup f_law_is_name = some ⟨oc_law_is_name, od_law_is_name, .func (PySem.W.fnOf "_law_is_name" "_law_is_name" (fnArgs s_law_is_name) (fnBody s_law_is_name) (fnScope s_law_is_name) .none kV_law_is_name dc_law_is_name pm_law_is_name an_law_is_name cd_law_is_name ct_law_is_name), sl_law_is_name⟩)
    (hc_law_is_name : PySem.W.codeIn K cd_law_is_name "_law_is_name" = true)
    (hk_law_is_name : PySem.W.keepIn K (.ref f_law_is_name) = true)
    (ha_law_due : PySem.W.nsIn K mainGlobals "_law_due" = some (some (.ref f_law_due)))
    (hl_law_due : K.lookup f_law_due = some ⟨oc_law_due, od_law_due, .func (PySem.W.fnOf "_law_due" "_law_due" (fnArgs s_law_due) (fnBody s_law_due) (fnScope s_law_due) .none kV_law_due dc_law_due pm_law_due an_law_due cd_law_due ct_law_due), sl_law_due⟩)
    (hc_law_due : PySem.W.codeIn K cd_law_due "_law_due" = true)
    (hk_law_due : PySem.W.keepIn K (.ref f_law_due) = true)
    (ha_law_told : PySem.W.nsIn K mainGlobals "_law_told" = some (some (.ref f_law_told)))
    (hl_law_told : K.lookup f_law_told = some ⟨oc_law_told, od_law_told, .func (PySem.W.fnOf "_law_told" "_law_told" (fnArgs s_law_told) (fnBody s_law_told) (fnScope s_law_told) .none kV_law_told dc_law_told pm_law_told an_law_told cd_law_told ct_law_told), sl_law_told⟩)
    (hc_law_told : PySem.W.codeIn K cd_law_told "_law_told" = true)
    (hk_law_told : PySem.W.keepIn K (.ref f_law_told) = true)
    (ha_law_drawn : PySem.W.nsIn K mainGlobals "_law_drawn" = some (some (.ref f_law_drawn)))
    (hl_law_drawn : K.lookup f_law_drawn = some ⟨oc_law_drawn, od_law_drawn, .func (PySem.W.fnOf "_law_drawn" "_law_drawn" (fnArgs s_law_drawn) (fnBody s_law_drawn) (fnScope s_law_drawn) .none kV_law_drawn dc_law_drawn pm_law_drawn an_law_drawn cd_law_drawn ct_law_drawn), sl_law_drawn⟩)
    (hc_law_drawn : PySem.W.codeIn K cd_law_drawn "_law_drawn" = true)
    (hk_law_drawn : PySem.W.keepIn K (.ref f_law_drawn) = true)
    (ha_law_spoiled : PySem.W.nsIn K mainGlobals "_law_spoiled" = some (some (.ref f_law_spoiled)))
    (hl_law_spoiled : K.lookup f_law_spoiled = some ⟨oc_law_spoiled, od_law_spoiled, .func (PySem.W.fnOf "_law_spoiled" "_law_spoiled" (fnArgs s_law_spoiled) (fnBody s_law_spoiled) (fnScope s_law_spoiled) .none kV_law_spoiled dc_law_spoiled pm_law_spoiled an_law_spoiled cd_law_spoiled ct_law_spoiled), sl_law_spoiled⟩)
    (hc_law_spoiled : PySem.W.codeIn K cd_law_spoiled "_law_spoiled" = true)
    (hk_law_spoiled : PySem.W.keepIn K (.ref f_law_spoiled) = true)
    (ha_law_ends_refused : PySem.W.nsIn K mainGlobals "_law_ends_refused" = some (some (.ref f_law_ends_refused)))
    (hl_law_ends_refused : K.lookup f_law_ends_refused = some ⟨oc_law_ends_refused, od_law_ends_refused, .func (PySem.W.fnOf "_law_ends_refused" "_law_ends_refused" (fnArgs s_law_ends_refused) (fnBody s_law_ends_refused) (fnScope s_law_ends_refused) .none kV_law_ends_refused dc_law_ends_refused pm_law_ends_refused an_law_ends_refused cd_law_ends_refused ct_law_ends_refused), sl_law_ends_refused⟩)
    (hc_law_ends_refused : PySem.W.codeIn K cd_law_ends_refused "_law_ends_refused" = true)
    (hk_law_ends_refused : PySem.W.keepIn K (.ref f_law_ends_refused) = true)
    (ha_law_web_right : PySem.W.nsIn K mainGlobals "_law_web_right" = some (some (.ref f_law_web_right)))
    (hl_law_web_right : K.lookup f_law_web_right = some ⟨oc_law_web_right, od_law_web_right, .func (PySem.W.fnOf "_law_web_right" "_law_web_right" (fnArgs s_law_web_right) (fnBody s_law_web_right) (fnScope s_law_web_right) .none kV_law_web_right dc_law_web_right pm_law_web_right an_law_web_right cd_law_web_right ct_law_web_right), sl_law_web_right⟩)
    (hc_law_web_right : PySem.W.codeIn K cd_law_web_right "_law_web_right" = true)
    (hk_law_web_right : PySem.W.keepIn K (.ref f_law_web_right) = true)
    (ha_law_right : PySem.W.nsIn K mainGlobals "_law_right" = some (some (.ref f_law_right)))
    (hl_law_right : K.lookup f_law_right = some ⟨oc_law_right, od_law_right, .func (PySem.W.fnOf "_law_right" "_law_right" (fnArgs s_law_right) (fnBody s_law_right) (fnScope s_law_right) .none kV_law_right dc_law_right pm_law_right an_law_right cd_law_right ct_law_right), sl_law_right⟩)
    (hc_law_right : PySem.W.codeIn K cd_law_right "_law_right" = true)
    (hk_law_right : PySem.W.keepIn K (.ref f_law_right) = true)
    (ha_law : PySem.W.nsIn K mainGlobals "law" = some (some (.ref f_law)))
    (hl_law : K.lookup f_law = some ⟨oc_law, od_law, .func (PySem.W.fnOf "law" "law" (fnArgs s_law) (fnBody s_law) (fnScope s_law) .none kV_law dc_law pm_law an_law cd_law ct_law), sl_law⟩)
    (hc_law : PySem.W.codeIn K cd_law "law" = true)
    (hk_law : PySem.W.keepIn K (.ref f_law) = true)
    (pg_Web : PySem.W.plainGet K C_Web Str.empty = true)
    (hd_Web : PySem.W.hasDictIn K C_Web = true)
    (po_Web : PySem.W.plainOver K C_Web = true)
    (sa_Web : PySem.W.findIn K (.ref C_Web) "__setattr__" = some (some (.builtin "object.__setattr__")))
    (mk_Web : PySem.W.makesIn K C_Web = true)
    (kc_Web : PySem.W.keepIn K (.ref C_Web) = true)
    (na_Web__places : PySem.W.findIn K (.ref C_Web) "_places" = some none)
    (na_Web__ties : PySem.W.findIn K (.ref C_Web) "_ties" = some none)
    (wc_Web : PySem.W.findIn K (.ref C_Web) "__class__" = some (some (.builtin "object.__class__")))
    (wg_Web : PySem.W.specialIn K (.builtin "object.__class__") "__get__" = some (some (.builtin "getset_descriptor.__get__")))
    (wt_Web : PySem.W.takesIn K (.builtin "object.__class__") = some true)
    (wm_Web : PySem.W.mroIn K C_Web (.type "object") = some true)
    (xo_Web : K.lookup C_Web = some (excClassObj nm_Web qn_Web C_Web NS_Web bs_Web [.type "object"] hd2_Web sn_Web sub_Web ab_Web col_Web dd_Web k0_Web k1_Web k2_Web k3_Web k5_Web ni_Web))
    (xe_Web : PySem.W.findIn K (.ref C_Web) "__ne__" = some (some (.builtin "object.__ne__")))
    (xL_NoThing : K.lookup C_NoThing = some (excClassObj nm_NoThing qn_NoThing C_NoThing NS_NoThing bs_NoThing [.ref C_LotError, .type "ValueError", .type "Exception", .type "BaseException", .type "object"] true sn_NoThing sub_NoThing ab_NoThing col_NoThing dd_NoThing k0_NoThing k1_NoThing k2_NoThing k3_NoThing k5_NoThing "ValueError.__new__"))
    (xs_NoThing : PySem.W.findIn K (.ref C_NoThing) "__setattr__" = some (some (.builtin "object.__setattr__")))
    (xb_NoThing : PySem.W.subIn K (.ref C_NoThing) (.type "BaseException") = some true)
    (xt_NoThing : PySem.W.typeIn K (.ref C_NoThing) = some (.type "type"))
    (xk_NoThing : PySem.W.keepIn K (.ref C_NoThing) = true)
    (xg_NoThing : PySem.W.findIn K (.ref C_NoThing) "__getattribute__" = some (some (.builtin "BaseException.__getattribute__")))
    (xn_NoThing : PySem.W.findIn K (.ref C_NoThing) "__getattr__" = some none)
    (xd_NoThing : PySem.W.hasDictIn K C_NoThing = true)
    (nx_NoThing_thing : PySem.W.findIn K (.ref C_NoThing) "thing" = some none)
    (xL_TooMany : K.lookup C_TooMany = some (excClassObj nm_TooMany qn_TooMany C_TooMany NS_TooMany bs_TooMany [.ref C_LotError, .type "ValueError", .type "Exception", .type "BaseException", .type "object"] true sn_TooMany sub_TooMany ab_TooMany col_TooMany dd_TooMany k0_TooMany k1_TooMany k2_TooMany k3_TooMany k5_TooMany "ValueError.__new__"))
    (xs_TooMany : PySem.W.findIn K (.ref C_TooMany) "__setattr__" = some (some (.builtin "object.__setattr__")))
    (xb_TooMany : PySem.W.subIn K (.ref C_TooMany) (.type "BaseException") = some true)
    (xt_TooMany : PySem.W.typeIn K (.ref C_TooMany) = some (.type "type"))
    (xk_TooMany : PySem.W.keepIn K (.ref C_TooMany) = true)
    (xg_TooMany : PySem.W.findIn K (.ref C_TooMany) "__getattribute__" = some (some (.builtin "BaseException.__getattribute__")))
    (xn_TooMany : PySem.W.findIn K (.ref C_TooMany) "__getattr__" = some none)
    (xd_TooMany : PySem.W.hasDictIn K C_TooMany = true)
    (nx_TooMany_limit : PySem.W.findIn K (.ref C_TooMany) "limit" = some none)
    (xL_BadPlaces : K.lookup C_BadPlaces = some (excClassObj nm_BadPlaces qn_BadPlaces C_BadPlaces NS_BadPlaces bs_BadPlaces [.ref C_LotError, .type "ValueError", .type "Exception", .type "BaseException", .type "object"] true sn_BadPlaces sub_BadPlaces ab_BadPlaces col_BadPlaces dd_BadPlaces k0_BadPlaces k1_BadPlaces k2_BadPlaces k3_BadPlaces k5_BadPlaces "ValueError.__new__"))
    (xs_BadPlaces : PySem.W.findIn K (.ref C_BadPlaces) "__setattr__" = some (some (.builtin "object.__setattr__")))
    (xb_BadPlaces : PySem.W.subIn K (.ref C_BadPlaces) (.type "BaseException") = some true)
    (xt_BadPlaces : PySem.W.typeIn K (.ref C_BadPlaces) = some (.type "type"))
    (xk_BadPlaces : PySem.W.keepIn K (.ref C_BadPlaces) = true)
    (xg_BadPlaces : PySem.W.findIn K (.ref C_BadPlaces) "__getattribute__" = some (some (.builtin "BaseException.__getattribute__")))
    (xn_BadPlaces : PySem.W.findIn K (.ref C_BadPlaces) "__getattr__" = some none)
    (xd_BadPlaces : PySem.W.hasDictIn K C_BadPlaces = true)
    (nx_BadPlaces_index : PySem.W.findIn K (.ref C_BadPlaces) "index" = some none)
    (xL_BadTies : K.lookup C_BadTies = some (excClassObj nm_BadTies qn_BadTies C_BadTies NS_BadTies bs_BadTies [.ref C_LotError, .type "ValueError", .type "Exception", .type "BaseException", .type "object"] true sn_BadTies sub_BadTies ab_BadTies col_BadTies dd_BadTies k0_BadTies k1_BadTies k2_BadTies k3_BadTies k5_BadTies "ValueError.__new__"))
    (xs_BadTies : PySem.W.findIn K (.ref C_BadTies) "__setattr__" = some (some (.builtin "object.__setattr__")))
    (xb_BadTies : PySem.W.subIn K (.ref C_BadTies) (.type "BaseException") = some true)
    (xt_BadTies : PySem.W.typeIn K (.ref C_BadTies) = some (.type "type"))
    (xk_BadTies : PySem.W.keepIn K (.ref C_BadTies) = true)
    (xg_BadTies : PySem.W.findIn K (.ref C_BadTies) "__getattribute__" = some (some (.builtin "BaseException.__getattribute__")))
    (xn_BadTies : PySem.W.findIn K (.ref C_BadTies) "__getattr__" = some none)
    (xd_BadTies : PySem.W.hasDictIn K C_BadTies = true)
    (nx_BadTies_name : PySem.W.findIn K (.ref C_BadTies) "name" = some none)
    (ic_BadPlaces : PySem.W.isClsIn K C_BadPlaces = true)
    (yt_BadPlaces : PySem.W.typeIn K (.ref C_BadPlaces) = some (.type "type"))
    (sb_BadPlaces_BadPlaces : PySem.W.subIn K (.ref C_BadPlaces) (.ref C_BadPlaces) = some true)
    (sb_BadTies_BadPlaces : PySem.W.subIn K (.ref C_BadTies) (.ref C_BadPlaces) = some false)
    (ic_BadTies : PySem.W.isClsIn K C_BadTies = true)
    (yt_BadTies : PySem.W.typeIn K (.ref C_BadTies) = some (.type "type"))
    (sb_BadTies_BadTies : PySem.W.subIn K (.ref C_BadTies) (.ref C_BadTies) = some true)
    (sb_TooMany_BadPlaces : PySem.W.subIn K (.ref C_TooMany) (.ref C_BadPlaces) = some false)
    (sb_TooMany_BadTies : PySem.W.subIn K (.ref C_TooMany) (.ref C_BadTies) = some false)
    (ic_TooMany : PySem.W.isClsIn K C_TooMany = true)
    (yt_TooMany : PySem.W.typeIn K (.ref C_TooMany) = some (.type "type"))
    (sb_TooMany_TooMany : PySem.W.subIn K (.ref C_TooMany) (.ref C_TooMany) = some true)
    (ic_NoThing : PySem.W.isClsIn K C_NoThing = true)
    (yt_NoThing : PySem.W.typeIn K (.ref C_NoThing) = some (.type "type"))
    (sb_NoThing_NoThing : PySem.W.subIn K (.ref C_NoThing) (.ref C_NoThing) = some true)
    (z_all : PySem.W.nsIn K mainGlobals "all" = some none)
    (z_any : PySem.W.nsIn K mainGlobals "any" = some none)
    (z_dict : PySem.W.nsIn K mainGlobals "dict" = some none)
    (z_enumerate : PySem.W.nsIn K mainGlobals "enumerate" = some none)
    (z_int : PySem.W.nsIn K mainGlobals "int" = some none)
    (z_isinstance : PySem.W.nsIn K mainGlobals "isinstance" = some none)
    (z_len : PySem.W.nsIn K mainGlobals "len" = some none)
    (z_list : PySem.W.nsIn K mainGlobals "list" = some none)
    (z_range : PySem.W.nsIn K mainGlobals "range" = some none)
    (z_set : PySem.W.nsIn K mainGlobals "set" = some none)
    (z_sorted : PySem.W.nsIn K mainGlobals "sorted" = some none)
    (z_str : PySem.W.nsIn K mainGlobals "str" = some none)
    (z_tuple : PySem.W.nsIn K mainGlobals "tuple" = some none)
    (g_LONGEST_NAME : PySem.W.nsIn K mainGlobals "LONGEST_NAME" = some (some (.int 8 tk_LONGEST_NAME)))
    (g_MOST_WEB_PLACES : PySem.W.nsIn K mainGlobals "MOST_WEB_PLACES" = some (some (.int 16 tk_MOST_WEB_PLACES)))
    (g_MOST_TIES : PySem.W.nsIn K mainGlobals "MOST_TIES" = some (some (.int 24 tk_MOST_TIES)))
    : ∃ A : Ad, Txt K mg A ∧ ∀ (s : Shared) (u : Value), BindsTo s A.fd_law ⟨[u], []⟩ [("script", u)] :=
  ⟨{ C_LotError := C_LotError, C_NoThing := C_NoThing, C_TooMany := C_TooMany, C_BadPlaces := C_BadPlaces, C_BadTies := C_BadTies, C_Web := C_Web, f_NoThing__init := f_NoThing__init, fd_NoThing__init := (PySem.W.fnOf "__init__" "NoThing.__init__" (fnArgs s_NoThing__init) (fnBody s_NoThing__init) (fnScope s_NoThing__init) .none kV_NoThing__init dc_NoThing__init pm_NoThing__init an_NoThing__init cd_NoThing__init ct_NoThing__init), f_TooMany__init := f_TooMany__init, fd_TooMany__init := (PySem.W.fnOf "__init__" "TooMany.__init__" (fnArgs s_TooMany__init) (fnBody s_TooMany__init) (fnScope s_TooMany__init) .none kV_TooMany__init dc_TooMany__init pm_TooMany__init an_TooMany__init cd_TooMany__init ct_TooMany__init), f_BadPlaces__init := f_BadPlaces__init, fd_BadPlaces__init := (PySem.W.fnOf "__init__" "BadPlaces.__init__" (fnArgs s_BadPlaces__init) (fnBody s_BadPlaces__init) (fnScope s_BadPlaces__init) .none kV_BadPlaces__init dc_BadPlaces__init pm_BadPlaces__init an_BadPlaces__init cd_BadPlaces__init ct_BadPlaces__init), f_BadTies__init := f_BadTies__init, fd_BadTies__init := (PySem.W.fnOf "__init__" "BadTies.__init__" (fnArgs s_BadTies__init) (fnBody s_BadTies__init) (fnScope s_BadTies__init) .none kV_BadTies__init dc_BadTies__init pm_BadTies__init an_BadTies__init cd_BadTies__init ct_BadTies__init), f_is_name := f_is_name, fd_is_name := (PySem.W.fnOf "is_name" "is_name" (fnArgs s_is_name) (fnBody s_is_name) (fnScope s_is_name) .none kV_is_name dc_is_name pm_is_name an_is_name cd_is_name ct_is_name), f_first_wrong := f_first_wrong, fd_first_wrong := (PySem.W.fnOf "first_wrong" "first_wrong" (fnArgs s_first_wrong) (fnBody s_first_wrong) (fnScope s_first_wrong) .none kV_first_wrong dc_first_wrong pm_first_wrong an_first_wrong cd_first_wrong ct_first_wrong), f_sorted_places := f_sorted_places, fd_sorted_places := (PySem.W.fnOf "sorted_places" "sorted_places" (fnArgs s_sorted_places) (fnBody s_sorted_places) (fnScope s_sorted_places) .none kV_sorted_places dc_sorted_places pm_sorted_places an_sorted_places cd_sorted_places ct_sorted_places), f_Web__init := f_Web__init, fd_Web__init := (PySem.W.fnOf "__init__" "Web.__init__" (fnArgs s_Web__init) (fnBody s_Web__init) (fnScope s_Web__init) .none kV_Web__init dc_Web__init pm_Web__init an_Web__init cd_Web__init ct_Web__init), f_Web_places := f_Web_places, fd_Web_places := (PySem.W.fnOf "places" "Web.places" (fnArgs s_Web_places) (fnBody s_Web_places) (fnScope s_Web_places) .none kV_Web_places dc_Web_places pm_Web_places an_Web_places cd_Web_places ct_Web_places), f_Web_ties := f_Web_ties, fd_Web_ties := (PySem.W.fnOf "ties" "Web.ties" (fnArgs s_Web_ties) (fnBody s_Web_ties) (fnScope s_Web_ties) .none kV_Web_ties dc_Web_ties pm_Web_ties an_Web_ties cd_Web_ties ct_Web_ties), f_Web_ends := f_Web_ends, fd_Web_ends := (PySem.W.fnOf "ends" "Web.ends" (fnArgs s_Web_ends) (fnBody s_Web_ends) (fnScope s_Web_ends) .none kV_Web_ends dc_Web_ends pm_Web_ends an_Web_ends cd_Web_ends ct_Web_ends), f_Web__eq := f_Web__eq, fd_Web__eq := (PySem.W.fnOf "__eq__" "Web.__eq__" (fnArgs s_Web__eq) (fnBody s_Web__eq) (fnScope s_Web__eq) .none kV_Web__eq dc_Web__eq pm_Web__eq an_Web__eq cd_Web__eq ct_Web__eq), f_checked_ties := f_checked_ties, fd_checked_ties := (PySem.W.fnOf "_checked_ties" "_checked_ties" (fnArgs s_checked_ties) (fnBody s_checked_ties) (fnScope s_checked_ties) .none kV_checked_ties dc_checked_ties pm_checked_ties an_checked_ties cd_checked_ties ct_checked_ties), f_are_ends := f_are_ends, fd_are_ends := (PySem.W.fnOf "_are_ends" "_are_ends" (fnArgs s_are_ends) (fnBody s_are_ends) (fnScope s_are_ends) .none kV_are_ends dc_are_ends pm_are_ends an_are_ends cd_are_ends ct_are_ends), f_law_source := f_law_source, fd_law_source := (PySem.W.fnOf "_law_source" "_law_source" (fnArgs s_law_source) (fnBody s_law_source) (fnScope s_law_source) .none kV_law_source dc_law_source pm_law_source an_law_source cd_law_source ct_law_source), f_law_draw := f_law_draw, fd_law_draw := (PySem.W.fnOf "_law_draw" "_law_draw" (fnArgs s_law_draw) (fnBody s_law_draw) (fnScope s_law_draw) .none kV_law_draw dc_law_draw pm_law_draw an_law_draw cd_law_draw ct_law_draw), f_law_pick := f_law_pick, fd_law_pick := (PySem.W.fnOf "_law_pick" "_law_pick" (fnArgs s_law_pick) (fnBody s_law_pick) (fnScope s_law_pick) .none kV_law_pick dc_law_pick pm_law_pick an_law_pick cd_law_pick ct_law_pick), f_law_names := f_law_names, fd_law_names := (PySem.W.fnOf "_law_names" "_law_names" (fnArgs s_law_names) (fnBody s_law_names) (fnScope s_law_names) .none kV_law_names dc_law_names pm_law_names an_law_names cd_law_names ct_law_names), f_law_shuffled := f_law_shuffled, fd_law_shuffled := (PySem.W.fnOf "_law_shuffled" "_law_shuffled" (fnArgs s_law_shuffled) (fnBody s_law_shuffled) (fnScope s_law_shuffled) .none kV_law_shuffled dc_law_shuffled pm_law_shuffled an_law_shuffled cd_law_shuffled ct_law_shuffled), f_law_is_name := f_law_is_name, fd_law_is_name := (PySem.W.fnOf "_law_is_name" "_law_is_name" (fnArgs s_law_is_name) (fnBody s_law_is_name) (fnScope s_law_is_name) .none kV_law_is_name dc_law_is_name pm_law_is_name an_law_is_name cd_law_is_name ct_law_is_name), f_law_due := f_law_due, fd_law_due := (PySem.W.fnOf "_law_due" "_law_due" (fnArgs s_law_due) (fnBody s_law_due) (fnScope s_law_due) .none kV_law_due dc_law_due pm_law_due an_law_due cd_law_due ct_law_due), f_law_told := f_law_told, fd_law_told := (PySem.W.fnOf "_law_told" "_law_told" (fnArgs s_law_told) (fnBody s_law_told) (fnScope s_law_told) .none kV_law_told dc_law_told pm_law_told an_law_told cd_law_told ct_law_told), f_law_drawn := f_law_drawn, fd_law_drawn := (PySem.W.fnOf "_law_drawn" "_law_drawn" (fnArgs s_law_drawn) (fnBody s_law_drawn) (fnScope s_law_drawn) .none kV_law_drawn dc_law_drawn pm_law_drawn an_law_drawn cd_law_drawn ct_law_drawn), f_law_spoiled := f_law_spoiled, fd_law_spoiled := (PySem.W.fnOf "_law_spoiled" "_law_spoiled" (fnArgs s_law_spoiled) (fnBody s_law_spoiled) (fnScope s_law_spoiled) .none kV_law_spoiled dc_law_spoiled pm_law_spoiled an_law_spoiled cd_law_spoiled ct_law_spoiled), f_law_ends_refused := f_law_ends_refused, fd_law_ends_refused := (PySem.W.fnOf "_law_ends_refused" "_law_ends_refused" (fnArgs s_law_ends_refused) (fnBody s_law_ends_refused) (fnScope s_law_ends_refused) .none kV_law_ends_refused dc_law_ends_refused pm_law_ends_refused an_law_ends_refused cd_law_ends_refused ct_law_ends_refused), f_law_web_right := f_law_web_right, fd_law_web_right := (PySem.W.fnOf "_law_web_right" "_law_web_right" (fnArgs s_law_web_right) (fnBody s_law_web_right) (fnScope s_law_web_right) .none kV_law_web_right dc_law_web_right pm_law_web_right an_law_web_right cd_law_web_right ct_law_web_right), f_law_right := f_law_right, fd_law_right := (PySem.W.fnOf "_law_right" "_law_right" (fnArgs s_law_right) (fnBody s_law_right) (fnScope s_law_right) .none kV_law_right dc_law_right pm_law_right an_law_right cd_law_right ct_law_right), f_law := f_law, fd_law := (PySem.W.fnOf "law" "law" (fnArgs s_law) (fnBody s_law) (fnScope s_law) .none kV_law dc_law pm_law an_law cd_law ct_law) },
  { gC_LotError := PySem.W.mg_of X G hgC_LotError,
    gC_NoThing := PySem.W.mg_of X G hgC_NoThing,
    gC_TooMany := PySem.W.mg_of X G hgC_TooMany,
    gC_BadPlaces := PySem.W.mg_of X G hgC_BadPlaces,
    gC_BadTies := PySem.W.mg_of X G hgC_BadTies,
    gC_Web := PySem.W.mg_of X G hgC_Web,
    u_NoThing__init := ⟨⟨oc_NoThing__init, od_NoThing__init, .none, kV_NoThing__init, dc_NoThing__init, pm_NoThing__init, an_NoThing__init, cd_NoThing__init, ct_NoThing__init, sl_NoThing__init, rfl, hl_NoThing__init, hc_NoThing__init⟩⟩,
    fi_NoThing__init := ha_NoThing__init,
    fn_NoThing__init := hi_NoThing__init,
    kp_NoThing__init := hk_NoThing__init,
    b_NoThing__init := C8.Fun.binds (st := s_NoThing__init) ⟨⟨oc_NoThing__init, od_NoThing__init, .none, kV_NoThing__init, dc_NoThing__init, pm_NoThing__init, an_NoThing__init, cd_NoThing__init, ct_NoThing__init, sl_NoThing__init, rfl, hl_NoThing__init, hc_NoThing__init⟩⟩ rfl (ps := ["self", "thing"]) fun _ _ _ _ _ _ us hl => match us, hl with | [_, _], _ => rfl,
    u_TooMany__init := ⟨⟨oc_TooMany__init, od_TooMany__init, .none, kV_TooMany__init, dc_TooMany__init, pm_TooMany__init, an_TooMany__init, cd_TooMany__init, ct_TooMany__init, sl_TooMany__init, rfl, hl_TooMany__init, hc_TooMany__init⟩⟩,
    fi_TooMany__init := ha_TooMany__init,
    fn_TooMany__init := hi_TooMany__init,
    kp_TooMany__init := hk_TooMany__init,
    b_TooMany__init := C8.Fun.binds (st := s_TooMany__init) ⟨⟨oc_TooMany__init, od_TooMany__init, .none, kV_TooMany__init, dc_TooMany__init, pm_TooMany__init, an_TooMany__init, cd_TooMany__init, ct_TooMany__init, sl_TooMany__init, rfl, hl_TooMany__init, hc_TooMany__init⟩⟩ rfl (ps := ["self", "limit"]) fun _ _ _ _ _ _ us hl => match us, hl with | [_, _], _ => rfl,
    u_BadPlaces__init := ⟨⟨oc_BadPlaces__init, od_BadPlaces__init, .none, kV_BadPlaces__init, dc_BadPlaces__init, pm_BadPlaces__init, an_BadPlaces__init, cd_BadPlaces__init, ct_BadPlaces__init, sl_BadPlaces__init, rfl, hl_BadPlaces__init, hc_BadPlaces__init⟩⟩,
    fi_BadPlaces__init := ha_BadPlaces__init,
    fn_BadPlaces__init := hi_BadPlaces__init,
    kp_BadPlaces__init := hk_BadPlaces__init,
    b_BadPlaces__init := C8.Fun.binds (st := s_BadPlaces__init) ⟨⟨oc_BadPlaces__init, od_BadPlaces__init, .none, kV_BadPlaces__init, dc_BadPlaces__init, pm_BadPlaces__init, an_BadPlaces__init, cd_BadPlaces__init, ct_BadPlaces__init, sl_BadPlaces__init, rfl, hl_BadPlaces__init, hc_BadPlaces__init⟩⟩ rfl (ps := ["self", "index"]) fun _ _ _ _ _ _ us hl => match us, hl with | [_, _], _ => rfl,
    u_BadTies__init := ⟨⟨oc_BadTies__init, od_BadTies__init, .none, kV_BadTies__init, dc_BadTies__init, pm_BadTies__init, an_BadTies__init, cd_BadTies__init, ct_BadTies__init, sl_BadTies__init, rfl, hl_BadTies__init, hc_BadTies__init⟩⟩,
    fi_BadTies__init := ha_BadTies__init,
    fn_BadTies__init := hi_BadTies__init,
    kp_BadTies__init := hk_BadTies__init,
    b_BadTies__init := C8.Fun.binds (st := s_BadTies__init) ⟨⟨oc_BadTies__init, od_BadTies__init, .none, kV_BadTies__init, dc_BadTies__init, pm_BadTies__init, an_BadTies__init, cd_BadTies__init, ct_BadTies__init, sl_BadTies__init, rfl, hl_BadTies__init, hc_BadTies__init⟩⟩ rfl (ps := ["self", "name"]) fun _ _ _ _ _ _ us hl => match us, hl with | [_, _], _ => rfl,
    d_is_name := ⟨⟨⟨oc_is_name, od_is_name, .none, kV_is_name, dc_is_name, pm_is_name, an_is_name, cd_is_name, ct_is_name, sl_is_name, rfl, hl_is_name, hc_is_name⟩⟩, PySem.W.mg_of X G ha_is_name, hk_is_name⟩,
    b_is_name := C8.Fun.binds (st := s_is_name) ⟨⟨oc_is_name, od_is_name, .none, kV_is_name, dc_is_name, pm_is_name, an_is_name, cd_is_name, ct_is_name, sl_is_name, rfl, hl_is_name, hc_is_name⟩⟩ rfl (ps := ["value"]) fun _ _ _ _ _ _ us hl => match us, hl with | [_], _ => rfl,
    d_first_wrong := ⟨⟨⟨oc_first_wrong, od_first_wrong, .none, kV_first_wrong, dc_first_wrong, pm_first_wrong, an_first_wrong, cd_first_wrong, ct_first_wrong, sl_first_wrong, rfl, hl_first_wrong, hc_first_wrong⟩⟩, PySem.W.mg_of X G ha_first_wrong, hk_first_wrong⟩,
    b_first_wrong := C8.Fun.binds (st := s_first_wrong) ⟨⟨oc_first_wrong, od_first_wrong, .none, kV_first_wrong, dc_first_wrong, pm_first_wrong, an_first_wrong, cd_first_wrong, ct_first_wrong, sl_first_wrong, rfl, hl_first_wrong, hc_first_wrong⟩⟩ rfl (ps := ["entries", "fits"]) fun _ _ _ _ _ _ us hl => match us, hl with | [_, _], _ => rfl,
    d_sorted_places := ⟨⟨⟨oc_sorted_places, od_sorted_places, .none, kV_sorted_places, dc_sorted_places, pm_sorted_places, an_sorted_places, cd_sorted_places, ct_sorted_places, sl_sorted_places, rfl, hl_sorted_places, hc_sorted_places⟩⟩, PySem.W.mg_of X G ha_sorted_places, hk_sorted_places⟩,
    b_sorted_places := C8.Fun.binds (st := s_sorted_places) ⟨⟨oc_sorted_places, od_sorted_places, .none, kV_sorted_places, dc_sorted_places, pm_sorted_places, an_sorted_places, cd_sorted_places, ct_sorted_places, sl_sorted_places, rfl, hl_sorted_places, hc_sorted_places⟩⟩ rfl (ps := ["places", "most"]) fun _ _ _ _ _ _ us hl => match us, hl with | [_, _], _ => rfl,
    u_Web__init := ⟨⟨oc_Web__init, od_Web__init, .none, kV_Web__init, dc_Web__init, pm_Web__init, an_Web__init, cd_Web__init, ct_Web__init, sl_Web__init, rfl, hl_Web__init, hc_Web__init⟩⟩,
    fi_Web__init := ha_Web__init,
    fn_Web__init := hi_Web__init,
    kp_Web__init := hk_Web__init,
    b_Web__init := C8.Fun.binds (st := s_Web__init) ⟨⟨oc_Web__init, od_Web__init, .none, kV_Web__init, dc_Web__init, pm_Web__init, an_Web__init, cd_Web__init, ct_Web__init, sl_Web__init, rfl, hl_Web__init, hc_Web__init⟩⟩ rfl (ps := ["self", "places", "ties"]) fun _ _ _ _ _ _ us hl => match us, hl with | [_, _, _], _ => rfl,
    u_Web_places := ⟨⟨oc_Web_places, od_Web_places, .none, kV_Web_places, dc_Web_places, pm_Web_places, an_Web_places, cd_Web_places, ct_Web_places, sl_Web_places, rfl, hl_Web_places, hc_Web_places⟩⟩,
    fi_Web_places := ha_Web_places,
    fn_Web_places := hi_Web_places,
    kp_Web_places := hk_Web_places,
    b_Web_places := C8.Fun.binds (st := s_Web_places) ⟨⟨oc_Web_places, od_Web_places, .none, kV_Web_places, dc_Web_places, pm_Web_places, an_Web_places, cd_Web_places, ct_Web_places, sl_Web_places, rfl, hl_Web_places, hc_Web_places⟩⟩ rfl (ps := ["self"]) fun _ _ _ _ _ _ us hl => match us, hl with | [_], _ => rfl,
    u_Web_ties := ⟨⟨oc_Web_ties, od_Web_ties, .none, kV_Web_ties, dc_Web_ties, pm_Web_ties, an_Web_ties, cd_Web_ties, ct_Web_ties, sl_Web_ties, rfl, hl_Web_ties, hc_Web_ties⟩⟩,
    fi_Web_ties := ha_Web_ties,
    fn_Web_ties := hi_Web_ties,
    kp_Web_ties := hk_Web_ties,
    b_Web_ties := C8.Fun.binds (st := s_Web_ties) ⟨⟨oc_Web_ties, od_Web_ties, .none, kV_Web_ties, dc_Web_ties, pm_Web_ties, an_Web_ties, cd_Web_ties, ct_Web_ties, sl_Web_ties, rfl, hl_Web_ties, hc_Web_ties⟩⟩ rfl (ps := ["self"]) fun _ _ _ _ _ _ us hl => match us, hl with | [_], _ => rfl,
    u_Web_ends := ⟨⟨oc_Web_ends, od_Web_ends, .none, kV_Web_ends, dc_Web_ends, pm_Web_ends, an_Web_ends, cd_Web_ends, ct_Web_ends, sl_Web_ends, rfl, hl_Web_ends, hc_Web_ends⟩⟩,
    fi_Web_ends := ha_Web_ends,
    fn_Web_ends := hi_Web_ends,
    kp_Web_ends := hk_Web_ends,
    b_Web_ends := C8.Fun.binds (st := s_Web_ends) ⟨⟨oc_Web_ends, od_Web_ends, .none, kV_Web_ends, dc_Web_ends, pm_Web_ends, an_Web_ends, cd_Web_ends, ct_Web_ends, sl_Web_ends, rfl, hl_Web_ends, hc_Web_ends⟩⟩ rfl (ps := ["self", "tie"]) fun _ _ _ _ _ _ us hl => match us, hl with | [_, _], _ => rfl,
    u_Web__eq := ⟨⟨oc_Web__eq, od_Web__eq, .none, kV_Web__eq, dc_Web__eq, pm_Web__eq, an_Web__eq, cd_Web__eq, ct_Web__eq, sl_Web__eq, rfl, hl_Web__eq, hc_Web__eq⟩⟩,
    fi_Web__eq := ha_Web__eq,
    fn_Web__eq := hi_Web__eq,
    kp_Web__eq := hk_Web__eq,
    b_Web__eq := C8.Fun.binds (st := s_Web__eq) ⟨⟨oc_Web__eq, od_Web__eq, .none, kV_Web__eq, dc_Web__eq, pm_Web__eq, an_Web__eq, cd_Web__eq, ct_Web__eq, sl_Web__eq, rfl, hl_Web__eq, hc_Web__eq⟩⟩ rfl (ps := ["self", "other"]) fun _ _ _ _ _ _ us hl => match us, hl with | [_, _], _ => rfl,
    d_checked_ties := ⟨⟨⟨oc_checked_ties, od_checked_ties, .none, kV_checked_ties, dc_checked_ties, pm_checked_ties, an_checked_ties, cd_checked_ties, ct_checked_ties, sl_checked_ties, rfl, hl_checked_ties, hc_checked_ties⟩⟩, PySem.W.mg_of X G ha_checked_ties, hk_checked_ties⟩,
    b_checked_ties := C8.Fun.binds (st := s_checked_ties) ⟨⟨oc_checked_ties, od_checked_ties, .none, kV_checked_ties, dc_checked_ties, pm_checked_ties, an_checked_ties, cd_checked_ties, ct_checked_ties, sl_checked_ties, rfl, hl_checked_ties, hc_checked_ties⟩⟩ rfl (ps := ["ties", "places"]) fun _ _ _ _ _ _ us hl => match us, hl with | [_, _], _ => rfl,
    d_are_ends := ⟨⟨⟨oc_are_ends, od_are_ends, .none, kV_are_ends, dc_are_ends, pm_are_ends, an_are_ends, cd_are_ends, ct_are_ends, sl_are_ends, rfl, hl_are_ends, hc_are_ends⟩⟩, PySem.W.mg_of X G ha_are_ends, hk_are_ends⟩,
    b_are_ends := C8.Fun.binds (st := s_are_ends) ⟨⟨oc_are_ends, od_are_ends, .none, kV_are_ends, dc_are_ends, pm_are_ends, an_are_ends, cd_are_ends, ct_are_ends, sl_are_ends, rfl, hl_are_ends, hc_are_ends⟩⟩ rfl (ps := ["value", "places"]) fun _ _ _ _ _ _ us hl => match us, hl with | [_, _], _ => rfl,
    d_law_source := ⟨⟨⟨oc_law_source, od_law_source, .none, kV_law_source, dc_law_source, pm_law_source, an_law_source, cd_law_source, ct_law_source, sl_law_source, rfl, hl_law_source, hc_law_source⟩⟩, PySem.W.mg_of X G ha_law_source, hk_law_source⟩,
    b_law_source := C8.Fun.binds (st := s_law_source) ⟨⟨oc_law_source, od_law_source, .none, kV_law_source, dc_law_source, pm_law_source, an_law_source, cd_law_source, ct_law_source, sl_law_source, rfl, hl_law_source, hc_law_source⟩⟩ rfl (ps := ["cell"]) fun _ _ _ _ _ _ us hl => match us, hl with | [_], _ => rfl,
    d_law_draw := ⟨⟨⟨oc_law_draw, od_law_draw, .none, kV_law_draw, dc_law_draw, pm_law_draw, an_law_draw, cd_law_draw, ct_law_draw, sl_law_draw, rfl, hl_law_draw, hc_law_draw⟩⟩, PySem.W.mg_of X G ha_law_draw, hk_law_draw⟩,
    b_law_draw := C8.Fun.binds (st := s_law_draw) ⟨⟨oc_law_draw, od_law_draw, .none, kV_law_draw, dc_law_draw, pm_law_draw, an_law_draw, cd_law_draw, ct_law_draw, sl_law_draw, rfl, hl_law_draw, hc_law_draw⟩⟩ rfl (ps := ["well", "many"]) fun _ _ _ _ _ _ us hl => match us, hl with | [_, _], _ => rfl,
    d_law_pick := ⟨⟨⟨oc_law_pick, od_law_pick, .none, kV_law_pick, dc_law_pick, pm_law_pick, an_law_pick, cd_law_pick, ct_law_pick, sl_law_pick, rfl, hl_law_pick, hc_law_pick⟩⟩, PySem.W.mg_of X G ha_law_pick, hk_law_pick⟩,
    b_law_pick := C8.Fun.binds (st := s_law_pick) ⟨⟨oc_law_pick, od_law_pick, .none, kV_law_pick, dc_law_pick, pm_law_pick, an_law_pick, cd_law_pick, ct_law_pick, sl_law_pick, rfl, hl_law_pick, hc_law_pick⟩⟩ rfl (ps := ["well", "some"]) fun _ _ _ _ _ _ us hl => match us, hl with | [_, _], _ => rfl,
    d_law_names := ⟨⟨⟨oc_law_names, od_law_names, .none, kV_law_names, dc_law_names, pm_law_names, an_law_names, cd_law_names, ct_law_names, sl_law_names, rfl, hl_law_names, hc_law_names⟩⟩, PySem.W.mg_of X G ha_law_names, hk_law_names⟩,
    b_law_names := C8.Fun.binds (st := s_law_names) ⟨⟨oc_law_names, od_law_names, .none, kV_law_names, dc_law_names, pm_law_names, an_law_names, cd_law_names, ct_law_names, sl_law_names, rfl, hl_law_names, hc_law_names⟩⟩ rfl (ps := ["well", "many"]) fun _ _ _ _ _ _ us hl => match us, hl with | [_, _], _ => rfl,
    d_law_shuffled := ⟨⟨⟨oc_law_shuffled, od_law_shuffled, .none, kV_law_shuffled, dc_law_shuffled, pm_law_shuffled, an_law_shuffled, cd_law_shuffled, ct_law_shuffled, sl_law_shuffled, rfl, hl_law_shuffled, hc_law_shuffled⟩⟩, PySem.W.mg_of X G ha_law_shuffled, hk_law_shuffled⟩,
    b_law_shuffled := C8.Fun.binds (st := s_law_shuffled) ⟨⟨oc_law_shuffled, od_law_shuffled, .none, kV_law_shuffled, dc_law_shuffled, pm_law_shuffled, an_law_shuffled, cd_law_shuffled, ct_law_shuffled, sl_law_shuffled, rfl, hl_law_shuffled, hc_law_shuffled⟩⟩ rfl (ps := ["well", "some"]) fun _ _ _ _ _ _ us hl => match us, hl with | [_, _], _ => rfl,
    d_law_is_name := ⟨⟨⟨oc_law_is_name, od_law_is_name, .none, kV_law_is_name, dc_law_is_name, pm_law_is_name, an_law_is_name, cd_law_is_name, ct_law_is_name, sl_law_is_name, rfl, hl_law_is_name, hc_law_is_name⟩⟩, PySem.W.mg_of X G ha_law_is_name, hk_law_is_name⟩,
    b_law_is_name := C8.Fun.binds (st := s_law_is_name) ⟨⟨oc_law_is_name, od_law_is_name, .none, kV_law_is_name, dc_law_is_name, pm_law_is_name, an_law_is_name, cd_law_is_name, ct_law_is_name, sl_law_is_name, rfl, hl_law_is_name, hc_law_is_name⟩⟩ rfl (ps := ["word"]) fun _ _ _ _ _ _ us hl => match us, hl with | [_], _ => rfl,
    d_law_due := ⟨⟨⟨oc_law_due, od_law_due, .none, kV_law_due, dc_law_due, pm_law_due, an_law_due, cd_law_due, ct_law_due, sl_law_due, rfl, hl_law_due, hc_law_due⟩⟩, PySem.W.mg_of X G ha_law_due, hk_law_due⟩,
    b_law_due := C8.Fun.binds (st := s_law_due) ⟨⟨oc_law_due, od_law_due, .none, kV_law_due, dc_law_due, pm_law_due, an_law_due, cd_law_due, ct_law_due, sl_law_due, rfl, hl_law_due, hc_law_due⟩⟩ rfl (ps := ["places", "ties"]) fun _ _ _ _ _ _ us hl => match us, hl with | [_, _], _ => rfl,
    d_law_told := ⟨⟨⟨oc_law_told, od_law_told, .none, kV_law_told, dc_law_told, pm_law_told, an_law_told, cd_law_told, ct_law_told, sl_law_told, rfl, hl_law_told, hc_law_told⟩⟩, PySem.W.mg_of X G ha_law_told, hk_law_told⟩,
    b_law_told := C8.Fun.binds (st := s_law_told) ⟨⟨oc_law_told, od_law_told, .none, kV_law_told, dc_law_told, pm_law_told, an_law_told, cd_law_told, ct_law_told, sl_law_told, rfl, hl_law_told, hc_law_told⟩⟩ rfl (ps := ["places", "ties"]) fun _ _ _ _ _ _ us hl => match us, hl with | [_, _], _ => rfl,
    d_law_drawn := ⟨⟨⟨oc_law_drawn, od_law_drawn, .none, kV_law_drawn, dc_law_drawn, pm_law_drawn, an_law_drawn, cd_law_drawn, ct_law_drawn, sl_law_drawn, rfl, hl_law_drawn, hc_law_drawn⟩⟩, PySem.W.mg_of X G ha_law_drawn, hk_law_drawn⟩,
    b_law_drawn := C8.Fun.binds (st := s_law_drawn) ⟨⟨oc_law_drawn, od_law_drawn, .none, kV_law_drawn, dc_law_drawn, pm_law_drawn, an_law_drawn, cd_law_drawn, ct_law_drawn, sl_law_drawn, rfl, hl_law_drawn, hc_law_drawn⟩⟩ rfl (ps := ["well"]) fun _ _ _ _ _ _ us hl => match us, hl with | [_], _ => rfl,
    d_law_spoiled := ⟨⟨⟨oc_law_spoiled, od_law_spoiled, .none, kV_law_spoiled, dc_law_spoiled, pm_law_spoiled, an_law_spoiled, cd_law_spoiled, ct_law_spoiled, sl_law_spoiled, rfl, hl_law_spoiled, hc_law_spoiled⟩⟩, PySem.W.mg_of X G ha_law_spoiled, hk_law_spoiled⟩,
    b_law_spoiled := C8.Fun.binds (st := s_law_spoiled) ⟨⟨oc_law_spoiled, od_law_spoiled, .none, kV_law_spoiled, dc_law_spoiled, pm_law_spoiled, an_law_spoiled, cd_law_spoiled, ct_law_spoiled, sl_law_spoiled, rfl, hl_law_spoiled, hc_law_spoiled⟩⟩ rfl (ps := ["well", "places", "ties"]) fun _ _ _ _ _ _ us hl => match us, hl with | [_, _, _], _ => rfl,
    d_law_ends_refused := ⟨⟨⟨oc_law_ends_refused, od_law_ends_refused, .none, kV_law_ends_refused, dc_law_ends_refused, pm_law_ends_refused, an_law_ends_refused, cd_law_ends_refused, ct_law_ends_refused, sl_law_ends_refused, rfl, hl_law_ends_refused, hc_law_ends_refused⟩⟩, PySem.W.mg_of X G ha_law_ends_refused, hk_law_ends_refused⟩,
    b_law_ends_refused := C8.Fun.binds (st := s_law_ends_refused) ⟨⟨oc_law_ends_refused, od_law_ends_refused, .none, kV_law_ends_refused, dc_law_ends_refused, pm_law_ends_refused, an_law_ends_refused, cd_law_ends_refused, ct_law_ends_refused, sl_law_ends_refused, rfl, hl_law_ends_refused, hc_law_ends_refused⟩⟩ rfl (ps := ["web", "word"]) fun _ _ _ _ _ _ us hl => match us, hl with | [_, _], _ => rfl,
    d_law_web_right := ⟨⟨⟨oc_law_web_right, od_law_web_right, .none, kV_law_web_right, dc_law_web_right, pm_law_web_right, an_law_web_right, cd_law_web_right, ct_law_web_right, sl_law_web_right, rfl, hl_law_web_right, hc_law_web_right⟩⟩, PySem.W.mg_of X G ha_law_web_right, hk_law_web_right⟩,
    b_law_web_right := C8.Fun.binds (st := s_law_web_right) ⟨⟨oc_law_web_right, od_law_web_right, .none, kV_law_web_right, dc_law_web_right, pm_law_web_right, an_law_web_right, cd_law_web_right, ct_law_web_right, sl_law_web_right, rfl, hl_law_web_right, hc_law_web_right⟩⟩ rfl (ps := ["well", "places", "ties"]) fun _ _ _ _ _ _ us hl => match us, hl with | [_, _, _], _ => rfl,
    d_law_right := ⟨⟨⟨oc_law_right, od_law_right, .none, kV_law_right, dc_law_right, pm_law_right, an_law_right, cd_law_right, ct_law_right, sl_law_right, rfl, hl_law_right, hc_law_right⟩⟩, PySem.W.mg_of X G ha_law_right, hk_law_right⟩,
    b_law_right := C8.Fun.binds (st := s_law_right) ⟨⟨oc_law_right, od_law_right, .none, kV_law_right, dc_law_right, pm_law_right, an_law_right, cd_law_right, ct_law_right, sl_law_right, rfl, hl_law_right, hc_law_right⟩⟩ rfl (ps := ["well"]) fun _ _ _ _ _ _ us hl => match us, hl with | [_], _ => rfl,
    d_law := ⟨⟨⟨oc_law, od_law, .none, kV_law, dc_law, pm_law, an_law, cd_law, ct_law, sl_law, rfl, hl_law, hc_law⟩⟩, PySem.W.mg_of X G ha_law, hk_law⟩,
    b_law := C8.Fun.binds (st := s_law) ⟨⟨oc_law, od_law, .none, kV_law, dc_law, pm_law, an_law, cd_law, ct_law, sl_law, rfl, hl_law, hc_law⟩⟩ rfl (ps := ["script"]) fun _ _ _ _ _ _ us hl => match us, hl with | [_], _ => rfl,
    cl_Web := ⟨pg_Web, hd_Web, po_Web, sa_Web⟩,
    mk_Web := mk_Web,
    kc_Web := kc_Web,
    na_Web__places := na_Web__places,
    na_Web__ties := na_Web__ties,
    wc_Web := wc_Web,
    wg_Web := wg_Web,
    wt_Web := wt_Web,
    wm_Web := wm_Web,
    wk_Web := if_pos (by simp),
    nc_Web := ⟨⟨_, _, _, _, _, _, _, _, _, _, _, _, _, _, _, _, xo_Web⟩, xe_Web, ha_Web__eq, hi_Web__eq⟩,
    ox_NoThing := ⟨⟨_, _, _, _, _, _, _, _, _, _, _, _, _, _, _, xL_NoThing, rfl⟩, xs_NoThing, xb_NoThing, xt_NoThing, xk_NoThing⟩,
    xf_NoThing := ⟨xg_NoThing, xn_NoThing, xb_NoThing, xd_NoThing⟩,
    nx_NoThing_thing := nx_NoThing_thing,
    ox_TooMany := ⟨⟨_, _, _, _, _, _, _, _, _, _, _, _, _, _, _, xL_TooMany, rfl⟩, xs_TooMany, xb_TooMany, xt_TooMany, xk_TooMany⟩,
    xf_TooMany := ⟨xg_TooMany, xn_TooMany, xb_TooMany, xd_TooMany⟩,
    nx_TooMany_limit := nx_TooMany_limit,
    ox_BadPlaces := ⟨⟨_, _, _, _, _, _, _, _, _, _, _, _, _, _, _, xL_BadPlaces, rfl⟩, xs_BadPlaces, xb_BadPlaces, xt_BadPlaces, xk_BadPlaces⟩,
    xf_BadPlaces := ⟨xg_BadPlaces, xn_BadPlaces, xb_BadPlaces, xd_BadPlaces⟩,
    nx_BadPlaces_index := nx_BadPlaces_index,
    ox_BadTies := ⟨⟨_, _, _, _, _, _, _, _, _, _, _, _, _, _, _, xL_BadTies, rfl⟩, xs_BadTies, xb_BadTies, xt_BadTies, xk_BadTies⟩,
    xf_BadTies := ⟨xg_BadTies, xn_BadTies, xb_BadTies, xd_BadTies⟩,
    nx_BadTies_name := nx_BadTies_name,
    xm_BadPlaces_BadPlaces := exm_ofB xb_BadPlaces ic_BadPlaces yt_BadPlaces sb_BadPlaces_BadPlaces xb_BadPlaces,
    xm_BadTies_BadPlaces := exm_ofB xb_BadTies ic_BadPlaces yt_BadPlaces sb_BadTies_BadPlaces xb_BadPlaces,
    xm_BadTies_BadTies := exm_ofB xb_BadTies ic_BadTies yt_BadTies sb_BadTies_BadTies xb_BadTies,
    xm_TooMany_BadPlaces := exm_ofB xb_TooMany ic_BadPlaces yt_BadPlaces sb_TooMany_BadPlaces xb_BadPlaces,
    xm_TooMany_BadTies := exm_ofB xb_TooMany ic_BadTies yt_BadTies sb_TooMany_BadTies xb_BadTies,
    xm_TooMany_TooMany := exm_ofB xb_TooMany ic_TooMany yt_TooMany sb_TooMany_TooMany xb_TooMany,
    xm_NoThing_NoThing := exm_ofB xb_NoThing ic_NoThing yt_NoThing sb_NoThing_NoThing xb_NoThing,
    z_all := PySem.W.mg_none_of X G z_all,
    z_any := PySem.W.mg_none_of X G z_any,
    z_dict := PySem.W.mg_none_of X G z_dict,
    z_enumerate := PySem.W.mg_none_of X G z_enumerate,
    z_int := PySem.W.mg_none_of X G z_int,
    z_isinstance := PySem.W.mg_none_of X G z_isinstance,
    z_len := PySem.W.mg_none_of X G z_len,
    z_list := PySem.W.mg_none_of X G z_list,
    z_range := PySem.W.mg_none_of X G z_range,
    z_set := PySem.W.mg_none_of X G z_set,
    z_sorted := PySem.W.mg_none_of X G z_sorted,
    z_str := PySem.W.mg_none_of X G z_str,
    z_tuple := PySem.W.mg_none_of X G z_tuple,
    g_LONGEST_NAME := ⟨_, PySem.W.mg_of X G g_LONGEST_NAME⟩,
    g_MOST_WEB_PLACES := ⟨_, PySem.W.mg_of X G g_MOST_WEB_PLACES⟩,
    g_MOST_TIES := ⟨_, PySem.W.mg_of X G g_MOST_TIES⟩ }, fun s u => .of_eq rfl⟩
theorem walk {l : PySem.W.OpenLaw} {q : Program} {loose : List Str} {XP : (Str → Option Value) → Heap → Prop} {YP : World → Heap → Prop} {d : DefRec} {K : Params → PySem.W.Frag} (hn : l.most = some 63) (hdf : d.params.defaults = []) (hnm : d.name = "law")
    (hY : ∀ (w : World) (h : Heap), YP w h → (K w.params).In h)
    (F : ∀ (w : World) (mg : Str → Option Value) (h : Heap), (K w.params).In h → h.Ns mainGlobals mg → ∃ A : Ad, Txt (K w.params) mg A ∧ ∀ (s : Shared) (u : Value), BindsTo s A.fd_law ⟨[u], []⟩ [("script", u)]) :
    PySem.W.WalkO q loose XP YP l.row.toRowW d [] (fun f vs => PySem.call f vs) := by
  refine L2.walk_of (n := 63) (k := 8) (x := "script") (CX := fun _ => C8.CX0) (sp := fun w => spLaw (K w.params)) hn (by decide) hdf ⟨rfl, by decide, by decide⟩ hY (fun w mg fa h KX G hmg => ?_) (fun _ _ a ns hl _ hS => ⟨a, ns, rfl, hS, fun _ => rfl⟩) fun _ _ _ _ _ z => z
  obtain ⟨A, T, hb⟩ := F w mg h KX G
  rw [hnm] at hmg
  have e := hmg.symm.trans T.d_law.mgf
  cases e
  exact ⟨A.fd_law, hb, fun base _ _ => ok_law T⟩
end BF
open PySem PySem.W PyProof.Rows in
set_option maxRecDepth 100000 in
set_option maxHeartbeats 0 in
theorem PySem.Challenge.cw_bothfree_k08_webs_told_and_refused_holds : PySem.Challenge.rw_bothfree_k08_webs_told_and_refused.Holds := by
  w_on; o_law; k_head; (case hw => w_witness2)
  k_fill
  refine BF.walk (l := PySem.Challenge.rw_bothfree_k08_webs_told_and_refused) rfl rfl rfl (fun w h Y => PySem.W.kIn_of Y) ?F
  case F =>
    intro w mg h KX G
    refine' BF.all_mk KX G ?hgC_LotError ?hgC_NoThing ?hgC_TooMany ?hgC_BadPlaces ?hgC_BadTies ?hgC_Web ?ha_NoThing__init ?hi_NoThing__init ?hl_NoThing__init ?hc_NoThing__init ?hk_NoThing__init ?ha_TooMany__init ?hi_TooMany__init ?hl_TooMany__init ?hc_TooMany__init ?hk_TooMany__init ?ha_BadPlaces__init ?hi_BadPlaces__init ?hl_BadPlaces__init ?hc_BadPlaces__init ?hk_BadPlaces__init ?ha_BadTies__init ?hi_BadTies__init ?hl_BadTies__init ?hc_BadTies__init ?hk_BadTies__init ?ha_is_name ?hl_is_name ?hc_is_name ?hk_is_name ?ha_first_wrong ?hl_first_wrong ?hc_first_wrong ?hk_first_wrong ?ha_sorted_places ?hl_sorted_places ?hc_sorted_places ?hk_sorted_places ?ha_Web__init ?hi_Web__init ?hl_Web__init ?hc_Web__init ?hk_Web__init ?ha_Web_places ?hi_Web_places ?hl_Web_places ?hc_Web_places ?hk_Web_places ?ha_Web_ties ?hi_Web_ties ?hl_Web_ties ?hc_Web_ties ?hk_Web_ties ?ha_Web_ends ?hi_Web_ends ?hl_Web_ends ?hc_Web_ends ?hk_Web_ends ?ha_Web__eq ?hi_Web__eq ?hl_Web__eq ?hc_Web__eq ?hk_Web__eq ?ha_checked_ties ?hl_checked_ties ?hc_checked_ties ?hk_checked_ties ?ha_are_ends ?hl_are_ends ?hc_are_ends ?hk_are_ends ?ha_law_source ?hl_law_source ?hc_law_source ?hk_law_source ?ha_law_draw ?hl_law_draw ?hc_law_draw ?hk_law_draw ?ha_law_pick ?hl_law_pick ?hc_law_pick ?hk_law_pick ?ha_law_names ?hl_law_names ?hc_law_names ?hk_law_names ?ha_law_shuffled ?hl_law_shuffled ?hc_law_shuffled ?hk_law_shuffled ?ha_law_is_name ?hl_law_is_name ?hc_law_is_name ?hk_law_is_name ?ha_law_due ?hl_law_due ?hc_law_due ?hk_law_due ?ha_law_told ?hl_law_told ?hc_law_told ?hk_law_told ?ha_law_drawn ?hl_law_drawn ?hc_law_drawn ?hk_law_drawn ?ha_law_spoiled ?hl_law_spoiled ?hc_law_spoiled ?hk_law_spoiled ?ha_law_ends_refused ?hl_law_ends_refused ?hc_law_ends_refused ?hk_law_ends_refused ?ha_law_web_right ?hl_law_web_right ?hc_law_web_right ?hk_law_web_right ?ha_law_right ?hl_law_right ?hc_law_right ?hk_law_right ?ha_law ?hl_law ?hc_law ?hk_law ?pg_Web ?hd_Web ?po_Web ?sa_Web ?mk_Web ?kc_Web ?na_Web__places ?na_Web__ties ?wc_Web ?wg_Web ?wt_Web ?wm_Web ?xo_Web ?xe_Web ?xL_NoThing ?xs_NoThing ?xb_NoThing ?xt_NoThing ?xk_NoThing ?xg_NoThing ?xn_NoThing ?xd_NoThing ?nx_NoThing_thing ?xL_TooMany ?xs_TooMany ?xb_TooMany ?xt_TooMany ?xk_TooMany ?xg_TooMany ?xn_TooMany ?xd_TooMany ?nx_TooMany_limit ?xL_BadPlaces ?xs_BadPlaces ?xb_BadPlaces ?xt_BadPlaces ?xk_BadPlaces ?xg_BadPlaces ?xn_BadPlaces ?xd_BadPlaces ?nx_BadPlaces_index ?xL_BadTies ?xs_BadTies ?xb_BadTies ?xt_BadTies ?xk_BadTies ?xg_BadTies ?xn_BadTies ?xd_BadTies ?nx_BadTies_name ?ic_BadPlaces ?yt_BadPlaces ?sb_BadPlaces_BadPlaces ?sb_BadTies_BadPlaces ?ic_BadTies ?yt_BadTies ?sb_BadTies_BadTies ?sb_TooMany_BadPlaces ?sb_TooMany_BadTies ?ic_TooMany ?yt_TooMany ?sb_TooMany_TooMany ?ic_NoThing ?yt_NoThing ?sb_NoThing_NoThing ?z_all ?z_any ?z_dict ?z_enumerate ?z_int ?z_isinstance ?z_len ?z_list ?z_range ?z_set ?z_sorted ?z_str ?z_tuple ?g_LONGEST_NAME ?g_MOST_WEB_PLACES ?g_MOST_TIES
    (case hgC_LotError => k_is)
    (case hgC_NoThing => k_is)
    (case hgC_TooMany => k_is)
    (case hgC_BadPlaces => k_is)
    (case hgC_BadTies => k_is)
    (case hgC_Web => k_is)
    (case ha_NoThing__init => k_is)
    (case hi_NoThing__init => k_is)
    (case hl_NoThing__init => k_is)
    (case hc_NoThing__init => k_is)
    (case hk_NoThing__init => k_is)
    (case ha_TooMany__init => k_is)
    (case hi_TooMany__init => k_is)
    (case hl_TooMany__init => k_is)
    (case hc_TooMany__init => k_is)
    (case hk_TooMany__init => k_is)
    (case ha_BadPlaces__init => k_is)
    (case hi_BadPlaces__init => k_is)
    (case hl_BadPlaces__init => k_is)
    (case hc_BadPlaces__init => k_is)
    (case hk_BadPlaces__init => k_is)
    (case ha_BadTies__init => k_is)
    (case hi_BadTies__init => k_is)
    (case hl_BadTies__init => k_is)
    (case hc_BadTies__init => k_is)
    (case hk_BadTies__init => k_is)
    (case ha_is_name => k_is)
    (case hl_is_name => k_is)
    (case hc_is_name => k_is)
    (case hk_is_name => k_is)
    (case ha_first_wrong => k_is)
    (case hl_first_wrong => k_is)
    (case hc_first_wrong => k_is)
    (case hk_first_wrong => k_is)
    (case ha_sorted_places => k_is)
    (case hl_sorted_places => k_is)
    (case hc_sorted_places => k_is)
    (case hk_sorted_places => k_is)
    (case ha_Web__init => k_is)
    (case hi_Web__init => k_is)
    (case hl_Web__init => k_is)
    (case hc_Web__init => k_is)
    (case hk_Web__init => k_is)
    (case ha_Web_places => k_is)
    (case hi_Web_places => k_is)
    (case hl_Web_places => k_is)
    (case hc_Web_places => k_is)
    (case hk_Web_places => k_is)
    (case ha_Web_ties => k_is)
    (case hi_Web_ties => k_is)
    (case hl_Web_ties => k_is)
    (case hc_Web_ties => k_is)
    (case hk_Web_ties => k_is)
    (case ha_Web_ends => k_is)
    (case hi_Web_ends => k_is)
    (case hl_Web_ends => k_is)
    (case hc_Web_ends => k_is)
    (case hk_Web_ends => k_is)
    (case ha_Web__eq => k_is)
    (case hi_Web__eq => k_is)
    (case hl_Web__eq => k_is)
    (case hc_Web__eq => k_is)
    (case hk_Web__eq => k_is)
    (case ha_checked_ties => k_is)
    (case hl_checked_ties => k_is)
    (case hc_checked_ties => k_is)
    (case hk_checked_ties => k_is)
    (case ha_are_ends => k_is)
    (case hl_are_ends => k_is)
    (case hc_are_ends => k_is)
    (case hk_are_ends => k_is)
    (case ha_law_source => k_is)
    (case hl_law_source => k_is)
    (case hc_law_source => k_is)
    (case hk_law_source => k_is)
    (case ha_law_draw => k_is)
    (case hl_law_draw => k_is)
    (case hc_law_draw => k_is)
    (case hk_law_draw => k_is)
    (case ha_law_pick => k_is)
    (case hl_law_pick => k_is)
    (case hc_law_pick => k_is)
    (case hk_law_pick => k_is)
    (case ha_law_names => k_is)
    (case hl_law_names => k_is)
    (case hc_law_names => k_is)
    (case hk_law_names => k_is)
    (case ha_law_shuffled => k_is)
    (case hl_law_shuffled => k_is)
    (case hc_law_shuffled => k_is)
    (case hk_law_shuffled => k_is)
    (case ha_law_is_name => k_is)
    (case hl_law_is_name => k_is)
    (case hc_law_is_name => k_is)
    (case hk_law_is_name => k_is)
    (case ha_law_due => k_is)
    (case hl_law_due => k_is)
    (case hc_law_due => k_is)
    (case hk_law_due => k_is)
    (case ha_law_told => k_is)
    (case hl_law_told => k_is)
    (case hc_law_told => k_is)
    (case hk_law_told => k_is)
    (case ha_law_drawn => k_is)
    (case hl_law_drawn => k_is)
    (case hc_law_drawn => k_is)
    (case hk_law_drawn => k_is)
    (case ha_law_spoiled => k_is)
    (case hl_law_spoiled => k_is)
    (case hc_law_spoiled => k_is)
    (case hk_law_spoiled => k_is)
    (case ha_law_ends_refused => k_is)
    (case hl_law_ends_refused => k_is)
    (case hc_law_ends_refused => k_is)
    (case hk_law_ends_refused => k_is)
    (case ha_law_web_right => k_is)
    (case hl_law_web_right => k_is)
    (case hc_law_web_right => k_is)
    (case hk_law_web_right => k_is)
    (case ha_law_right => k_is)
    (case hl_law_right => k_is)
    (case hc_law_right => k_is)
    (case hk_law_right => k_is)
    (case ha_law => k_is)
    (case hl_law => k_is)
    (case hc_law => k_is)
    (case hk_law => k_is)
    (case pg_Web => k_is)
    (case hd_Web => k_is)
    (case po_Web => k_is)
    (case sa_Web => k_is)
    (case mk_Web => k_is)
    (case kc_Web => k_is)
    (case na_Web__places => k_is)
    (case na_Web__ties => k_is)
    (case wc_Web => k_is)
    (case wg_Web => k_is)
    (case wt_Web => k_is)
    (case wm_Web => k_is)
    (case xo_Web => k_is)
    (case xe_Web => k_is)
    (case xL_NoThing => k_is)
    (case xs_NoThing => k_is)
    (case xb_NoThing => k_is)
    (case xt_NoThing => k_is)
    (case xk_NoThing => k_is)
    (case xg_NoThing => k_is)
    (case xn_NoThing => k_is)
    (case xd_NoThing => k_is)
    (case nx_NoThing_thing => k_is)
    (case xL_TooMany => k_is)
    (case xs_TooMany => k_is)
    (case xb_TooMany => k_is)
    (case xt_TooMany => k_is)
    (case xk_TooMany => k_is)
    (case xg_TooMany => k_is)
    (case xn_TooMany => k_is)
    (case xd_TooMany => k_is)
    (case nx_TooMany_limit => k_is)
    (case xL_BadPlaces => k_is)
    (case xs_BadPlaces => k_is)
    (case xb_BadPlaces => k_is)
    (case xt_BadPlaces => k_is)
    (case xk_BadPlaces => k_is)
    (case xg_BadPlaces => k_is)
    (case xn_BadPlaces => k_is)
    (case xd_BadPlaces => k_is)
    (case nx_BadPlaces_index => k_is)
    (case xL_BadTies => k_is)
    (case xs_BadTies => k_is)
    (case xb_BadTies => k_is)
    (case xt_BadTies => k_is)
    (case xk_BadTies => k_is)
    (case xg_BadTies => k_is)
    (case xn_BadTies => k_is)
    (case xd_BadTies => k_is)
    (case nx_BadTies_name => k_is)
    (case ic_BadPlaces => k_is)
    (case yt_BadPlaces => k_is)
    (case sb_BadPlaces_BadPlaces => k_is)
    (case sb_BadTies_BadPlaces => k_is)
    (case ic_BadTies => k_is)
    (case yt_BadTies => k_is)
    (case sb_BadTies_BadTies => k_is)
    (case sb_TooMany_BadPlaces => k_is)
    (case sb_TooMany_BadTies => k_is)
    (case ic_TooMany => k_is)
    (case yt_TooMany => k_is)
    (case sb_TooMany_TooMany => k_is)
    (case ic_NoThing => k_is)
    (case yt_NoThing => k_is)
    (case sb_NoThing_NoThing => k_is)
    (case z_all => k_is)
    (case z_any => k_is)
    (case z_dict => k_is)
    (case z_enumerate => k_is)
    (case z_int => k_is)
    (case z_isinstance => k_is)
    (case z_len => k_is)
    (case z_list => k_is)
    (case z_range => k_is)
    (case z_set => k_is)
    (case z_sorted => k_is)
    (case z_str => k_is)
    (case z_tuple => k_is)
    (case g_LONGEST_NAME => k_is)
    (case g_MOST_WEB_PLACES => k_is)
    (case g_MOST_TIES => k_is)
