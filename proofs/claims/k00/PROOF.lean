import PyProof.Rows.All
import Wide.All
import OpenK.AllK
import Wide.FinOn
import PyProof.EqAt
import PyProof.EqKinds
import PyProof.TupleCall
import PyProof.ReprReads
import KE.KExcIs
import HandS.ForMost
import HandS.Exc
import HandS.ExcOwn
import HandS.WordsExc
import HandS.IsInst
import HandS.ExcValue
import HandS.Defaults
import HandS.Head0
import HandS.Head1
import HandS.Head2
import HandS.HeadEnd
import HandS.HeadHook4
import PySem.Challenge.RW_wobblesnap_k00_errors_and_what_they_keep
import HandS.Walk
import HandS.ExcBuiltin
import HandS.Dict
set_option Elab.async false
set_option linter.all false
set_option maxRecDepth 100000
set_option maxHeartbeats 2000000
namespace PySem
namespace DrX
open PySem.W PySem.Calls PyProof.Rows PySem.HandSPX
/-! ### the text of __init__ -/
def iA (p1 p2 : Pos) : Arguments := { posonlyargs := [], args := [{ arg := "self", annotation := none, pos := p1 }, { arg := "value", annotation := none, pos := p2 }], vararg := none, kwonlyargs := [], kw_defaults := [], kwarg := none, defaults := [] }
def iB (q1 q2 q3 q4 : Pos) : List Stmt := [.Assign [.Attribute (.Name "self" q1) "value" q2] (.Name "value" q3) q4]
def iS : Scope := { kind := .function, names := [(PySem.Str.ofString "self", .local), (PySem.Str.ofString "value", .local)], isGenerator := false, isCoroutine := false, more := [] }
/-- what the written part says of Low, at C, and of its __init__, at fI -/
structure ErrT (K : Frag) (C fI : Addr) : Prop where
  cls : ∃ nm q N bs bm sn sub ab col dd k0 k1 k2 k3 k5, K.lookup C = some (excClassObj nm q C N bs bm true sn sub ab col dd k0 k1 k2 k3 k5 "ValueError.__new__") ∧ refsVE bm = true
  sa : findIn K (.ref C) "__setattr__" = some (some (.builtin "object.__setattr__"))
  ga : findIn K (.ref C) "__getattribute__" = some (some (.builtin "BaseException.__getattribute__"))
  gg : findIn K (.ref C) "__getattr__" = some none
  noN : findIn K (.ref C) "value" = some none
  iC : findIn K (.ref C) "__init__" = some (some (.ref fI))
  tC : typeIn K (.ref fI) = some (.type "function")
  kC : keepIn K (.ref C) = true
  exC : subIn K (.ref C) (.type "BaseException") = some true
  tyC : typeIn K (.ref C) = some (.type "type")
  hdC : hasDictIn K C = true
  cls' : (clsIn K C).isSome = true
  ha : findIn K (.ref C) "__class__" = some (some (.builtin "object.__class__"))
  hn : specialIn K (.builtin "object.__class__") "__get__" = some (some (.builtin "getset_descriptor.__get__"))
  ht : takesIn K (.builtin "object.__class__") = some true
  hm : mroIn K C (.type "object") = some true
  fn : ∃ (oc : Value) (od : Option Addr) (kV doc pm : Value) (an : Option Addr) (cdv ct : Value) (osl : Array (Option Value)) (p1 p2 q1 q2 q3 q4 : Pos),
    K.lookup fI = some ⟨oc, od, .func (fnOf "__init__" "DrawError.__init__" (iA p1 p2) (iB q1 q2 q3 q4) iS .none kV doc pm an cdv ct), osl⟩ ∧ codeIn K cdv "DrawError.__init__" = true
theorem one_size (v : Value) : [v].length ≤ sizeLine := by
  rw [sizeLine_eq]
  exact (by decide : 1 ≤ 16777216)
theorem kept_but {K : Frag} {h h' : Heap} {x : Addr} (X : K.In h) (hx : K.lookup x = none) (k : ∀ b o, b ≠ x → h.get? b = some o → h'.get? b = some o) : K.In h' := fun a o e =>
  k a o (fun z => by rw [z, hx] at e; cases e) (X a o e)
theorem ldC {M : Model} {s : Shared} {name : Str} {scope : Scope} {L a : Addr} {cd : Value} {m : Str → Option Value} {x : Str} {pos : Pos} {v : Value} {Q : Value → Shared → Prop} {A : Around} {E : Value → Shared → Prop} (hn : s.heap.Ns L m) (hv : m x = some v) (h : Q v s)
    (hk : scope.kind = .function := by rfl) (hl : (envOfC name scope L a cd).kindOf x = some .local := by rfl) (hd : (x == ("__debug__" : Str)) = false := by decide) :
    wpAny M A (eval (.Name x pos) (envOfC name scope L a cd)) Q E s := wpAny_Name (wpAny_loadName_local hk hl hn hv h) hd
/-- what __init__ leaves of a fresh exception at x -/
structure InitEnd (h h' : Heap) (x C dx t1 : Addr) (v : Value) : Prop where
  keep : ∀ b o, b ≠ x → h.get? b = some o → h'.get? b = some o
  obj : h'.get? x = some { cls := .ref C, dict := some dx, data := .fields #[.ref t1, .none, .none, .none, .bool false, .none] }
  dbig : h.objs.size ≤ dx
  dne : dx ≠ x
  ns : h'.Ns1 dx (fun y => if y = "value" then some v else none)
/-- a made Low -/
structure OwnMade (h h' : Heap) (e C d : Addr) (v : Value) : Prop where
  keep : ∀ b o, h.get? b = some o → h'.get? b = some o
  new : h.objs.size ≤ e
  obj : ∃ oe vs, h'.get? e = some oe ∧ oe.cls = .ref C ∧ oe.dict = some d ∧ oe.data = .fields vs ∧ vs[1]? = some .none
  dbig : h.objs.size ≤ d
  dne : d ≠ e
  ns : h'.Ns1 d (fun y => if y = "value" then some v else none)
section
variable {prog : Program} {w : World} {A : Around} {E : Value → Shared → Prop} {R : Result → Shared → Prop} {s : Shared} {K : Frag} {C fI : Addr}
theorem low_init (T : ErrT K C fI) {x t0 : Addr} {v : Value} (X : K.In s.heap) (hlim : s.heap.NoLimit) (hx : s.heap.get? x = some (excO C t0)) (hnx : K.lookup x = none) (hroom : A.depth < recursionLimit)
    (hq : ∀ h' tk dx, InitEnd s.heap h' x C dx t0 v → R (.ok (.ret .none)) { s with heap := h', toks := tk }) :
    codeAny (model prog w) A (.call (.ref fI) ⟨[.ref x, v], []⟩) R s := by
  obtain ⟨oc, od, kV, doc, pm, an, cdv, ct, osl, p1, p2, q1, q2, q3, q4, ho, hcd⟩ := T.fn
  obtain ⟨nm, q, N, bs, bm, sn, sub, ab, col, dd, k0, k1, k2, k3, k5, hC, hbm⟩ := T.cls
  have hcl : clsIn K C = some { name := nm, bases := bs, mro := .ref C :: bm, ns := N, qualname := q, hasDict := true, slotNames := sn, subclasses := sub, abstract := ab, collection := col, hasDel := false } := by unfold clsIn; rw [hC] <;> rfl
  refine Att.call_fn (binds := [("self", .ref x), ("value", v)]) X hlim ho hcd hroom (BindsTo.of_eq (by first | rfl | with_unfolding_all rfl)) (by first | rfl | decide | with_unfolding_all rfl) (fun s₁ IC => ?_) rfl rfl rfl
  obtain ⟨h₁, tk₁, rfl⟩ := IC.toInCall.same
  have k : ∀ b o, s.heap.get? b = some o → h₁.get? b = some o := IC.toInCall.keep
  have hn := IC.toInCall.ns
  have hxL : s.heap.objs.size ≠ x := Nat.ne_of_gt (Heap.lt_size hx)
  have X₁ : K.In h₁ := X.keeps k
  have hx₁ := k _ _ hx
  -- self.by = by
  show wpAny _ _ (execs _ _) _ _ _
  refine wpAny_execs_cons (plainObj_wpAny_Assign_Attribute ?_)
  refine ldC (v := v) hn (by first | rfl | with_unfolding_all rfl | kernel_rfl) (ldC (v := .ref x) hn (by first | rfl | with_unfolding_all rfl | kernel_rfl) ?_)
  refine set_plain X₁ (ox := excO C t0) (od := none) ⟨hx₁, rfl, rfl, trivial⟩ T.sa ?_
  refine exc_osa X₁ hx₁ hcl (show refsVE (.ref C :: bm) = true from hbm) rfl T.noN (fun h₃ tk₃ dx k₃ dn dne hx₃ hn₃ => ?_)
  show wpAny _ _ (execs _ _) _ _ _
  have z : s.heap.objs.size < h₁.objs.size := hn.lt
  exact wpAny_execs_nil (hq h₃ tk₃ dx ⟨fun b o hb e => k₃ b o hb (k b o e), hx₃, Nat.le_of_lt (Nat.lt_of_lt_of_le z dn), dne, hn₃⟩)
theorem low_made (T : ErrT K C fI) {v : Value} (X : K.In s.heap) (hlim : s.heap.NoLimit) (hroom : A.depth + 1 < recursionLimit)
    (hq : ∀ h' tk e d, OwnMade s.heap h' e C d v → R (.ok (.ret (.ref e))) { s with heap := h', toks := tk }) :
    codeAny (model prog w) A (.call (.ref C) ⟨[v], []⟩) R s := by
  obtain ⟨nm, q, N, bs, bm, sn, sub, ab, col, dd, k0, k1, k2, k3, k5, hC, hbm⟩ := T.cls
  obtain ⟨hp, g, dr, tk, os⟩ := s
  have k : ∀ b o, hp.get? b = some o → ((hp.push (kdv_tup [v])).push (excO C hp.objs.size)).get? b = some o := fun b o e => Heap.get?_push_of_some _ (Heap.get?_push_of_some _ e)
  have hget : ((hp.push (kdv_tup [v])).push (excO C hp.objs.size)).get? (hp.objs.size + 1) = some (excO C hp.objs.size) := by heap_get
  have hnx : K.lookup (hp.objs.size + 1) = none := by
    cases e : K.lookup (hp.objs.size + 1) with
    | none => rfl
    | some o =>
      have z : hp.get? (hp.objs.size + 1) = some o := X _ _ e
      exact absurd (Nat.lt_of_succ_lt (Heap.lt_size z)) (Nat.lt_irrefl _)
  refine call_own F.excBase_ValueError (fun X => refsVE_contains X bm hbm) (X _ _ hC) (looks_findIn X T.iC) (fun self => bind_fn X self T.tC) (one_size v) ?_
  refine low_init (s := ⟨(hp.push (kdv_tup [v])).push (excO C hp.objs.size), g, dr, tk, os⟩) T (X.keeps k) (hlim.keeps k) hget hnx ?_ fun h' tk' dx ⟨k', hx, dn, dne, hns⟩ => ?_
  · show A.depth + 1 < recursionLimit
    exact hroom
  · have old : ∀ b o, hp.get? b = some o → h'.get? b = some o := fun b o e => k' b o (Nat.ne_of_lt (Nat.lt_succ_of_lt (Heap.lt_size e))) (k b o e)
    have z : hp.objs.size + 1 + 1 ≤ dx := by
      first
        | (simpa only [Heap.size_push] using dn)
        | exact dn
        | (have q := dn; rw [Heap.size_push, Heap.size_push] at q; exact q)
    exact ⟨rfl, hq h' tk' (hp.objs.size + 1) dx ⟨old, Nat.le_succ _, ⟨_, _, hx, rfl, rfl, rfl, rfl⟩, Nat.le_trans (Nat.le_trans (Nat.le_succ _) (Nat.le_succ _)) z, dne, hns⟩⟩
end
end DrX
end PySem

set_option Elab.async false
set_option linter.all false
set_option maxRecDepth 100000
set_option maxHeartbeats 2000000
namespace L2.Vx
open PySem PySem.Spec PyProof.Rows

/-- the written facts of an error class, with the name of it -/
abbrev ErrT := @PySem.DrX.ErrT

/-- at a stands an exception of the class cls, its own dict, if there is one, at d -/
def EX (a : Addr) (cls : Value) (d : Option Addr) : HO :=
  .ext fun h => ∃ oe vs, h.get? a = some oe ∧ Zc cls d oe ∧ oe.data = .fields vs
theorem ex_ok {P : Program} {w : World} {H : Hp} {h : Heap} {a : Addr} {cls : Value} {d : Option Addr} {oe : Obj} {vs : Array Value}
    (e : h.get? a = some oe) (z : Zc cls d oe) (q : oe.data = .fields vs) : ObjOk P w H h a (EX a cls d) :=
  ⟨⟨oe, vs, e, z, q⟩, ⟨oe, e⟩, fun _ _ ⟨o, v, p, r⟩ k => ⟨o, v, k o p, r⟩⟩
theorem ex_at {P : Program} {w : World} {H : Hp} {h : Heap} {a : Addr} {cls : Value} {d : Option Addr} (ok : HOk P w H h)
    (e : H a = some (EX a cls d)) : ∃ oe vs, h.get? a = some oe ∧ Zc cls d oe ∧ oe.data = .fields vs := (ok a _ e).1
/-- the state is another one, its heap the same -/
theorem inv_same {X : Cx} {pins : List (Addr × Obj)} {σ : St} {H : Hp} {s s' : Shared} (I : Inv X pins σ H s) (e : s'.heap = s.heap)
    (os : s'.os = s.os) (bare : AllBare s'.gens) : Inv X pins σ H s' := by
  obtain ⟨h, g, dr, tk, o⟩ := s
  obtain ⟨h', g', dr', tk', o'⟩ := s'
  obtain rfl : h' = h := e
  obtain rfl : o' = o := os
  exact ⟨I.ok, I.os, bare, I.base, I.loc, I.cell, I.free, I.freeC, I.pin, I.hok, I.len⟩
/-- what makes an exception, as a value: it is tracked from now on -/
theorem pe_mk {X : Cx} {e : Expr} {t : St → Hp → XK → Prop} (he : PMk X e t) :
    PE X e (fun σ H Q => t σ H fun cls d H1 => ∀ a, H1 a = none → Q (.ref a) (upd H1 a (EX a cls d))) := by
  refine ⟨fun pins s σ H Q I h => ?_⟩
  refine wpAny_mono (he pins s σ H _ I h) (fun u s1 hu => ?_) fun _ _ x => x
  obtain ⟨a, oe, vs, sI, H', cls, d, rfl, J, k, hne, ha, hz, hd, _, na, os, ag, _, q⟩ := hu
  have J2 := J.laidN (t' := s1.toks) (h' := s1.heap) k hne na (ex_ok (P := X.prog) (w := X.w) (H := upd H' a (EX a cls d)) ha hz hd)
  exact ⟨.ref a, _, inv_same J2 rfl os ag, rfl, q a na⟩

/-- the own dict of an error that keeps v -/
abbrev xv (v : V) : HO := .xd [(("value" : Str), v)]
theorem look_xv {v : V} : List.lookup ("value" : Str) [(("value" : Str), v)] = some v := by simp [List.lookup]
theorem rel_xv {v : V} {u : Value} (r : RelV v u) (f : Str) :
    RelO (List.lookup f [(("value" : Str), v)]) (if f = "value" then some u else none) := by
  by_cases hf : f = "value"
  · subst hf
    rw [if_pos rfl, look_xv]
    exact r
  · rw [if_neg hf]
    have q : (f == ("value" : Str)) = false := by simpa using hf
    have q2 : List.lookup f [(("value" : Str), v)] = none := by simp [List.lookup, q]
    rw [q2]
    trivial

section
variable {X : Cx} {C fI : Addr}

/-- the call of an error class, whatever is made of it -/
theorem run_err {x : Str} {a : Expr} {ta : TA} {p pos : Pos} {k : Nat} (T : ErrT X.K C fI) (hm : X.mg x = some (.ref C))
    (hr : Room k X.A) (ha : PA X [a] ta) (hg : Gl X x) (hdb : (x == ("__debug__" : Str)) = false)
    (he : starEach (a :: []) X.env = (false, eval a X.env) :: starEach [] X.env)
    (hpl : (backTo pos (starEach [] X.env)).any (·.1) = false)
    {pins : List (Addr × Obj)} {s : Shared} {σ : St} {H : Hp} {Q : V → Hp → Prop} {R : Value → Shared → Prop} (I : Inv X pins σ H s)
    (h : ta σ H fun vs H1 => ∃ v, vs = [v] ∧ Q v H1)
    (fin : ∀ (v : V) (H1 : Hp) (e d : Addr) (G h' : Heap) (g : Array GenState) (dr : Drawn) (tk' : Nat) (os : OsState) (oe : Obj) (fv : Array Value),
      Inv X pins σ (upd H1 d (xv v)) ⟨G, g, dr, tk', os⟩ → (∀ b o, G.get? b = some o → h'.get? b = some o) → G.get? e = none →
      h'.get? e = some oe → Zc (.ref C) (some d) oe → oe.data = .fields fv → fv[1]? = some .none → H1 e = none → H1 d = none → d ≠ e → Q v H1 →
      AllBare g → R (.ref e) ⟨h', g, dr, tk', os⟩) :
    wpAny (model X.prog X.w) X.A (eval (.Call (.Name x p) [a] [] pos) X.env) R X.xe s := by
  refine wpAny_Call_Name_kw (ld_glob I hg hm ?_ hdb)
  refine PySem.W.callWith_K (h₀ := X.base) I.ok.mod.kin T.kC (thn (ha.run pos pins s σ H _ I h) fun us s1 hh => ?_) he hpl
  obtain ⟨vs, H1, I1, r1, v, ev, q1⟩ := hh
  subst ev
  refine ⟨I1.kIn, ?_⟩
  cases r1 with
  | cons rv rn =>
    rename_i v' us'
    cases rn
    have hlim := I1.nolimit
    obtain ⟨hp, g, dr, tk, os⟩ := s1
    refine wpAny_call (PySem.DrX.low_made T I1.kIn hlim (by have := hr.dp; omega) fun h' tk' e d M => ?_)
    obtain ⟨oe, fv, hoe, hc, hd, hdat, h1⟩ := M.obj
    obtain ⟨G', g1, g2⟩ := restrict h' fun b => decide (b ≠ e)
    have gk : ∀ b, b ≠ e → G'.get? b = h'.get? b := fun b hb => g1 b (decide_eq_true hb)
    have ge : G'.get? e = none := g2 e (by simp)
    have old : ∀ b o, hp.get? b = some o → G'.get? b = some o := fun b o q =>
      (gk b (Nat.ne_of_lt (Nat.lt_of_lt_of_le (Heap.lt_size q) M.new))).trans (M.keep b o q)
    have ob : ObjOk X.prog X.w (upd H1 d (xv v)) G' d (xv v) :=
      ⟨_, M.ns.at (fun o q => (gk d M.dne).trans q), fun f => rel_xv rv f⟩
    have J : Inv X pins σ (upd H1 d (xv v)) ⟨G', g, dr, tk', os⟩ := I1.laid (t' := tk') old M.dbig ob
    refine fin v H1 e d G' h' g dr tk' os oe fv J (fun b o q => ?_) ge hoe ⟨hc, hd⟩ hdat h1 (I1.hok.fresh M.new) (I1.hok.fresh M.dbig) M.dne q1 I1.bare
    by_cases hb : b = e
    · rw [hb, ge] at q
      cases q
    · exact (gk b hb).symm.trans q

/-- C(e), to be raised -/
def tMkE (C : Addr) (ta : TA) : St → Hp → XK → Prop := fun σ H Q => ta σ H fun vs H1 =>
  ∃ v, vs = [v] ∧ ∀ d, H1 d = none → Q (.ref C) (some d) (upd H1 d (xv v))
theorem pmk_err {x : Str} {a : Expr} {ta : TA} {p pos : Pos} {k : Nat} (T : ErrT X.K C fI) (hm : X.mg x = some (.ref C))
    (hr : Room k X.A) (ha : PA X [a] ta) (hg : Gl X x := by rfl) (hdb : (x == ("__debug__" : Str)) = false := by decide)
    (he : starEach (a :: []) X.env = (false, eval a X.env) :: starEach [] X.env := by rfl)
    (hpl : (backTo pos (starEach [] X.env)).any (·.1) = false := by rfl) :
    PMk X (.Call (.Name x p) [a] [] pos) (tMkE C ta) := by
  intro pins s σ H Q I h
  refine run_err T hm hr ha hg hdb he hpl I (Q := fun v H1 => ∀ d, H1 d = none → Q (.ref C) (some d) (upd H1 d (xv v))) h ?_
  intro v H1 e d G h' g dr tk' os oe fv J k ge hoe hz hdat h1 ne nd ned q hb
  have hn : upd H1 d (xv v) e = none := by rw [upd_ne (Ne.symm ned)]; exact ne
  exact ⟨e, oe, fv, _, _, .ref C, some d, rfl, J, k, ge, hoe, hz, hdat, h1, hn, rfl, hb, raises_own T.exC T.tyC, q d nd⟩
/-- raise C(e) -/
theorem ps_err {W : WX} {x : Str} {a : Expr} {ta : TA} {p pos pos2 : Pos} {k : Nat} (hc : X.calm = true) (T : ErrT X.K C fI)
    (hm : X.mg x = some (.ref C)) (hr : Room k X.A) (tk : Takes X W) (ha : PA X [a] ta) (hg : Gl X x := by rfl)
    (hdb : (x == ("__debug__" : Str)) = false := by decide)
    (he : starEach (a :: []) X.env = (false, eval a X.env) :: starEach [] X.env := by rfl)
    (hpl : (backTo pos (starEach [] X.env)).any (·.1) = false := by rfl) :
    PS X (.Raise (some (.Call (.Name x p) [a] [] pos)) none pos2) (fun _ σ H => tMkE C ta σ H fun cls d H' => W cls d σ H') :=
  ps_raise hc tk (pmk_err T hm hr ha hg hdb he hpl)

/-- C(e) as a value -/
def tExc (C : Addr) (ta : TA) : TE := fun σ H Q => tMkE C ta σ H fun cls d H1 => ∀ a, H1 a = none → Q (.ref a) (upd H1 a (EX a cls d))
theorem pe_exc {x : Str} {a : Expr} {ta : TA} {p pos : Pos} {k : Nat} (T : ErrT X.K C fI) (hm : X.mg x = some (.ref C))
    (hr : Room k X.A) (ha : PA X [a] ta) (hg : Gl X x := by rfl) (hdb : (x == ("__debug__" : Str)) = false := by decide)
    (he : starEach (a :: []) X.env = (false, eval a X.env) :: starEach [] X.env := by rfl)
    (hpl : (backTo pos (starEach [] X.env)).any (·.1) = false := by rfl) :
    PE X (.Call (.Name x p) [a] [] pos) (tExc C ta) := pe_mk (pmk_err T hm hr ha hg hdb he hpl)

/-- what is known of an error that is held: its class of one's own, its dict with the value; or a plain ValueError -/
def Held (K : PySem.W.Frag) (H : Hp) (a : Addr) (cls : Value) : Prop :=
  (∃ C d fI v, cls = .ref C ∧ H a = some (EX a cls (some d)) ∧ H d = some (xv v) ∧ ErrT K C fI) ∨
  (cls = .type "ValueError" ∧ H a = some (EX a cls none))
/-- e.value, e a tracked error -/
def tVal (K : PySem.W.Frag) (te : TE) : TE := fun σ H Q => te σ H fun x H1 => ∃ a C d fI v,
  x = .ref a ∧ H1 a = some (EX a (.ref C) (some d)) ∧ ErrT K C fI ∧ H1 d = some (xv v) ∧ Q v H1
theorem inst_ex {h : Heap} {a C d : Addr} {oe : Obj} {vs : Array Value} {mA : Str → Option Value} (ho : h.get? a = some oe)
    (hz : Zc (.ref C) (some d) oe) (hd : oe.data = .fields vs) (hns : h.Ns1 d mA) :
    ∃ od, PySem.W.InstAt h a oe C (some od) ∧ ∀ name, PySem.W.lookIn name od = some (mA name) := by
  obtain ⟨od, hod, hl⟩ := lookIn_ns hns
  exact ⟨od, ⟨ho, hz.1, by unfold PySem.W.notCls; rw [hd] <;> rfl, by rw [hz.2]; exact hod⟩, hl⟩
theorem pe_val {e : Expr} {te : TE} {pos : Pos} (he : PE X e te)
    (hb : attributeBase e "value" X.env (eval e X.env) = eval e X.env := by rfl) : PE X (.Attribute e "value" pos) (tVal X.K te) := by
  refine ⟨fun pins s σ H Q I h => ?_⟩
  refine attr_of hb (thn (he.run pins s σ H _ I h) fun u s1 hh => ?_)
  obtain ⟨x, H1, I1, rx, a, C, d, fI, v, ex, ea, T, ed, q⟩ := hh
  subst ex
  obtain rfl : u = Value.ref a := rx
  obtain ⟨oe, vs, ho, hz, hd⟩ := ex_at I1.hok ea
  have hx : ObjOk X.prog X.w H1 s1.heap d (xv v) := I1.hok d _ ed
  obtain ⟨mA, hns, hr⟩ := hx
  obtain ⟨od, J, hl⟩ := inst_ex ho hz hd hns
  obtain ⟨u, hu, ru⟩ := RelO.some_of (v := v) (o := mA "value") (by rw [← look_xv (v := v)]; exact hr "value")
  exact HandSPX.exc_get I1.kIn J T.ga T.gg T.exC (PySem.W.findObj_own T.hdC T.noN rfl (by rw [hl, hu])) (handed_of ru) ⟨v, H1, I1.tok _, ru, q⟩

/-- isinstance(e, c), e a tracked error -/
def rIsX (K : PySem.W.Frag) : List V → Hp → VK → Prop := fun xs H Q => ∃ (a : Addr) (cls : Value) (c : V) (cv : Value) (b : Bool),
  xs = [.ref a, c] ∧ Held K H a cls ∧ (∀ u, RelV c u → u = cv) ∧ PySem.W.kitOne K cls cv = some b ∧ Q (.bl b) H
theorem call_isX : CallR X (.builtin "isinstance") (rIsX X.K) := by
  intro pins s σ H xs us Q I r h
  obtain ⟨a, cls, c, cv, b, rfl, hh, hcv, e, q⟩ := h
  cases r with
  | cons rx rr =>
    cases rr with
    | cons rt rr =>
      cases rr
      cases rx
      have ec := hcv _ rt
      subst ec
      have fin : ∀ tk : Nat, EP X pins σ Q (.bool b) { s with toks := tk } := fun tk => ⟨.bl b, H, I.kept (t' := tk) fun _ _ z => z, rfl, q⟩
      rcases hh with ⟨C, d, fI, v, rfl, ea, ed, T⟩ | ⟨rfl, ea⟩
      · obtain ⟨oe, vs, ho, hz, hd⟩ := ex_at I.hok ea
        have hx : ObjOk X.prog X.w H s.heap d (xv v) := I.hok d _ ed
        obtain ⟨mA, hns, _⟩ := hx
        obtain ⟨od, J, _⟩ := inst_ex ho hz hd hns
        exact PySem.W.kia_one (PySem.W.kitx_exc T.cls' T.ga T.gg T.exC T.ha T.hn T.ht T.hm) I.kIn J e (fun z => nomatch z) fin
      · obtain ⟨oe, vs, ho, hz, hd⟩ := ex_at I.hok ea
        exact PySem.W.kia_one (PySem.W.kitx_bexc PySem.F.excAttr_ValueError PySem.F.lkClass_ValueError PySem.F.soClass_ValueError (by decide)) I.kIn ⟨oe, ho, hz.1⟩ e (fun z => nomatch z) fin
end
end L2.Vx

set_option Elab.async false
set_option linter.all false
set_option maxRecDepth 100000
set_option maxHeartbeats 2000000
namespace L2.Vx
open PySem PySem.Spec PyProof.Rows

/-! ### data at an address, dicts with it -/
def kd : Key → PyData
  | .inl i => .int i
  | .inr x => .str x
mutual
inductive Dd (K : PySem.W.Frag) (H : Hp) : V → PyData → Prop
  | non : Dd K H .non .none
  | bl (b : Bool) : Dd K H (.bl b) (.bool b)
  | int (i : Int) : Dd K H (.int i) (.int i)
  | str (x : Str) : Dd K H (.str x) (.str x)
  | lst {a : Addr} {xs : List V} {ds : List PyData} : SqL K H a xs → DdAll K H xs ds → Dd K H (.ref a) (.list ds)
  | tup {a : Addr} {xs : List V} {ds : List PyData} : SqT K H a xs → DdAll K H xs ds → Dd K H (.ref a) (.tuple ds)
  | dct {a : Addr} {kvs : List (Key × V)} {ds : List PyData} : H a = some (.dK kvs) → DdAll K H (kvs.map (·.2)) ds →
      Dd K H (.ref a) (.dict ((kvs.map fun p => kd p.1).zip ds))
inductive DdAll (K : PySem.W.Frag) (H : Hp) : List V → List PyData → Prop
  | nil : DdAll K H [] []
  | cons {v : V} {vs : List V} {d : PyData} {ds : List PyData} : Dd K H v d → DdAll K H vs ds → DdAll K H (v :: vs) (d :: ds)
end
/-! no list in it -/
mutual
def noL : PyData → Bool
  | .none | .bool _ | .int _ | .str _ => true
  | .list _ => false
  | .tuple xs => noLs xs
  | .dict kvs => noLk kvs
def noLs : List PyData → Bool
  | [] => true
  | x :: xs => noL x && noLs xs
def noLk : List (PyData × PyData) → Bool
  | [] => true
  | (_, v) :: r => noL v && noLk r
end
theorem noLk_zip : ∀ (ks ds : List PyData), ks.length = ds.length → noLk (ks.zip ds) = noLs ds
  | [], [], _ => rfl
  | k :: ks, d :: ds, h => by
    show (noL d && noLk (ks.zip ds)) = (noL d && noLs ds)
    rw [noLk_zip ks ds (Nat.succ.inj h)]
  | [], _ :: _, h => by cases h
  | _ :: _, [], h => by cases h
theorem DdAll.len {K : PySem.W.Frag} {H : Hp} : ∀ {vs : List V} {ds : List PyData}, DdAll K H vs ds → vs.length = ds.length
  | _, _, .nil => rfl
  | _, _, .cons _ t => congrArg (· + 1) t.len

theorem reads_keys {P : Program} {w : World} {h : Heap} : ∀ (es : List DictEntry) (kvs : List (Key × Value)), Pairs (mixKind P w) es kvs →
    ReadsAll h (es.map (·.key)) (kvs.map fun p => kd p.1) [] ∧ es.map (·.val) = kvs.map (·.2)
  | _, _, .nil => ⟨.nil, rfl⟩
  | e :: es, kv :: kvs, .cons hk hv t => by
    obtain ⟨r, q⟩ := reads_keys es kvs t
    refine ⟨?_, by rw [List.map_cons, List.map_cons, hv, q]⟩
    have r1 : Reads h e.key (kd kv.1) [] := by
      rcases keyIs_shape (show keyIs kv.1 e.key = true from hk) with ⟨i, t, e1, e2⟩ | ⟨x, t, e1, e2⟩
      · rw [e1, e2]; exact .int i t
      · rw [e1, e2]; exact .str x t
    exact ReadsAll.cons r1 r
theorem kv_keys {κ : Type} : ∀ (kvs : List (κ × V)) (us : List (κ × Value)), KV kvs us → kvs.map (·.1) = us.map (·.1) ∧ Vals (kvs.map (·.2)) (us.map (·.2))
  | _, _, .nil => ⟨rfl, .nil⟩
  | _, _, .cons r t => by
    obtain ⟨q1, q2⟩ := kv_keys _ _ t
    exact ⟨by rw [List.map_cons, List.map_cons, r.1, q1], .cons r.2 q2⟩

section
variable {X : Cx} {pins : List (Addr × Obj)} {σ : St} {H : Hp} {s : Shared}
mutual
theorem Dd.reads (I : Inv X pins σ H s) : ∀ {v : V} {d : PyData}, Dd X.K H v d → ∀ u : Value, RelV v u → ∃ as, Reads s.heap u d as ∧ (noL d = true → sysModules ∉ as)
  | _, _, .non, u, r => by
    obtain rfl : u = Value.none := r
    exact ⟨_, Reads.none, fun _ z => by cases z⟩
  | _, _, .bl b, u, r => by
    obtain rfl : u = Value.bool b := r
    exact ⟨_, Reads.bool b, fun _ z => by cases z⟩
  | _, _, .int i, u, r => by
    obtain ⟨t, rfl⟩ := (show ∃ t, u = Value.int i t from r)
    exact ⟨_, Reads.int i t, fun _ z => by cases z⟩
  | _, _, .str x, u, r => by
    obtain ⟨t, rfl⟩ := (show ∃ t, u = Value.str x t from r)
    exact ⟨_, Reads.str x t, fun _ z => by cases z⟩
  | _, _, .lst (a := a) hs ha, u, r => by
    obtain rfl : u = Value.ref a := r
    obtain ⟨its, rv, ⟨o, n, ho, hc, _, hd⟩, _⟩ := I.list hs
    obtain ⟨as, hr, _⟩ := Dd.readsAll I ha its rv
    exact ⟨_, Reads.list ho hc hd hr, fun z => by cases z⟩
  | _, _, .tup (a := a) hs ha, u, r => by
    obtain rfl : u = Value.ref a := r
    obtain ⟨its, rv, ⟨o, ho, hc, n, hd⟩, _⟩ := I.tuple hs
    obtain ⟨as, hr, hn⟩ := Dd.readsAll I ha its rv
    exact ⟨_, Reads.tuple ho hc hd hr, hn⟩
  | _, _, .dct (a := a) (kvs := pvs) (ds := ds) he ha, u, r => by
    obtain rfl : u = Value.ref a := r
    obtain ⟨_, hne, us, rk, ob, es, ep, ho, hx, hd, _, hp, _⟩ := I.hok _ _ he
    obtain ⟨rk1, rk2⟩ := kv_keys _ _ rk
    obtain ⟨q1, q2⟩ := reads_keys (h := s.heap) es.toList us hp
    have hl : (pvs.map fun p => kd p.1).length = ds.length := by
      rw [List.length_map]
      have := ha.len
      rw [List.length_map] at this
      exact this
    obtain ⟨as, hr, hn⟩ := Dd.readsAll I ha (us.map (·.2)) rk2
    have e1 : us.map (fun p => kd p.1) = pvs.map (fun p => kd p.1) := by
      have := congrArg (List.map kd) rk1
      rw [List.map_map, List.map_map] at this
      exact this.symm
    have f1 : ((pvs.map fun p => kd p.1).zip ds).map (·.1) = pvs.map fun p => kd p.1 := List.map_fst_zip (by rw [hl]; exact Nat.le_refl _)
    have f2 : ((pvs.map fun p => kd p.1).zip ds).map (·.2) = ds := List.map_snd_zip (by rw [hl]; exact Nat.le_refl _)
    refine ⟨_, Reads.dict ho hx.1 hd (as := []) (bs := as) (by rw [f1, ← e1]; exact q1) (by rw [f2, q2]; exact hr), fun z => ?_⟩
    intro hm
    rcases List.mem_cons.mp (show sysModules ∈ a :: ([] ++ as) from hm) with e | hm
    · rw [← e] at hne
      simp at hne
    · exact hn (by rw [← noLk_zip _ _ hl]; exact z) hm
theorem Dd.readsAll (I : Inv X pins σ H s) : ∀ {vs : List V} {ds : List PyData}, DdAll X.K H vs ds → ∀ us : List Value, Vals vs us → ∃ as, ReadsAll s.heap us ds as ∧ (noLs ds = true → sysModules ∉ as)
  | _, _, .nil, us, r => by
    cases r
    exact ⟨_, ReadsAll.nil, fun _ z => by cases z⟩
  | _, _, .cons h1 h2, us, r => by
    cases r with
    | cons r1 r2 =>
      obtain ⟨as, q1, n1⟩ := Dd.reads I h1 _ r1
      obtain ⟨bs, q2, n2⟩ := Dd.readsAll I h2 _ r2
      refine ⟨_, ReadsAll.cons q1 q2, fun z hm => ?_⟩
      obtain ⟨z1, z2⟩ := Bool.and_eq_true_iff.mp z
      rcases List.mem_append.mp hm with m | m
      · exact n1 z1 m
      · exact n2 z2 m
end
end
/-- what repr may be asked of -/
def shOk (d : PyData) : Bool := d.showable && (!d.hasDict || noL d)
/-- repr(x) of data -/
def rRepr (K : PySem.W.Frag) : List V → Hp → VK → Prop := fun xs H Q => ∃ (x : V) (d : PyData),
  xs = [x] ∧ Dd K H x d ∧ shOk d = true ∧ d.depth ≤ 60 ∧ d.shown.length ≤ sizeLine ∧ Q (.str d.shown) H
theorem call_repr {X : Cx} (hg : X.A.guards = some []) (hu : X.A.units + 64 < cLine) : CallR X (.builtin "repr") (rRepr X.K) := by
  intro pins s σ H xs us Q I r h
  obtain ⟨x, d, rfl, hd, hs, hdep, hz, q⟩ := h
  cases r with
  | cons rx rr =>
    cases rr
    rename_i u
    obtain ⟨as, hr, hn⟩ := Dd.reads I hd u rx
    obtain ⟨s1, s2⟩ := Bool.and_eq_true_iff.mp (show (d.showable && (!d.hasDict || noL d)) = true from hs)
    have hsm : d.hasDict = true → sysModules ∉ as := fun z => hn (by rw [z] at s2; simpa using s2)
    have atRef : ∀ {a : Addr}, u = Value.ref a → wpAny (model X.prog X.w) X.A (call (.builtin "repr") [u]) (EP X pins σ Q) X.xe s := fun {a} e => by
      subst e
      exact repr_of_reads' hr s1 hsm hg (by omega) (fun _ _ e => e) (fun h' v tk hk => ⟨.str _, H, I.kept hk, ⟨_, rfl⟩, q⟩) hz
    cases hd with
    | non =>
      obtain rfl : u = Value.none := rx
      exact PySem.P.repr_of_none ⟨.str _, H, I.tok _, ⟨_, rfl⟩, q⟩
    | bl b =>
      obtain rfl : u = Value.bool b := rx
      exact PySem.P.repr_of_bool ⟨.str _, H, I.tok _, ⟨_, rfl⟩, q⟩
    | int i =>
      obtain ⟨t, rfl⟩ := (show ∃ t, u = Value.int i t from rx)
      exact PySem.P.repr_of_int (of_decide_eq_true s1) ⟨.str _, H, I.tok _, ⟨_, rfl⟩, q⟩
    | str x =>
      obtain ⟨t, rfl⟩ := (show ∃ t, u = Value.str x t from rx)
      exact PySem.P.repr_of_str ⟨.str _, H, I.tok _, ⟨_, rfl⟩, q⟩ hz
    | lst _ _ => exact atRef rx
    | tup _ _ => exact atRef rx
    | dct _ _ => exact atRef rx

/-! ### defs that are called where nothing shows itself: the guards are told -/
structure FnG (P : Program) (w : World) (K : PySem.W.Frag) (mg : Str → Option Value) (base : Heap) (CX : CXT) (k : Nat) (f : Addr)
    (fd : FuncData) (ps : List Str) (sp : Sp) : Prop where
  len : ∀ vs H Q E, sp vs H Q E → vs.length = ps.length
  run : ∀ (A : Around) (outer : List Env) (s : Shared) (H : Hp) (args : Args) (us : List Value) (vs : List V) (Q : VK) (E : XK), A.guards = some [] →
    Room k A → Env0 P w K mg base A outer s H → BindsTo s fd args (ps.zip us) → Vals vs us → sp vs H Q E →
      codeAny (model P w) A (.call (.ref f) args) (CR CX outer P w H s Q E) s
section
variable {X : Cx} {CX : CXT} {k : Nat} {f : Addr} {fd : FuncData} {ps : List Str} {sp : Sp} {dvs : List V} {ds : List Value} {E : XK} {x : Str}
  {p pos : Pos} {e : Expr} {es : List Expr} {t : TA}
theorem run_g {pins : List (Addr × Obj)} {σ : St} {H : Hp} {s : Shared} {Q : VK} {us : List Value} {vs : List V}
    (F : FnG X.prog X.w X.K X.mg X.base CX k f fd ps sp) (gd : X.A.guards = some []) (hr : Room k X.A) (hb : Binds X.K fd ps ds) (hd : Vals dvs ds)
    (hx : Passes CX X E) (I : Inv X pins σ H s) (r : Vals vs us) (h : sp (vs ++ dvs) H Q E) :
    wpAny (model X.prog X.w) X.A (call (.ref f) us) (EP X pins σ Q) X.xe s := by
  have r2 := r.append hd
  have hl : (us ++ ds).length = ps.length := r2.length.symm.trans (F.len _ _ _ _ h)
  have hc := F.run X.A X.stack s H ⟨us, []⟩ (us ++ ds) (vs ++ dvs) Q E gd hr I.env0 (hb s us I.kIn hl) r2 h
  refine wpAny_call (codeAny_mono hc fun r s' hq => ?_)
  match r, hq with
  | .error e, hq => exact hx pins σ H s e s' I hq
  | .ok (.ret u), hq => exact I.after hq
  | .ok .next, hq => exact hq.elim
  | .ok .brk, hq => exact hq.elim
  | .ok .cont, hq => exact hq.elim
/-- f(e, ..), f such a def -/
theorem pe_callG (F : FnG X.prog X.w X.K X.mg X.base CX k f fd ps sp) (gd : X.A.guards = some []) (hr : Room k X.A) (hg : Gl X x)
    (hm : X.mg x = some (.ref f)) (hk : PySem.W.keepIn X.K (.ref f) = true) (hb : Binds X.K fd ps ds) (hd : Vals dvs ds) (hx : Passes CX X E)
    (ha : PA X (e :: es) t) (hdb : (x == ("__debug__" : Str)) = false := by decide)
    (he : starEach (e :: es) X.env = (false, eval e X.env) :: starEach es X.env := by rfl)
    (hpl : (backTo pos (starEach es X.env)).any (·.1) = false := by rfl) :
    PE X (.Call (.Name x p) (e :: es) [] pos) (tCall sp dvs E t) := by
  refine ⟨fun pins s σ H Q I h => wpAny_Call_Name_kw (ld_glob I hg hm ?_ hdb)⟩
  have ht := ha.run pos pins s σ H _ I h
  exact PySem.W.callWith_K (h₀ := X.base) I.ok.mod.kin hk
    (thn ht fun us s1 ⟨vs, H1, I1, r, q⟩ => ⟨I1.kIn, run_g F gd hr hb hd hx I1 r q⟩) he hpl
end
section
variable {P : Program} {w : World} {K : PySem.W.Frag} {mg : Str → Option Value} {base : Heap}
/-- a def's promise by its body, the guards told -/
theorem okG {CX : CXT} {x qual : Str} {st : Stmt} {f : Addr} {fd : FuncData} {N ps : List Str} {k : Nat} {sp : Sp} (F : Fun K x qual st f fd)
    (S : FnScope N ps (defScope st)) (len : ∀ vs H Q E, sp vs H Q E → vs.length = ps.length)
    (hbody : ∀ (cdv : Value) (A : Around) (outer : List Env) (s : Shared) (H : Hp) (vs : List V) (Q : VK) (E : XK), A.guards = some [] →
      Room k (A.deeper (envOfC qual (defScope st) s.heap.objs.size f cdv)) → sp vs H Q E →
      ∃ t, PSs (cxOf CX P w K mg base N qual (defScope st) f cdv A outer s H E) (defBody st) t ∧
        t { nx := fun _ H' => Q .non H', rt := Q } (start N vs) H) : FnG P w K mg base CX (k + 1) f fd ps sp := by
  obtain ⟨oc, od, kV, doc, pm, an, cdv, ct, osl, rfl, lk, hcd⟩ := F.ex
  refine ⟨len, fun A outer s H args us vs Q E gd hr e0 hb r hsp => ?_⟩
  have old : ∀ b o, base.get? b = some o → s.heap.get? b = some o := fun b o e => (e0.bs b o e).1
  have KX : K.In s.heap := e0.mod.kin.keeps old
  have par : ∀ y ∈ ps.zip us, (defScope st).names.lookup y.1 = some .local ∨
      ((defScope st).names.lookup y.1 = some .cell ∧ ((cellsFrom (s.heap.objs.size + 1) (defScope st).names []).lookup y.1).isSome = true) := by
    intro y hy
    obtain ⟨n, v⟩ := y
    rcases S.par n (List.of_mem_zip hy).1 with q | q
    · exact .inl q
    · exact .inr ⟨q, PySem.W.cellsFrom_some _ _ _ (.inl q)⟩
  refine codeAny_call_function hr.depth (KX _ _ lk) rfl S.co S.gen rfl (PySem.W.codeRec_of KX hcd) (hb _ _ _ _ ?_)
  refine wpAny_newFunctionEnv_cells S.kind par fun env he s1 ic => ?_
  subst he
  refine ⟨(e0.mod.nolimit.keeps old).keeps ic.toInCall.keep, codeAny_func ?_⟩
  obtain ⟨t, ht, hq⟩ := hbody cdv A outer s H vs Q E gd (hr.deeper _) hsp
  have I := inv_start (CX := CX) (E := E) S hr.hd e0 (len _ _ _ _ hsp) r ic
  refine wpAny_mono (ht.run [] s1 _ H _ I hq) (fun fl s' hs => ?_) fun _ _ z => z
  match fl, hs with
  | .ret u, ⟨v, σ', H', J, rv, q⟩ => exact ⟨v, H', J.os, J.bare, J.base, J.hok, rv, q⟩
  | .next, ⟨σ', H', J, q⟩ => exact ⟨V.non, H', J.os, J.bare, J.base, J.hok, rfl, q⟩
  | .brk, ⟨_, _, _, q⟩ => exact q.elim
  | .cont, ⟨_, _, _, q⟩ => exact q.elim
/-- .. one that lets nothing out -/
theorem okG0 {x qual : Str} {st : Stmt} {f : Addr} {fd : FuncData} {N ps : List Str} {k : Nat} {sp : Sp} (F : Fun K x qual st f fd)
    (S : FnScope N ps (defScope st)) (len : ∀ vs H Q E, sp vs H Q E → vs.length = ps.length)
    (hbody : ∀ (cdv : Value) (A : Around) (outer : List Env) (s : Shared) (H : Hp) (vs : List V) (Q : VK) (E : XK), A.guards = some [] →
      Room k (A.deeper (envOfC qual (defScope st) s.heap.objs.size f cdv)) → sp vs H Q E →
      ∃ t, PSs (cxOf CX0 P w K mg base N qual (defScope st) f cdv A outer s H E).nox (defBody st) t ∧
        t { nx := fun _ H' => Q .non H', rt := Q } (start N vs) H) : FnG P w K mg base CX0 (k + 1) f fd ps sp :=
  okG F S len fun cdv A outer s H vs Q E gd hr hsp => by
    obtain ⟨t, h, q⟩ := hbody cdv A outer s H vs Q E gd hr hsp
    exact ⟨t, h.nox, q⟩
end
end L2.Vx

set_option Elab.async false
set_option linter.all false
set_option maxRecDepth 100000
set_option maxHeartbeats 2000000
namespace L2.Vx
open PySem PySem.Spec PyProof.Rows

/-- the end of a law whose def is told the guards -/
theorem law_callG {P : Program} {w : World} {K : PySem.W.Frag} {mg mb : Str → Option Value} {CX : CXT} {k : Nat} {fa a : Addr} {fd : FuncData} {x : Str} {sp : Sp}
    {s₁ : Shared} {vs : List Value} {ns : List Int}
    (KX : K.In s₁.heap) (hns : s₁.heap.Ns mainGlobals mg) (hb : s₁.heap.Ns builtinsNs mb) (hbb : ∀ x : Str, x ≠ "__name__" → mb x = bootBuiltins x)
    (hlim : s₁.heap.NoLimit) (hg : s₁.gens = #[]) (ha : s₁.heap.get? a = some { cls := .type "list", data := .seq vs.toArray }) (hi : IntsAre vs ns)
    (hl : ns.length ≤ sizeLine) (hr : Room k callerA)
    (F : ∀ base : Heap, K.In base → base.Ns mainGlobals mg → FnG P w K mg base CX k fa fd [x] sp)
    (hbind : ∀ (s : Shared) (u : Value), BindsTo s fd ⟨[u], []⟩ [(x, u)])
    (hsp : ∀ H : Hp, Only H → SqL K H a (ns.map V.int) → sp [.ref a] H (fun v _ => v = .bl true) fun _ _ _ => False)
    (hCX : ∀ H e s', CX [] H s₁ (fun _ _ _ => False) e s' → False) :
    codeAny (model P w) callerA (.call (.ref fa) ⟨[.ref a], []⟩)
      (fun r s' => r = .ok (.ret (.bool true)) ∧ OldK s₁.heap s'.heap ∧ s'.os = s₁.os ∧ AllBare s'.gens) s₁ := by
  have lenV := hi.length
  have rv := vals_ints hi
  -- whatever of the script is tracked
  have any : ∀ H : Hp, Only H → SqL K H a (ns.map V.int) → HOk P w H s₁.heap → (∀ b u, H b = some u → b = a) → (∀ u, H a = some u → K.lookup a = none) →
      codeAny (model P w) callerA (.call (.ref fa) ⟨[.ref a], []⟩)
        (fun r s' => r = .ok (.ret (.bool true)) ∧ OldK s₁.heap s'.heap ∧ s'.os = s₁.os ∧ AllBare s'.gens) s₁ := by
    intro H hO hS hok only free
    have stays : ∀ {b : Addr} {o : Obj}, s₁.heap.get? b = some o → (∀ u, H b = some u → False) → (hidT s₁.heap H).get? b = some o := by
      intro b o e n
      refine hidT_get e ?_
      cases q : H b with
      | none => rfl
      | some u => exact (n u q).elim
    have dictStays : ∀ {b : Addr} {o : Obj} {es : Array DictEntry} {ep : Nat}, s₁.heap.get? b = some o → o.data = .dict es ep → (hidT s₁.heap H).get? b = some o := by
      intro b o es ep e d
      refine stays e fun u q => ?_
      have eb := only b u q
      subst eb
      rw [ha] at e
      cases e
      cases d
    have ns' : ∀ {b : Addr} {m : Str → Option Value}, s₁.heap.Ns b m → (hidT s₁.heap H).Ns b m := by
      intro b m h
      obtain ⟨o, es, ep, e, d, r⟩ := h
      exact ⟨o, es, ep, dictStays e d, d, r⟩
    have KB : K.In (hidT s₁.heap H) := by
      intro b o e
      refine stays (KX b o e) fun u q => ?_
      have eb := only b u q
      subst eb
      rw [free u q] at e
      cases e
    have M : Mod K mg (hidT s₁.heap H) := by
      obtain ⟨mc, h1, h2⟩ := hlim
      exact ⟨KB, ns' hns, ⟨mb, ns' hb, hbb⟩, ⟨mc, ns' h1, h2⟩⟩
    have e0 : Env0 P w K mg (hidT s₁.heap H) callerA [] s₁ H :=
      { frames := rfl, mod := M, bs := fun b o e => of_hidT e, bsz := Nat.le_of_eq (hidT_size _ _), funs := trivial, frf := fun b z => (by cases z), hok := hok, bare := .of_eq hg }
    have run := (F _ KB (ns' hns)).run callerA [] s₁ H ⟨[.ref a], []⟩ [.ref a] [.ref a] _ _ rfl hr e0 (hbind s₁ (.ref a)) (.cons rfl .nil) (hsp H hO hS)
    refine codeAny_mono run fun r s' h => ?_
    match r, h with
    | .error e, h => exact (hCX H e s' h).elim
    | .ok .next, h => exact h.elim
    | .ok .brk, h => exact h.elim
    | .ok .cont, h => exact h.elim
    | .ok (.ret u), ⟨v, H', os, bare, un, hok', r', q⟩ =>
      obtain rfl : v = .bl true := q
      obtain rfl : u = Value.bool true := r'
      refine ⟨rfl, OldK.of_keep fun b o e => ?_, os, bare⟩
      rcases hO b with z | ⟨ob, xs, z⟩
      · exact un.keep b o e z (fun z => by cases z) (fun z => by cases z)
      · obtain ⟨e1, _⟩ := hok b _ z
        obtain ⟨e2, _⟩ := hok' b _ (un.frzs b ob _ z)
        rw [e] at e1
        cases e1
        exact e2
  cases hk : K.lookup a with
  | some o =>
    have e := KX a o hk
    rw [ha] at e
    cases e
    refine any (fun _ => none) (fun _ => .inl rfl) (.inr ⟨_, vs.toArray, _, hk, rfl, rfl, rfl, ?_, by simpa using rv⟩) (fun b u z => by cases z) (fun b u z => by cases z) (fun u z => by cases z)
    rw [List.size_toArray, lenV]
    exact hl
  | none =>
    refine any (fun b => if b = a then some (.frz { cls := .type "list", data := .seq vs.toArray } (.lst (ns.map V.int))) else none) (fun b => ?_)
      (.inl (.inr ⟨{ cls := .type "list", data := .seq vs.toArray }, if_pos rfl⟩)) (fun b u z => ?_) (fun b u z => ?_) (fun _ _ => hk)
    · by_cases q : b = a
      · exact .inr ⟨_, _, if_pos q⟩
      · exact .inl (if_neg q)
    · by_cases q : b = a
      · subst q
        have z := (if_pos rfl).symm.trans z
        cases z
        exact ⟨ha, by rw [List.length_map]; exact hl, vs, _, rv, ha⟩
      · have z := (if_neg q).symm.trans z
        cases z
    · by_cases q : b = a
      · exact q
      · have z := (if_neg q).symm.trans z
        cases z
theorem walk_ofG {l : PySem.W.OpenLaw} {n k : Nat} {q : Program} {loose : List Str} {XP : (Str → Option Value) → Heap → Prop} {YP : World → Heap → Prop} {d : DefRec}
    {K : Params → PySem.W.Frag} {CX : World → CXT} {sp : World → Sp} {x : Str}
    (hn : l.most = some n) (hn2 : n ≤ sizeLine) (hdf : d.params.defaults = []) (hr : Room k callerA) (hY : ∀ (w : World) (h : Heap), YP w h → (K w.params).In h)
    (F : ∀ (w : World) (mg : Str → Option Value) (fa : Addr) (h : Heap), (K w.params).In h → h.Ns mainGlobals mg → mg d.name = some (.ref fa) →
      ∃ fd : FuncData, (∀ (s : Shared) (u : Value), BindsTo s fd ⟨[u], []⟩ [(x, u)]) ∧
        ∀ base : Heap, (K w.params).In base → base.Ns mainGlobals mg → FnG l.prog w (K w.params) mg base (CX w) k fa fd [x] (sp w))
    (hsp : ∀ (w : World) (H : Hp) (a : Addr) (ns : List Int), ns.length ≤ n → Only H → SqL (K w.params) H a (ns.map V.int) →
      sp w [.ref a] H (fun v _ => v = .bl true) fun _ _ _ => False)
    (hCX : ∀ (w : World) (H : Hp) (s : Shared) (e : Value) (s' : Shared), CX w [] H s (fun _ _ _ => False) e s' → False) :
    PySem.W.WalkO q loose XP YP l.row.toRowW d [] (fun f vs => PySem.call f vs) := by
  refine Att.attach_call hn hdf fun w s₀ s₁ mg mb fa o pm cd doc a vs ns G Y ho hd hcd hmg hobj hints hlen hg => ?_
  have KX := hY w _ Y
  obtain ⟨fd, hb, hF⟩ := F w mg fa _ KX G.T.g hmg
  refine law_callG KX G.T.g G.T.b G.T.builtins G.T.nolimit hg hobj hints (Nat.le_trans hlen hn2) hr hF hb (fun H hO hS => ?_) fun H e s' => hCX w H s₁ e s'
  exact hsp w H a ns hlen hO hS
end L2.Vx

set_option Elab.async false
set_option linter.all false
set_option maxRecDepth 100000
set_option maxHeartbeats 2000000
namespace L2.Vx
open PySem PySem.Spec PyProof.Rows
open PySem.W (Frag)

/-! ### the facts of an error class as one Bool -/
/-- the class object itself -/
def ecB (K : Frag) (C : Addr) : Bool := match K.lookup C with
  | some ⟨.type t, _, .cls cd, sl⟩ => decide (t = "type") && (match cd.mro, sl.toList with
    | .ref D :: bm, [_, _, _, _, some (.builtin n), _] => decide (D = C) && (decide (n = "ValueError.__new__") && (!cd.hasDel && (PySem.HandSPX.refsVE bm && cd.hasDict)))
    | _, _ => false)
  | _ => false
theorem ec_ok {K : Frag} {C : Addr} (h : ecB K C = true) : ∃ nm q N bs bm sn sub ab col dd k0 k1 k2 k3 k5,
    K.lookup C = some (excClassObj nm q C N bs bm true sn sub ab col dd k0 k1 k2 k3 k5 "ValueError.__new__") ∧ PySem.HandSPX.refsVE bm = true := by
  unfold ecB at h
  split at h
  · rename_i t dd cd sl ho
    obtain ⟨h0, h⟩ := Bool.and_eq_true_iff.mp h
    split at h
    · rename_i D bm k0 k1 k2 k3 n k5 hm hs
      obtain ⟨h1, h⟩ := Bool.and_eq_true_iff.mp h
      obtain ⟨h2, h⟩ := Bool.and_eq_true_iff.mp h
      obtain ⟨h3, h⟩ := Bool.and_eq_true_iff.mp h
      obtain ⟨h4, h5⟩ := Bool.and_eq_true_iff.mp h
      have e0 := of_decide_eq_true h0
      have e1 := of_decide_eq_true h1
      have e2 := of_decide_eq_true h2
      obtain ⟨nm, bs, mro, ns, qn, hd, sn, sub, ab, col, del⟩ := cd
      dsimp only at hm h3 h4 h5
      have h3' : del = false := by simpa using h3
      subst hm h3' h5 e0 e1 e2
      have hsl : sl = #[k0, k1, k2, k3, some (.builtin "ValueError.__new__"), k5] := by
        rw [← hs]
      subst hsl
      exact ⟨nm, qn, ns, bs, bm, sn, sub, ab, col, dd, k0, k1, k2, k3, k5, ho, h4⟩
    · cases h
  · cases h
def eqV1 (a b : Option (Option Value)) : Bool := decide (a = b)
def errB (K : Frag) (C fI : Addr) : Bool :=
  ecB K C && (eqV1 (PySem.W.findIn K (.ref C) "__setattr__") (some (some (.builtin "object.__setattr__"))) &&
  (eqV1 (PySem.W.findIn K (.ref C) "__getattribute__") (some (some (.builtin "BaseException.__getattribute__"))) &&
  (eqV1 (PySem.W.findIn K (.ref C) "__getattr__") (some none) && (eqV1 (PySem.W.findIn K (.ref C) "value") (some none) &&
  (eqV1 (PySem.W.findIn K (.ref C) "__init__") (some (some (.ref fI))) && (decide (PySem.W.typeIn K (.ref fI) = some (.type "function")) &&
  (PySem.W.keepIn K (.ref C) && (decide (PySem.W.subIn K (.ref C) (.type "BaseException") = some true) &&
  (decide (PySem.W.typeIn K (.ref C) = some (.type "type")) && (PySem.W.hasDictIn K C && ((PySem.W.clsIn K C).isSome &&
  (eqV1 (PySem.W.findIn K (.ref C) "__class__") (some (some (.builtin "object.__class__"))) &&
  (eqV1 (PySem.W.specialIn K (.builtin "object.__class__") "__get__") (some (some (.builtin "getset_descriptor.__get__"))) &&
  (decide (PySem.W.takesIn K (.builtin "object.__class__") = some true) && decide (PySem.W.mroIn K C (.type "object") = some true)))))))))))))))
/-- the own __init__ of all of them -/
def InitF (K : Frag) (fI : Addr) : Prop := ∃ (oc : Value) (od : Option Addr) (kV doc pm : Value) (an : Option Addr) (cdv ct : Value)
  (osl : Array (Option Value)) (p1 p2 q1 q2 q3 q4 : Pos), K.lookup fI = some ⟨oc, od, .func (PySem.W.fnOf "__init__" "DrawError.__init__"
    (PySem.DrX.iA p1 p2) (PySem.DrX.iB q1 q2 q3 q4) PySem.DrX.iS .none kV doc pm an cdv ct), osl⟩ ∧ PySem.W.codeIn K cdv "DrawError.__init__" = true
theorem err_ok {K : Frag} {C fI : Addr} (h : errB K C fI = true) (fn : InitF K fI) : ErrT K C fI := by
  have ba := @Bool.and_eq_true_iff
  obtain ⟨h1, h⟩ := ba.mp h
  obtain ⟨h2, h⟩ := ba.mp h
  obtain ⟨h3, h⟩ := ba.mp h
  obtain ⟨h4, h⟩ := ba.mp h
  obtain ⟨h5, h⟩ := ba.mp h
  obtain ⟨h6, h⟩ := ba.mp h
  obtain ⟨h7, h⟩ := ba.mp h
  obtain ⟨h8, h⟩ := ba.mp h
  obtain ⟨h9, h⟩ := ba.mp h
  obtain ⟨h10, h⟩ := ba.mp h
  obtain ⟨h11, h⟩ := ba.mp h
  obtain ⟨h12, h⟩ := ba.mp h
  obtain ⟨h13, h⟩ := ba.mp h
  obtain ⟨h14, h⟩ := ba.mp h
  obtain ⟨h15, h16⟩ := ba.mp h
  exact { cls := ec_ok h1, sa := of_decide_eq_true h2, ga := of_decide_eq_true h3, gg := of_decide_eq_true h4, noN := of_decide_eq_true h5,
          iC := of_decide_eq_true h6, tC := of_decide_eq_true h7, kC := h8, exC := of_decide_eq_true h9, tyC := of_decide_eq_true h10, hdC := h11,
          cls' := h12, ha := of_decide_eq_true h13, hn := of_decide_eq_true h14, ht := of_decide_eq_true h15, hm := of_decide_eq_true h16, fn := fn }
/-! ### a reading, one step -/
section
variable {t u : TS} {D : Ends} {σ : St} {H : Hp} {te tv : TE} {ta : TA} {g : TG} {Q : VK} {c : TT}
theorem rd_seq (h : t { D with nx := u D } σ H) : tSeq t u D σ H := h
theorem rd_asg (h : te σ H fun x H1 => g x σ H1 D.nx) : tAsg te g D σ H := h
theorem rd_set {i : Nat} (h : te σ H fun x H1 => D.nx (σ.set i (some x)) H1) : tAsg te (gName i) D σ H := h
theorem rd_lst (h : ta σ H fun xs H1 => xs.length ≤ sizeLine ∧ ∀ p, H1 p = none → Q (.ref p) (upd H1 p (.lst xs))) : tLst ta σ H Q := h
theorem rd_tup (h : ta σ H fun xs H1 => xs.length ≤ sizeLine ∧ ∀ p, H1 p = none → Q (.ref p) (upd H1 p (.tup xs))) : tTup ta σ H Q := h
theorem rd_yes {F : Bool → Hp → Prop} {A B : Prop} (e : F true H = if true = true then A else B) (h : A) : tYes σ H F := by
  show F true H
  rw [e, if_pos rfl]
  exact h
theorem rd_drop (h : te σ H fun _ H1 => D.nx σ H1) : tDrop te D σ H := h
theorem rd_ret (h : te σ H D.rt) : tRet te D σ H := h
theorem rd_if (h : c σ H fun b H1 => if b = true then t D σ H1 else u D σ H1) : tIfS c t u D σ H := h
theorem rd_cons {tr : TA} {Q : List V → Hp → Prop} (h : te σ H fun x H1 => tr σ H1 fun xs H2 => Q (x :: xs) H2) : tCons te tr σ H Q := h
theorem rd_op {r : R2} {tb : TE} (h : te σ H fun x H1 => tb σ H1 fun y H2 => r x y H2 Q) : tOp r te tb σ H Q := h
theorem rd_cb {r : List V → Hp → VK → Prop} (h : ta σ H fun vs H1 => r vs H1 Q) : tCB r ta σ H Q := h
theorem rd_bm {K : PySem.W.Frag} {T : String} {r : V → List V → Hp → VK → Prop} (h : te σ H fun x H1 => tyV K T x H1 ∧ ta σ H1 fun xs H2 => r x xs H2 Q) : tBM K T r te ta σ H Q := h
end
/-- a class, a def as a value -/
theorem pe_ref {X : Cx} {x : Str} {a : Addr} {pos : Pos} (hm : X.mg x = some (.ref a)) (hg : Gl X x := by rfl) (hd : (x == ("__debug__" : Str)) = false := by decide) :
    PE X (.Name x pos) (tC (.ref a)) := pe_glob hg hm rfl hd
theorem same_new {H : Hp} {p : Addr} {o : HO} (h : H p = none) : Same H (upd H p o) := fun b u e => by
  rw [upd_ne (ne_of_none e h)]
  exact e
/-- what did not stand before may change -/
theorem _root_.L2.Same.mut {H H' : Hp} {p : Addr} {o : HO} (e : Same H H') (h : H p = none) : Same H (upd H' p o) := fun b u q => by
  rw [upd_ne (ne_of_none q h)]
  exact e _ _ q
end L2.Vx

set_option Elab.async false
set_option linter.all false
set_option maxRecDepth 100000
set_option maxHeartbeats 0
namespace L2.K00
open PySem PySem.Spec PyProof.Rows L2.Vx
open PySem.W (Frag)
def top (i : Nat) : Stmt := PySem.Challenge.pw_wobblesnap_k00_errors_and_what_they_keep.main.body.getD i (.Pass ⟨0, 0, 0, 0⟩)
abbrev sInit : Stmt := inClass (top 1) 0
abbrev sMade : Stmt := top 30
abbrev sMarks : Stmt := top 31
abbrev sKept : Stmt := top 32
abbrev sLaw : Stmt := top 33
/-- the kinds, in the sequence of the law -/
def kinds : List Str := ["BadBay", "BadBook", "BadBounds", "BadDrawing", "BadHands", "BadJournal", "BadName", "BadNumber", "BadOffers", "BadPlace", "BadPlan",
  "BadSay", "BadStanding", "BadTerm", "BadWish", "BadWishes", "Contrary", "Full", "NoAxis", "NoGrid", "NoPoint", "NoRule", "NothingToRedo", "NothingToUndo",
  "NoTrial", "Taken", "TooMany"]
def base : Str := "DrawError"
open He (ga ma)
def fI (K : Frag) : Addr := ma K (ga K "DrawError") "__init__"
/-- each class is an error class; of which kinds an error is -/
def exK (K : Frag) : Bool :=
  (base :: kinds).all (fun x => errB K (ga K x) (fI K)) &&
  ((kinds.all fun x => kinds.all fun y => decide (PySem.W.kitOne K (.ref (ga K x)) (.ref (ga K y)) = some (decide (x = y)))) &&
  ((kinds.all fun y => decide (PySem.W.kitOne K (.ref (ga K "DrawError")) (.ref (ga K y)) = some false)) &&
  ((kinds.all fun y => decide (PySem.W.kitOne K (.type "ValueError") (.ref (ga K y)) = some false)) &&
  (((base :: kinds).all fun x => decide (PySem.W.kitOne K (.ref (ga K x)) (.type "ValueError") = some true)) &&
   (kinds.all fun x => decide (PySem.W.kitOne K (.ref (ga K x)) (.ref (ga K "DrawError")) = some true))))))
abbrev dD (x : Str) (s : Stmt) : He.DefD := ⟨(x, none), x, x, defArgs s, defBody s, defScope s, [], []⟩
def dInit : He.DefD := ⟨("DrawError", some "__init__"), "__init__", "DrawError.__init__", defArgs sInit, defBody sInit, defScope sInit, [], []⟩
def dMade : He.DefD := dD "_law_made" sMade
def dMarks : He.DefD := dD "_law_marks" sMarks
def dKept : He.DefD := dD "_law_is_kept" sKept
def dLaw : He.DefD := dD "law" sLaw
def fn : List He.DefD := [dInit, dMade, dMarks, dKept, dLaw]
def fa : List He.Fa := ((base :: kinds).map He.Fa.glo) ++ [.glo "_law_made", .glo "_law_marks", .glo "_law_is_kept", .glo "law", .free "isinstance", .free "enumerate",
  .free "range", .free "repr", .free "int", .free "str", .free "all", .free "ValueError"]
abbrev R : PySem.W.OpenRow := PySem.W.OpenLaw.row PySem.Challenge.rw_wobblesnap_k00_errors_and_what_they_keep
abbrev hk : PySem.W.Hook := He.hookX 5 fa fn [] [] exK
def ob (s : PySem.W.SharedT) : He.AlX := He.obsX 5 fa fn [] [] exK (HandSHeadRun.getT s)
theorem ob_eq (s : PySem.W.SharedT) : ob s = hk.obs s.abs := He.obsX_eq (HandSHeadRun.getT_eq s)
def loose : List Str := (base :: kinds) ++ (["_law_made", "_law_marks", "_law_is_kept"] : List Str)
theorem run (w : World) : HandSHeadRun.RunEq R (PySem.W.view R.prog [33]) hk ob 8000 loose w := by
  intro os
  kernel_rfl
end L2.K00

set_option Elab.async false
set_option linter.all false
set_option maxRecDepth 100000
set_option maxHeartbeats 4000000
namespace L2.K00
open PySem PySem.Spec PyProof.Rows L2.Vx
open PySem.W (Frag)
open He (ga ma)
/-- what the top has written -/
structure Fx (K : Frag) (mg : Str → Option Value) : Prop where
  err : ∀ x : Str, x ∈ base :: kinds → ErrT K (ga K x) (fI K)
  gl : ∀ x : Str, x ∈ base :: kinds → mg x = some (.ref (ga K x))
  kit : ∀ x ∈ kinds, ∀ y ∈ kinds, PySem.W.kitOne K (.ref (ga K x)) (.ref (ga K y)) = some (decide (x = y))
  kitB : ∀ y ∈ kinds, PySem.W.kitOne K (.ref (ga K base)) (.ref (ga K y)) = some false
  kitV : ∀ y ∈ kinds, PySem.W.kitOne K (.type "ValueError") (.ref (ga K y)) = some false
  kitE : ∀ x ∈ base :: kinds, PySem.W.kitOne K (.ref (ga K x)) (.type "ValueError") = some true
  kitD : ∀ x ∈ kinds, PySem.W.kitOne K (.ref (ga K x)) (.ref (ga K base)) = some true
  isi : mg "isinstance" = none
  enu : mg "enumerate" = none
  rng : mg "range" = none
  rep : mg "repr" = none
  int : mg "int" = none
  str : mg "str" = none
  all : mg "all" = none
  ve : mg "ValueError" = none

/-- an error of the kind c that keeps x, at a -/
def ErrAt (K : Frag) (H : Hp) (a : Addr) (c : Str) (x : V) : Prop := ∃ d, H a = some (EX a (.ref (ga K c)) (some d)) ∧ H d = some (xv x)
theorem ErrAt.keep {K : Frag} {H H' : Hp} {a : Addr} {c : Str} {x : V} (h : ErrAt K H a c x) (k : Same H H') : ErrAt K H' a c x := by
  obtain ⟨d, h1, h2⟩ := h
  exact ⟨d, k _ _ h1, k _ _ h2⟩
/-- errors of these kinds, in sequence -/
inductive Errs (K : Frag) (H : Hp) (x : V) : List V → List Str → Prop
  | nil : Errs K H x [] []
  | cons {a : Addr} {c : Str} {es : List V} {cs : List Str} : ErrAt K H a c x → Errs K H x es cs → Errs K H x (.ref a :: es) (c :: cs)
theorem Errs.keep {K : Frag} {H H' : Hp} {x : V} (k : Same H H') : ∀ {es : List V} {cs : List Str}, Errs K H x es cs → Errs K H' x es cs
  | _, _, .nil => .nil
  | _, _, .cons h t => .cons (h.keep k) (t.keep k)
theorem Errs.len {K : Frag} {H : Hp} {x : V} : ∀ {es : List V} {cs : List Str}, Errs K H x es cs → es.length = cs.length
  | _, _, .nil => rfl
  | _, _, .cons _ t => congrArg (· + 1) t.len
theorem Errs.app {K : Frag} {H : Hp} {x : V} : ∀ {es fs : List V} {cs ds : List Str}, Errs K H x es cs → Errs K H x fs ds → Errs K H x (es ++ fs) (cs ++ ds)
  | _, _, _, _, .nil, t => t
  | _, _, _, _, .cons h s, t => .cons h (s.app t)
theorem Errs.get {K : Frag} {H : Hp} {x : V} : ∀ {es : List V} {cs : List Str} {i : Nat} {e : V}, Errs K H x es cs → es[i]? = some e → ∃ a c, e = .ref a ∧ cs[i]? = some c ∧ ErrAt K H a c x
  | _, _, _, _, .nil, e => by simp at e
  | _, _, 0, _, .cons h _, e => by
    simp at e
    exact ⟨_, _, e.symm, rfl, h⟩
  | _, _, i + 1, _, .cons _ t, e => by
    obtain ⟨a, c, h1, h2, h3⟩ := t.get (i := i) (by simpa using e)
    exact ⟨a, c, h1, by simpa using h2, h3⟩

/-- a list is no error: what stands at its place may change -/
theorem ex_ne_lst {a : Addr} {cls : Value} {d : Option Addr} {xs : List V} : EX a cls d ≠ .lst xs := fun z => by
  unfold EX at z
  cases z
theorem ErrAt.atList {K : Frag} {H : Hp} {a p : Addr} {c : Str} {x : V} {xs : List V} (h : ErrAt K H a c x) (hp : H p = some (.lst xs)) (o : HO) : ErrAt K (upd H p o) a c x := by
  obtain ⟨d, h1, h2⟩ := h
  exact ⟨d, (upd_ne (ne_of h1 hp ex_ne_lst)).trans h1, (upd_ne (ne_of h2 hp (by intro z; cases z))).trans h2⟩
theorem Errs.atList {K : Frag} {H : Hp} {p : Addr} {x : V} {xs : List V} : ∀ {es : List V} {cs : List Str}, Errs K H x es cs → H p = some (.lst xs) → ∀ o : HO, Errs K (upd H p o) x es cs
  | _, _, .nil, _, _ => .nil
  | _, _, .cons h t, hp, o => .cons (h.atList hp o) (t.atList hp o)
theorem _root_.L2.Vx.Held.keep {K : Frag} {H H' : Hp} {a : Addr} {cls : Value} (h : Held K H a cls) (k : Same H H') : Held K H' a cls := by
  rcases h with ⟨C, d, f, v, e, h1, h2, T⟩ | ⟨e, h1⟩
  · exact .inl ⟨C, d, f, v, e, k _ _ h1, k _ _ h2, T⟩
  · exact .inr ⟨e, k _ _ h1⟩
/-- a row of new errors -/
def tErrs (K : Frag) : List Str → TA
  | [] => tNil
  | c :: cs => tCons (tExc (ga K c) (tCons (tVar 0) tNil)) (tErrs K cs)
theorem read_errs {K : Frag} {σ : St} {x : V} (hx : σ[0]? = some (some x)) : ∀ (cs : List Str) (H : Hp) (Q : List V → Hp → Prop),
    (∀ H' es, Same H H' → Errs K H' x es cs → Q es H') → tErrs K cs σ H Q
  | [], H, Q, k => k H [] (Same.refl H) .nil
  | c :: cs, H, Q, k => by
    refine ⟨x, hx, x, rfl, fun d hd a ha => ?_⟩
    have s1 : Same H (upd H d (xv x)) := same_new hd
    have s2 : Same (upd H d (xv x)) (upd (upd H d (xv x)) a (EX a (.ref (ga K c)) (some d))) := same_new ha
    have hE : ErrAt K (upd (upd H d (xv x)) a (EX a (.ref (ga K c)) (some d))) a c x := ⟨d, upd_same, s2 _ _ upd_same⟩
    refine read_errs hx cs _ _ fun H' es k' he => ?_
    exact k H' (.ref a :: es) ((s1.trans s2).trans k') (.cons (hE.keep k') he)
theorem read_errs' {K : Frag} {t : TA} {cs : List Str} (ht : t = tErrs K cs) {σ : St} {x : V} (hx : σ[0]? = some (some x)) {H : Hp} {Q : List V → Hp → Prop}
    (k : ∀ H' es, Same H H' → Errs K H' x es cs → Q es H') : t σ H Q := by
  subst ht
  exact read_errs hx cs H Q k
/-- a row of marks -/
def tMarks (K : Frag) : List Str → TA
  | [] => tNil
  | c :: cs => tCons (tCB (rIsX K) (tCons (tVar 0) (tCons (tC (.ref (ga K c))) tNil))) (tMarks K cs)
theorem read_marks {K : Frag} {σ : St} {a : Addr} {cls : Value} (b : Str → Bool) (hx : σ[0]? = some (some (.ref a))) : ∀ (cs : List Str) (H : Hp) (Q : List V → Hp → Prop),
    Held K H a cls → (∀ c ∈ cs, PySem.W.kitOne K cls (.ref (ga K c)) = some (b c)) → Q (cs.map fun c => .bl (b c)) H → tMarks K cs σ H Q
  | [], H, Q, _, _, q => q
  | c :: cs, H, Q, hh, hk, q => by
    refine ⟨.ref a, hx, a, cls, .ref (ga K c), .ref (ga K c), b c, rfl, hh, fun u r => r, hk c List.mem_cons_self, ?_⟩
    exact read_marks b hx cs H _ hh (fun c h => hk c (List.mem_cons_of_mem _ h)) q

theorem read_marks' {K : Frag} {t : TA} {cs : List Str} (ht : t = tMarks K cs) {σ : St} {a : Addr} {cls : Value} (b : Str → Bool) (hx : σ[0]? = some (some (.ref a))) {H : Hp} {Q : List V → Hp → Prop}
    (hh : Held K H a cls) (hk : ∀ c ∈ cs, PySem.W.kitOne K cls (.ref (ga K c)) = some (b c)) (q : Q (cs.map fun c => .bl (b c)) H) : t σ H Q := by
  subst ht
  exact read_marks b hx cs H Q hh hk q

/-! ### the promises -/
def spMade (K : Frag) : Sp := fun vs H Q _ => ∃ x, vs = [x] ∧ ∀ H' p es, Same H H' → H p = none → H' p = some (.lst es) → Errs K H' x es kinds → Q (.ref p) H'
def spMarks (K : Frag) : Sp := fun vs H Q _ => ∃ (a : Addr) (cls : Value) (b : Str → Bool), vs = [.ref a] ∧ Held K H a cls ∧
  (∀ c ∈ kinds, PySem.W.kitOne K cls (.ref (ga K c)) = some (b c)) ∧
  ∀ H' p, Same H H' → H p = none → H' p = some (.lst (kinds.map fun c => .bl (b c))) → Q (.ref p) H'
section
variable {P : Program} {w : World} {K : Frag} {mg : Str → Option Value} {bs : Heap}
abbrev FD (K : Frag) (x : Str) (st : Stmt) (f : Addr) (fd : FuncData) : Prop := Fun K x x st f fd
theorem scMade : FnScope ["value", "found"] ["value"] (defScope sMade) := ⟨rfl, rfl, rfl, by decide +kernel, rfl, by decide +kernel, by decide +kernel⟩
theorem ok_made {f : Addr} {fd : FuncData} (FM : FD K "_law_made" sMade f fd) (F : Fx K mg) : FnOk P w K mg bs CX0 3 f fd ["value"] (spMade K) := by
  have sc := scMade
  refine FM.ok scMade (fun vs H Q E h => ?_) (fun cdv A outer s H vs Q E hr h => ?_)
  · obtain ⟨x, rfl, _⟩ := h
    rfl
  · obtain ⟨x, rfl, k⟩ := h
    have hr1 : Room 1 _ := hr.mono (by decide)
    refine ⟨_, pss_cons (ps_set (i := 1) sc.nd rfl (Or.inl rfl) (pe_lst (pa_cons (pe_exc (F.err "BadBay" (by decide +kernel)) (F.gl "BadBay" (by decide +kernel)) hr1 (pa_cons (pv 0) pa_nil)) (pa_cons (pe_exc (F.err "BadBook" (by decide +kernel)) (F.gl "BadBook" (by decide +kernel)) hr1 (pa_cons (pv 0) pa_nil)) (pa_cons (pe_exc (F.err "BadBounds" (by decide +kernel)) (F.gl "BadBounds" (by decide +kernel)) hr1 (pa_cons (pv 0) pa_nil)) (pa_cons (pe_exc (F.err "BadDrawing" (by decide +kernel)) (F.gl "BadDrawing" (by decide +kernel)) hr1 (pa_cons (pv 0) pa_nil)) (pa_cons (pe_exc (F.err "BadHands" (by decide +kernel)) (F.gl "BadHands" (by decide +kernel)) hr1 (pa_cons (pv 0) pa_nil)) (pa_cons (pe_exc (F.err "BadJournal" (by decide +kernel)) (F.gl "BadJournal" (by decide +kernel)) hr1 (pa_cons (pv 0) pa_nil)) pa_nil))))))))
    (pss_cons (ps_expr (pe_bm PySem.F.plainAttrs_list PySem.F.slot_list_extend PySem.F.type_list_extend mt_extend (pv 1) (pa_cons (pe_lst (pa_cons (pe_exc (F.err "BadName" (by decide +kernel)) (F.gl "BadName" (by decide +kernel)) hr1 (pa_cons (pv 0) pa_nil)) (pa_cons (pe_exc (F.err "BadNumber" (by decide +kernel)) (F.gl "BadNumber" (by decide +kernel)) hr1 (pa_cons (pv 0) pa_nil)) (pa_cons (pe_exc (F.err "BadOffers" (by decide +kernel)) (F.gl "BadOffers" (by decide +kernel)) hr1 (pa_cons (pv 0) pa_nil)) (pa_cons (pe_exc (F.err "BadPlace" (by decide +kernel)) (F.gl "BadPlace" (by decide +kernel)) hr1 (pa_cons (pv 0) pa_nil)) (pa_cons (pe_exc (F.err "BadPlan" (by decide +kernel)) (F.gl "BadPlan" (by decide +kernel)) hr1 (pa_cons (pv 0) pa_nil)) (pa_cons (pe_exc (F.err "BadSay" (by decide +kernel)) (F.gl "BadSay" (by decide +kernel)) hr1 (pa_cons (pv 0) pa_nil)) pa_nil))))))) pa_nil)))
    (pss_cons (ps_expr (pe_bm PySem.F.plainAttrs_list PySem.F.slot_list_extend PySem.F.type_list_extend mt_extend (pv 1) (pa_cons (pe_lst (pa_cons (pe_exc (F.err "BadStanding" (by decide +kernel)) (F.gl "BadStanding" (by decide +kernel)) hr1 (pa_cons (pv 0) pa_nil)) (pa_cons (pe_exc (F.err "BadTerm" (by decide +kernel)) (F.gl "BadTerm" (by decide +kernel)) hr1 (pa_cons (pv 0) pa_nil)) (pa_cons (pe_exc (F.err "BadWish" (by decide +kernel)) (F.gl "BadWish" (by decide +kernel)) hr1 (pa_cons (pv 0) pa_nil)) (pa_cons (pe_exc (F.err "BadWishes" (by decide +kernel)) (F.gl "BadWishes" (by decide +kernel)) hr1 (pa_cons (pv 0) pa_nil)) (pa_cons (pe_exc (F.err "Contrary" (by decide +kernel)) (F.gl "Contrary" (by decide +kernel)) hr1 (pa_cons (pv 0) pa_nil)) (pa_cons (pe_exc (F.err "Full" (by decide +kernel)) (F.gl "Full" (by decide +kernel)) hr1 (pa_cons (pv 0) pa_nil)) pa_nil))))))) pa_nil)))
    (pss_cons (ps_expr (pe_bm PySem.F.plainAttrs_list PySem.F.slot_list_extend PySem.F.type_list_extend mt_extend (pv 1) (pa_cons (pe_lst (pa_cons (pe_exc (F.err "NoAxis" (by decide +kernel)) (F.gl "NoAxis" (by decide +kernel)) hr1 (pa_cons (pv 0) pa_nil)) (pa_cons (pe_exc (F.err "NoGrid" (by decide +kernel)) (F.gl "NoGrid" (by decide +kernel)) hr1 (pa_cons (pv 0) pa_nil)) (pa_cons (pe_exc (F.err "NoPoint" (by decide +kernel)) (F.gl "NoPoint" (by decide +kernel)) hr1 (pa_cons (pv 0) pa_nil)) (pa_cons (pe_exc (F.err "NoRule" (by decide +kernel)) (F.gl "NoRule" (by decide +kernel)) hr1 (pa_cons (pv 0) pa_nil)) (pa_cons (pe_exc (F.err "NothingToRedo" (by decide +kernel)) (F.gl "NothingToRedo" (by decide +kernel)) hr1 (pa_cons (pv 0) pa_nil)) pa_nil)))))) pa_nil)))
    (pss_one (ps_ret (pe_op op_cat (pv 1) (pe_lst (pa_cons (pe_exc (F.err "NothingToUndo" (by decide +kernel)) (F.gl "NothingToUndo" (by decide +kernel)) hr1 (pa_cons (pv 0) pa_nil)) (pa_cons (pe_exc (F.err "NoTrial" (by decide +kernel)) (F.gl "NoTrial" (by decide +kernel)) hr1 (pa_cons (pv 0) pa_nil)) (pa_cons (pe_exc (F.err "Taken" (by decide +kernel)) (F.gl "Taken" (by decide +kernel)) hr1 (pa_cons (pv 0) pa_nil)) (pa_cons (pe_exc (F.err "TooMany" (by decide +kernel)) (F.gl "TooMany" (by decide +kernel)) hr1 (pa_cons (pv 0) pa_nil)) pa_nil))))))))))), ?_⟩
    refine rd_seq (rd_set (rd_lst ?_))
    refine read_errs' (cs := ["BadBay", "BadBook", "BadBounds", "BadDrawing", "BadHands", "BadJournal"]) rfl rfl fun H0 e0 k0 r0 => ⟨by rw [r0.len]; decide, fun p hp => ?_⟩
    have pn : H p = none := k0.free hp
    have A0 : Same H (upd H0 p (.lst e0)) := k0.trans (same_new hp)
    have P0 : upd H0 p (.lst e0) p = some (.lst e0) := upd_same
    have R0 : Errs K (upd H0 p (.lst e0)) x e0 ["BadBay", "BadBook", "BadBounds", "BadDrawing", "BadHands", "BadJournal"] := r0.keep (same_new hp)
    generalize hG0 : upd H0 p (.lst e0) = G0 at A0 P0 R0 ⊢
    dsimp only
    refine rd_seq (rd_drop (rd_bm ?_))
    refine ⟨_, rfl, .inl ⟨rfl, _, SqL.of P0⟩, ?_⟩
    refine rd_cons (rd_lst ?_)
    refine read_errs' (cs := ["BadName", "BadNumber", "BadOffers", "BadPlace", "BadPlan", "BadSay"]) rfl rfl fun H1 e1 k1 r1 => ⟨by rw [r1.len]; decide, fun q1 hq1 => ?_⟩
    have n1 : p ≠ q1 := ne_of_none (k1 _ _ P0) hq1
    refine ⟨p, q1, _, _, rfl, rfl, (upd_ne n1).trans (k1 _ _ P0), upd_same, by rw [R0.len, r1.len]; decide, ?_⟩
    have A1 := ((A0.trans k1).trans (same_new (o := .lst e1) hq1)).mut (o := .lst (e0 ++ e1)) pn
    have V1 : Same (upd H1 q1 (.lst e1)) (upd H1 q1 (.lst e1)) := Same.refl _
    have B1 := (Errs.app (R0.keep (k1.trans (same_new (o := .lst e1) hq1))) (r1.keep (same_new (o := .lst e1) hq1))).atList ((upd_ne n1).trans (k1 _ _ P0)) (.lst (e0 ++ e1))
    have P1 : upd (upd H1 q1 (.lst e1)) p (.lst (e0 ++ e1)) p = some (.lst (e0 ++ e1)) := upd_same
    have R1 := B1
    generalize hG1 : upd (upd H1 q1 (.lst e1)) p (.lst (e0 ++ e1)) = G1 at A1 P1 R1 B1 ⊢
    dsimp only
    refine rd_seq (rd_drop (rd_bm ?_))
    refine ⟨_, rfl, .inl ⟨rfl, _, SqL.of P1⟩, ?_⟩
    refine rd_cons (rd_lst ?_)
    refine read_errs' (cs := ["BadStanding", "BadTerm", "BadWish", "BadWishes", "Contrary", "Full"]) rfl rfl fun H2 e2 k2 r2 => ⟨by rw [r2.len]; decide, fun q2 hq2 => ?_⟩
    have n2 : p ≠ q2 := ne_of_none (k2 _ _ P1) hq2
    refine ⟨p, q2, _, _, rfl, rfl, (upd_ne n2).trans (k2 _ _ P1), upd_same, by rw [R1.len, r2.len]; decide, ?_⟩
    have A2 := ((A1.trans k2).trans (same_new (o := .lst e2) hq2)).mut (o := .lst ((e0 ++ e1) ++ e2)) pn
    have V2 : Same (upd H2 q2 (.lst e2)) (upd H2 q2 (.lst e2)) := Same.refl _
    have B2 := (Errs.app (R1.keep (k2.trans (same_new (o := .lst e2) hq2))) (r2.keep (same_new (o := .lst e2) hq2))).atList ((upd_ne n2).trans (k2 _ _ P1)) (.lst ((e0 ++ e1) ++ e2))
    have P2 : upd (upd H2 q2 (.lst e2)) p (.lst ((e0 ++ e1) ++ e2)) p = some (.lst ((e0 ++ e1) ++ e2)) := upd_same
    have R2 := B2
    generalize hG2 : upd (upd H2 q2 (.lst e2)) p (.lst ((e0 ++ e1) ++ e2)) = G2 at A2 P2 R2 B2 ⊢
    dsimp only
    refine rd_seq (rd_drop (rd_bm ?_))
    refine ⟨_, rfl, .inl ⟨rfl, _, SqL.of P2⟩, ?_⟩
    refine rd_cons (rd_lst ?_)
    refine read_errs' (cs := ["NoAxis", "NoGrid", "NoPoint", "NoRule", "NothingToRedo"]) rfl rfl fun H3 e3 k3 r3 => ⟨by rw [r3.len]; decide, fun q3 hq3 => ?_⟩
    have n3 : p ≠ q3 := ne_of_none (k3 _ _ P2) hq3
    refine ⟨p, q3, _, _, rfl, rfl, (upd_ne n3).trans (k3 _ _ P2), upd_same, by rw [R2.len, r3.len]; decide, ?_⟩
    have A3 := ((A2.trans k3).trans (same_new (o := .lst e3) hq3)).mut (o := .lst (((e0 ++ e1) ++ e2) ++ e3)) pn
    have V3 : Same (upd H3 q3 (.lst e3)) (upd H3 q3 (.lst e3)) := Same.refl _
    have B3 := (Errs.app (R2.keep (k3.trans (same_new (o := .lst e3) hq3))) (r3.keep (same_new (o := .lst e3) hq3))).atList ((upd_ne n3).trans (k3 _ _ P2)) (.lst (((e0 ++ e1) ++ e2) ++ e3))
    have P3 : upd (upd H3 q3 (.lst e3)) p (.lst (((e0 ++ e1) ++ e2) ++ e3)) p = some (.lst (((e0 ++ e1) ++ e2) ++ e3)) := upd_same
    have R3 := B3
    generalize hG3 : upd (upd H3 q3 (.lst e3)) p (.lst (((e0 ++ e1) ++ e2) ++ e3)) = G3 at A3 P3 R3 B3 ⊢
    dsimp only
    refine rd_ret (rd_op ?_)
    refine ⟨_, rfl, ?_⟩
    refine rd_lst ?_
    refine read_errs' (cs := ["NothingToUndo", "NoTrial", "Taken", "TooMany"]) rfl rfl fun H4 e4 k4 r4 => ⟨by rw [r4.len]; decide, fun q4 hq4 => ?_⟩
    refine ⟨p, q4, _, _, rfl, rfl, (same_new (o := .lst e4) hq4) _ _ (k4 _ _ P3), upd_same, by rw [R3.len, r4.len]; decide, fun z hz => ?_⟩
    have S1 := (A3.trans k4).trans (same_new (o := .lst e4) hq4)
    have S2 := same_new (o := .lst ((((e0 ++ e1) ++ e2) ++ e3) ++ e4)) hz
    exact k _ z _ (S1.trans S2) (S1.free hz) upd_same ((Errs.app (R3.keep (k4.trans (same_new (o := .lst e4) hq4))) (r4.keep (same_new (o := .lst e4) hq4))).keep S2)
theorem scMarks : FnScope ["error", "found"] ["error"] (defScope sMarks) := ⟨rfl, rfl, rfl, by decide +kernel, rfl, by decide +kernel, by decide +kernel⟩
theorem ok_marks {f : Addr} {fd : FuncData} (FM : FD K "_law_marks" sMarks f fd) (F : Fx K mg) : FnOk P w K mg bs CX0 1 f fd ["error"] (spMarks K) := by
  have sc := scMarks
  refine FM.ok scMarks (fun vs H Q E h => ?_) (fun cdv A outer s H vs Q E hr h => ?_)
  · obtain ⟨a, cls, b, rfl, _⟩ := h
    rfl
  · obtain ⟨a, cls, b, rfl, hh, hk, k⟩ := h
    refine ⟨_, pss_cons (ps_set (i := 1) sc.nd rfl (Or.inl rfl) (pe_lst (pa_cons (pe_callB call_isX (by rfl) F.isi boot_isinstance (pa_cons (pv 0) (pa_cons (pe_ref (F.gl "BadBay" (by decide +kernel))) pa_nil))) (pa_cons (pe_callB call_isX (by rfl) F.isi boot_isinstance (pa_cons (pv 0) (pa_cons (pe_ref (F.gl "BadBook" (by decide +kernel))) pa_nil))) (pa_cons (pe_callB call_isX (by rfl) F.isi boot_isinstance (pa_cons (pv 0) (pa_cons (pe_ref (F.gl "BadBounds" (by decide +kernel))) pa_nil))) pa_nil)))))
    (pss_cons (ps_expr (pe_bm PySem.F.plainAttrs_list PySem.F.slot_list_extend PySem.F.type_list_extend mt_extend (pv 1) (pa_cons (pe_lst (pa_cons (pe_callB call_isX (by rfl) F.isi boot_isinstance (pa_cons (pv 0) (pa_cons (pe_ref (F.gl "BadDrawing" (by decide +kernel))) pa_nil))) (pa_cons (pe_callB call_isX (by rfl) F.isi boot_isinstance (pa_cons (pv 0) (pa_cons (pe_ref (F.gl "BadHands" (by decide +kernel))) pa_nil))) (pa_cons (pe_callB call_isX (by rfl) F.isi boot_isinstance (pa_cons (pv 0) (pa_cons (pe_ref (F.gl "BadJournal" (by decide +kernel))) pa_nil))) pa_nil)))) pa_nil)))
    (pss_cons (ps_expr (pe_bm PySem.F.plainAttrs_list PySem.F.slot_list_extend PySem.F.type_list_extend mt_extend (pv 1) (pa_cons (pe_lst (pa_cons (pe_callB call_isX (by rfl) F.isi boot_isinstance (pa_cons (pv 0) (pa_cons (pe_ref (F.gl "BadName" (by decide +kernel))) pa_nil))) (pa_cons (pe_callB call_isX (by rfl) F.isi boot_isinstance (pa_cons (pv 0) (pa_cons (pe_ref (F.gl "BadNumber" (by decide +kernel))) pa_nil))) (pa_cons (pe_callB call_isX (by rfl) F.isi boot_isinstance (pa_cons (pv 0) (pa_cons (pe_ref (F.gl "BadOffers" (by decide +kernel))) pa_nil))) pa_nil)))) pa_nil)))
    (pss_cons (ps_expr (pe_bm PySem.F.plainAttrs_list PySem.F.slot_list_extend PySem.F.type_list_extend mt_extend (pv 1) (pa_cons (pe_lst (pa_cons (pe_callB call_isX (by rfl) F.isi boot_isinstance (pa_cons (pv 0) (pa_cons (pe_ref (F.gl "BadPlace" (by decide +kernel))) pa_nil))) (pa_cons (pe_callB call_isX (by rfl) F.isi boot_isinstance (pa_cons (pv 0) (pa_cons (pe_ref (F.gl "BadPlan" (by decide +kernel))) pa_nil))) (pa_cons (pe_callB call_isX (by rfl) F.isi boot_isinstance (pa_cons (pv 0) (pa_cons (pe_ref (F.gl "BadSay" (by decide +kernel))) pa_nil))) pa_nil)))) pa_nil)))
    (pss_cons (ps_expr (pe_bm PySem.F.plainAttrs_list PySem.F.slot_list_extend PySem.F.type_list_extend mt_extend (pv 1) (pa_cons (pe_lst (pa_cons (pe_callB call_isX (by rfl) F.isi boot_isinstance (pa_cons (pv 0) (pa_cons (pe_ref (F.gl "BadStanding" (by decide +kernel))) pa_nil))) (pa_cons (pe_callB call_isX (by rfl) F.isi boot_isinstance (pa_cons (pv 0) (pa_cons (pe_ref (F.gl "BadTerm" (by decide +kernel))) pa_nil))) (pa_cons (pe_callB call_isX (by rfl) F.isi boot_isinstance (pa_cons (pv 0) (pa_cons (pe_ref (F.gl "BadWish" (by decide +kernel))) pa_nil))) pa_nil)))) pa_nil)))
    (pss_cons (ps_expr (pe_bm PySem.F.plainAttrs_list PySem.F.slot_list_extend PySem.F.type_list_extend mt_extend (pv 1) (pa_cons (pe_lst (pa_cons (pe_callB call_isX (by rfl) F.isi boot_isinstance (pa_cons (pv 0) (pa_cons (pe_ref (F.gl "BadWishes" (by decide +kernel))) pa_nil))) (pa_cons (pe_callB call_isX (by rfl) F.isi boot_isinstance (pa_cons (pv 0) (pa_cons (pe_ref (F.gl "Contrary" (by decide +kernel))) pa_nil))) (pa_cons (pe_callB call_isX (by rfl) F.isi boot_isinstance (pa_cons (pv 0) (pa_cons (pe_ref (F.gl "Full" (by decide +kernel))) pa_nil))) pa_nil)))) pa_nil)))
    (pss_cons (ps_expr (pe_bm PySem.F.plainAttrs_list PySem.F.slot_list_extend PySem.F.type_list_extend mt_extend (pv 1) (pa_cons (pe_lst (pa_cons (pe_callB call_isX (by rfl) F.isi boot_isinstance (pa_cons (pv 0) (pa_cons (pe_ref (F.gl "NoAxis" (by decide +kernel))) pa_nil))) (pa_cons (pe_callB call_isX (by rfl) F.isi boot_isinstance (pa_cons (pv 0) (pa_cons (pe_ref (F.gl "NoGrid" (by decide +kernel))) pa_nil))) (pa_cons (pe_callB call_isX (by rfl) F.isi boot_isinstance (pa_cons (pv 0) (pa_cons (pe_ref (F.gl "NoPoint" (by decide +kernel))) pa_nil))) pa_nil)))) pa_nil)))
    (pss_cons (ps_expr (pe_bm PySem.F.plainAttrs_list PySem.F.slot_list_extend PySem.F.type_list_extend mt_extend (pv 1) (pa_cons (pe_lst (pa_cons (pe_callB call_isX (by rfl) F.isi boot_isinstance (pa_cons (pv 0) (pa_cons (pe_ref (F.gl "NoRule" (by decide +kernel))) pa_nil))) (pa_cons (pe_callB call_isX (by rfl) F.isi boot_isinstance (pa_cons (pv 0) (pa_cons (pe_ref (F.gl "NothingToRedo" (by decide +kernel))) pa_nil))) (pa_cons (pe_callB call_isX (by rfl) F.isi boot_isinstance (pa_cons (pv 0) (pa_cons (pe_ref (F.gl "NothingToUndo" (by decide +kernel))) pa_nil))) pa_nil)))) pa_nil)))
    (pss_one (ps_ret (pe_op op_cat (pv 1) (pe_lst (pa_cons (pe_callB call_isX (by rfl) F.isi boot_isinstance (pa_cons (pv 0) (pa_cons (pe_ref (F.gl "NoTrial" (by decide +kernel))) pa_nil))) (pa_cons (pe_callB call_isX (by rfl) F.isi boot_isinstance (pa_cons (pv 0) (pa_cons (pe_ref (F.gl "Taken" (by decide +kernel))) pa_nil))) (pa_cons (pe_callB call_isX (by rfl) F.isi boot_isinstance (pa_cons (pv 0) (pa_cons (pe_ref (F.gl "TooMany" (by decide +kernel))) pa_nil))) pa_nil)))))))))))))), ?_⟩
    have kk : ∀ cs : List Str, (∀ c ∈ cs, c ∈ kinds) → ∀ c ∈ cs, PySem.W.kitOne K cls (.ref (ga K c)) = some (b c) := fun cs hc c h => hk c (hc c h)
    refine rd_seq (rd_set (rd_lst ?_))
    refine read_marks' (cs := ["BadBay", "BadBook", "BadBounds"]) rfl b rfl hh (kk _ (by decide +kernel)) ⟨(by exact (by decide : 3 ≤ sizeLine)), fun p hp => ?_⟩
    have pn : H p = none := hp
    have A0 : Same H (upd H p (.lst (((["BadBay", "BadBook", "BadBounds"] : List Str).map (fun c => V.bl (b c)))))) := same_new hp
    have P0 : upd H p (.lst (((["BadBay", "BadBook", "BadBounds"] : List Str).map (fun c => V.bl (b c))))) p = some (.lst (((["BadBay", "BadBook", "BadBounds"] : List Str).map (fun c => V.bl (b c))))) := upd_same
    generalize hG0 : upd H p (.lst (((["BadBay", "BadBook", "BadBounds"] : List Str).map (fun c => V.bl (b c))))) = G0 at A0 P0 ⊢
    dsimp only
    refine rd_seq (rd_drop (rd_bm ?_))
    refine ⟨_, rfl, .inl ⟨rfl, _, SqL.of P0⟩, ?_⟩
    refine rd_cons (rd_lst ?_)
    refine read_marks' (cs := ["BadDrawing", "BadHands", "BadJournal"]) rfl b rfl (hh.keep A0) (kk _ (by decide +kernel)) ⟨(by exact (by decide : 3 ≤ sizeLine)), fun q1 hq1 => ?_⟩
    have n1 : p ≠ q1 := ne_of_none P0 hq1
    refine ⟨p, q1, _, _, rfl, rfl, (upd_ne n1).trans P0, upd_same, (by exact (by decide : 6 ≤ sizeLine)), ?_⟩
    have A1 := (A0.trans (same_new (o := .lst (((["BadDrawing", "BadHands", "BadJournal"] : List Str).map (fun c => V.bl (b c))))) hq1)).mut (o := .lst (((["BadBay", "BadBook", "BadBounds"] : List Str).map (fun c => V.bl (b c))) ++ ((["BadDrawing", "BadHands", "BadJournal"] : List Str).map (fun c => V.bl (b c))))) pn
    have P1 : upd (upd G0 q1 (.lst (((["BadDrawing", "BadHands", "BadJournal"] : List Str).map (fun c => V.bl (b c)))))) p (.lst (((["BadBay", "BadBook", "BadBounds"] : List Str).map (fun c => V.bl (b c))) ++ ((["BadDrawing", "BadHands", "BadJournal"] : List Str).map (fun c => V.bl (b c))))) p = some (.lst (((["BadBay", "BadBook", "BadBounds"] : List Str).map (fun c => V.bl (b c))) ++ ((["BadDrawing", "BadHands", "BadJournal"] : List Str).map (fun c => V.bl (b c))))) := upd_same
    generalize hG1 : upd (upd G0 q1 (.lst (((["BadDrawing", "BadHands", "BadJournal"] : List Str).map (fun c => V.bl (b c)))))) p (.lst (((["BadBay", "BadBook", "BadBounds"] : List Str).map (fun c => V.bl (b c))) ++ ((["BadDrawing", "BadHands", "BadJournal"] : List Str).map (fun c => V.bl (b c))))) = G1 at A1 P1 ⊢
    dsimp only
    refine rd_seq (rd_drop (rd_bm ?_))
    refine ⟨_, rfl, .inl ⟨rfl, _, SqL.of P1⟩, ?_⟩
    refine rd_cons (rd_lst ?_)
    refine read_marks' (cs := ["BadName", "BadNumber", "BadOffers"]) rfl b rfl (hh.keep A1) (kk _ (by decide +kernel)) ⟨(by exact (by decide : 3 ≤ sizeLine)), fun q2 hq2 => ?_⟩
    have n2 : p ≠ q2 := ne_of_none P1 hq2
    refine ⟨p, q2, _, _, rfl, rfl, (upd_ne n2).trans P1, upd_same, (by exact (by decide : 9 ≤ sizeLine)), ?_⟩
    have A2 := (A1.trans (same_new (o := .lst (((["BadName", "BadNumber", "BadOffers"] : List Str).map (fun c => V.bl (b c))))) hq2)).mut (o := .lst ((((["BadBay", "BadBook", "BadBounds"] : List Str).map (fun c => V.bl (b c))) ++ ((["BadDrawing", "BadHands", "BadJournal"] : List Str).map (fun c => V.bl (b c)))) ++ ((["BadName", "BadNumber", "BadOffers"] : List Str).map (fun c => V.bl (b c))))) pn
    have P2 : upd (upd G1 q2 (.lst (((["BadName", "BadNumber", "BadOffers"] : List Str).map (fun c => V.bl (b c)))))) p (.lst ((((["BadBay", "BadBook", "BadBounds"] : List Str).map (fun c => V.bl (b c))) ++ ((["BadDrawing", "BadHands", "BadJournal"] : List Str).map (fun c => V.bl (b c)))) ++ ((["BadName", "BadNumber", "BadOffers"] : List Str).map (fun c => V.bl (b c))))) p = some (.lst ((((["BadBay", "BadBook", "BadBounds"] : List Str).map (fun c => V.bl (b c))) ++ ((["BadDrawing", "BadHands", "BadJournal"] : List Str).map (fun c => V.bl (b c)))) ++ ((["BadName", "BadNumber", "BadOffers"] : List Str).map (fun c => V.bl (b c))))) := upd_same
    generalize hG2 : upd (upd G1 q2 (.lst (((["BadName", "BadNumber", "BadOffers"] : List Str).map (fun c => V.bl (b c)))))) p (.lst ((((["BadBay", "BadBook", "BadBounds"] : List Str).map (fun c => V.bl (b c))) ++ ((["BadDrawing", "BadHands", "BadJournal"] : List Str).map (fun c => V.bl (b c)))) ++ ((["BadName", "BadNumber", "BadOffers"] : List Str).map (fun c => V.bl (b c))))) = G2 at A2 P2 ⊢
    dsimp only
    refine rd_seq (rd_drop (rd_bm ?_))
    refine ⟨_, rfl, .inl ⟨rfl, _, SqL.of P2⟩, ?_⟩
    refine rd_cons (rd_lst ?_)
    refine read_marks' (cs := ["BadPlace", "BadPlan", "BadSay"]) rfl b rfl (hh.keep A2) (kk _ (by decide +kernel)) ⟨(by exact (by decide : 3 ≤ sizeLine)), fun q3 hq3 => ?_⟩
    have n3 : p ≠ q3 := ne_of_none P2 hq3
    refine ⟨p, q3, _, _, rfl, rfl, (upd_ne n3).trans P2, upd_same, (by exact (by decide : 12 ≤ sizeLine)), ?_⟩
    have A3 := (A2.trans (same_new (o := .lst (((["BadPlace", "BadPlan", "BadSay"] : List Str).map (fun c => V.bl (b c))))) hq3)).mut (o := .lst (((((["BadBay", "BadBook", "BadBounds"] : List Str).map (fun c => V.bl (b c))) ++ ((["BadDrawing", "BadHands", "BadJournal"] : List Str).map (fun c => V.bl (b c)))) ++ ((["BadName", "BadNumber", "BadOffers"] : List Str).map (fun c => V.bl (b c)))) ++ ((["BadPlace", "BadPlan", "BadSay"] : List Str).map (fun c => V.bl (b c))))) pn
    have P3 : upd (upd G2 q3 (.lst (((["BadPlace", "BadPlan", "BadSay"] : List Str).map (fun c => V.bl (b c)))))) p (.lst (((((["BadBay", "BadBook", "BadBounds"] : List Str).map (fun c => V.bl (b c))) ++ ((["BadDrawing", "BadHands", "BadJournal"] : List Str).map (fun c => V.bl (b c)))) ++ ((["BadName", "BadNumber", "BadOffers"] : List Str).map (fun c => V.bl (b c)))) ++ ((["BadPlace", "BadPlan", "BadSay"] : List Str).map (fun c => V.bl (b c))))) p = some (.lst (((((["BadBay", "BadBook", "BadBounds"] : List Str).map (fun c => V.bl (b c))) ++ ((["BadDrawing", "BadHands", "BadJournal"] : List Str).map (fun c => V.bl (b c)))) ++ ((["BadName", "BadNumber", "BadOffers"] : List Str).map (fun c => V.bl (b c)))) ++ ((["BadPlace", "BadPlan", "BadSay"] : List Str).map (fun c => V.bl (b c))))) := upd_same
    generalize hG3 : upd (upd G2 q3 (.lst (((["BadPlace", "BadPlan", "BadSay"] : List Str).map (fun c => V.bl (b c)))))) p (.lst (((((["BadBay", "BadBook", "BadBounds"] : List Str).map (fun c => V.bl (b c))) ++ ((["BadDrawing", "BadHands", "BadJournal"] : List Str).map (fun c => V.bl (b c)))) ++ ((["BadName", "BadNumber", "BadOffers"] : List Str).map (fun c => V.bl (b c)))) ++ ((["BadPlace", "BadPlan", "BadSay"] : List Str).map (fun c => V.bl (b c))))) = G3 at A3 P3 ⊢
    dsimp only
    refine rd_seq (rd_drop (rd_bm ?_))
    refine ⟨_, rfl, .inl ⟨rfl, _, SqL.of P3⟩, ?_⟩
    refine rd_cons (rd_lst ?_)
    refine read_marks' (cs := ["BadStanding", "BadTerm", "BadWish"]) rfl b rfl (hh.keep A3) (kk _ (by decide +kernel)) ⟨(by exact (by decide : 3 ≤ sizeLine)), fun q4 hq4 => ?_⟩
    have n4 : p ≠ q4 := ne_of_none P3 hq4
    refine ⟨p, q4, _, _, rfl, rfl, (upd_ne n4).trans P3, upd_same, (by exact (by decide : 15 ≤ sizeLine)), ?_⟩
    have A4 := (A3.trans (same_new (o := .lst (((["BadStanding", "BadTerm", "BadWish"] : List Str).map (fun c => V.bl (b c))))) hq4)).mut (o := .lst ((((((["BadBay", "BadBook", "BadBounds"] : List Str).map (fun c => V.bl (b c))) ++ ((["BadDrawing", "BadHands", "BadJournal"] : List Str).map (fun c => V.bl (b c)))) ++ ((["BadName", "BadNumber", "BadOffers"] : List Str).map (fun c => V.bl (b c)))) ++ ((["BadPlace", "BadPlan", "BadSay"] : List Str).map (fun c => V.bl (b c)))) ++ ((["BadStanding", "BadTerm", "BadWish"] : List Str).map (fun c => V.bl (b c))))) pn
    have P4 : upd (upd G3 q4 (.lst (((["BadStanding", "BadTerm", "BadWish"] : List Str).map (fun c => V.bl (b c)))))) p (.lst ((((((["BadBay", "BadBook", "BadBounds"] : List Str).map (fun c => V.bl (b c))) ++ ((["BadDrawing", "BadHands", "BadJournal"] : List Str).map (fun c => V.bl (b c)))) ++ ((["BadName", "BadNumber", "BadOffers"] : List Str).map (fun c => V.bl (b c)))) ++ ((["BadPlace", "BadPlan", "BadSay"] : List Str).map (fun c => V.bl (b c)))) ++ ((["BadStanding", "BadTerm", "BadWish"] : List Str).map (fun c => V.bl (b c))))) p = some (.lst ((((((["BadBay", "BadBook", "BadBounds"] : List Str).map (fun c => V.bl (b c))) ++ ((["BadDrawing", "BadHands", "BadJournal"] : List Str).map (fun c => V.bl (b c)))) ++ ((["BadName", "BadNumber", "BadOffers"] : List Str).map (fun c => V.bl (b c)))) ++ ((["BadPlace", "BadPlan", "BadSay"] : List Str).map (fun c => V.bl (b c)))) ++ ((["BadStanding", "BadTerm", "BadWish"] : List Str).map (fun c => V.bl (b c))))) := upd_same
    generalize hG4 : upd (upd G3 q4 (.lst (((["BadStanding", "BadTerm", "BadWish"] : List Str).map (fun c => V.bl (b c)))))) p (.lst ((((((["BadBay", "BadBook", "BadBounds"] : List Str).map (fun c => V.bl (b c))) ++ ((["BadDrawing", "BadHands", "BadJournal"] : List Str).map (fun c => V.bl (b c)))) ++ ((["BadName", "BadNumber", "BadOffers"] : List Str).map (fun c => V.bl (b c)))) ++ ((["BadPlace", "BadPlan", "BadSay"] : List Str).map (fun c => V.bl (b c)))) ++ ((["BadStanding", "BadTerm", "BadWish"] : List Str).map (fun c => V.bl (b c))))) = G4 at A4 P4 ⊢
    dsimp only
    refine rd_seq (rd_drop (rd_bm ?_))
    refine ⟨_, rfl, .inl ⟨rfl, _, SqL.of P4⟩, ?_⟩
    refine rd_cons (rd_lst ?_)
    refine read_marks' (cs := ["BadWishes", "Contrary", "Full"]) rfl b rfl (hh.keep A4) (kk _ (by decide +kernel)) ⟨(by exact (by decide : 3 ≤ sizeLine)), fun q5 hq5 => ?_⟩
    have n5 : p ≠ q5 := ne_of_none P4 hq5
    refine ⟨p, q5, _, _, rfl, rfl, (upd_ne n5).trans P4, upd_same, (by exact (by decide : 18 ≤ sizeLine)), ?_⟩
    have A5 := (A4.trans (same_new (o := .lst (((["BadWishes", "Contrary", "Full"] : List Str).map (fun c => V.bl (b c))))) hq5)).mut (o := .lst (((((((["BadBay", "BadBook", "BadBounds"] : List Str).map (fun c => V.bl (b c))) ++ ((["BadDrawing", "BadHands", "BadJournal"] : List Str).map (fun c => V.bl (b c)))) ++ ((["BadName", "BadNumber", "BadOffers"] : List Str).map (fun c => V.bl (b c)))) ++ ((["BadPlace", "BadPlan", "BadSay"] : List Str).map (fun c => V.bl (b c)))) ++ ((["BadStanding", "BadTerm", "BadWish"] : List Str).map (fun c => V.bl (b c)))) ++ ((["BadWishes", "Contrary", "Full"] : List Str).map (fun c => V.bl (b c))))) pn
    have P5 : upd (upd G4 q5 (.lst (((["BadWishes", "Contrary", "Full"] : List Str).map (fun c => V.bl (b c)))))) p (.lst (((((((["BadBay", "BadBook", "BadBounds"] : List Str).map (fun c => V.bl (b c))) ++ ((["BadDrawing", "BadHands", "BadJournal"] : List Str).map (fun c => V.bl (b c)))) ++ ((["BadName", "BadNumber", "BadOffers"] : List Str).map (fun c => V.bl (b c)))) ++ ((["BadPlace", "BadPlan", "BadSay"] : List Str).map (fun c => V.bl (b c)))) ++ ((["BadStanding", "BadTerm", "BadWish"] : List Str).map (fun c => V.bl (b c)))) ++ ((["BadWishes", "Contrary", "Full"] : List Str).map (fun c => V.bl (b c))))) p = some (.lst (((((((["BadBay", "BadBook", "BadBounds"] : List Str).map (fun c => V.bl (b c))) ++ ((["BadDrawing", "BadHands", "BadJournal"] : List Str).map (fun c => V.bl (b c)))) ++ ((["BadName", "BadNumber", "BadOffers"] : List Str).map (fun c => V.bl (b c)))) ++ ((["BadPlace", "BadPlan", "BadSay"] : List Str).map (fun c => V.bl (b c)))) ++ ((["BadStanding", "BadTerm", "BadWish"] : List Str).map (fun c => V.bl (b c)))) ++ ((["BadWishes", "Contrary", "Full"] : List Str).map (fun c => V.bl (b c))))) := upd_same
    generalize hG5 : upd (upd G4 q5 (.lst (((["BadWishes", "Contrary", "Full"] : List Str).map (fun c => V.bl (b c)))))) p (.lst (((((((["BadBay", "BadBook", "BadBounds"] : List Str).map (fun c => V.bl (b c))) ++ ((["BadDrawing", "BadHands", "BadJournal"] : List Str).map (fun c => V.bl (b c)))) ++ ((["BadName", "BadNumber", "BadOffers"] : List Str).map (fun c => V.bl (b c)))) ++ ((["BadPlace", "BadPlan", "BadSay"] : List Str).map (fun c => V.bl (b c)))) ++ ((["BadStanding", "BadTerm", "BadWish"] : List Str).map (fun c => V.bl (b c)))) ++ ((["BadWishes", "Contrary", "Full"] : List Str).map (fun c => V.bl (b c))))) = G5 at A5 P5 ⊢
    dsimp only
    refine rd_seq (rd_drop (rd_bm ?_))
    refine ⟨_, rfl, .inl ⟨rfl, _, SqL.of P5⟩, ?_⟩
    refine rd_cons (rd_lst ?_)
    refine read_marks' (cs := ["NoAxis", "NoGrid", "NoPoint"]) rfl b rfl (hh.keep A5) (kk _ (by decide +kernel)) ⟨(by exact (by decide : 3 ≤ sizeLine)), fun q6 hq6 => ?_⟩
    have n6 : p ≠ q6 := ne_of_none P5 hq6
    refine ⟨p, q6, _, _, rfl, rfl, (upd_ne n6).trans P5, upd_same, (by exact (by decide : 21 ≤ sizeLine)), ?_⟩
    have A6 := (A5.trans (same_new (o := .lst (((["NoAxis", "NoGrid", "NoPoint"] : List Str).map (fun c => V.bl (b c))))) hq6)).mut (o := .lst ((((((((["BadBay", "BadBook", "BadBounds"] : List Str).map (fun c => V.bl (b c))) ++ ((["BadDrawing", "BadHands", "BadJournal"] : List Str).map (fun c => V.bl (b c)))) ++ ((["BadName", "BadNumber", "BadOffers"] : List Str).map (fun c => V.bl (b c)))) ++ ((["BadPlace", "BadPlan", "BadSay"] : List Str).map (fun c => V.bl (b c)))) ++ ((["BadStanding", "BadTerm", "BadWish"] : List Str).map (fun c => V.bl (b c)))) ++ ((["BadWishes", "Contrary", "Full"] : List Str).map (fun c => V.bl (b c)))) ++ ((["NoAxis", "NoGrid", "NoPoint"] : List Str).map (fun c => V.bl (b c))))) pn
    have P6 : upd (upd G5 q6 (.lst (((["NoAxis", "NoGrid", "NoPoint"] : List Str).map (fun c => V.bl (b c)))))) p (.lst ((((((((["BadBay", "BadBook", "BadBounds"] : List Str).map (fun c => V.bl (b c))) ++ ((["BadDrawing", "BadHands", "BadJournal"] : List Str).map (fun c => V.bl (b c)))) ++ ((["BadName", "BadNumber", "BadOffers"] : List Str).map (fun c => V.bl (b c)))) ++ ((["BadPlace", "BadPlan", "BadSay"] : List Str).map (fun c => V.bl (b c)))) ++ ((["BadStanding", "BadTerm", "BadWish"] : List Str).map (fun c => V.bl (b c)))) ++ ((["BadWishes", "Contrary", "Full"] : List Str).map (fun c => V.bl (b c)))) ++ ((["NoAxis", "NoGrid", "NoPoint"] : List Str).map (fun c => V.bl (b c))))) p = some (.lst ((((((((["BadBay", "BadBook", "BadBounds"] : List Str).map (fun c => V.bl (b c))) ++ ((["BadDrawing", "BadHands", "BadJournal"] : List Str).map (fun c => V.bl (b c)))) ++ ((["BadName", "BadNumber", "BadOffers"] : List Str).map (fun c => V.bl (b c)))) ++ ((["BadPlace", "BadPlan", "BadSay"] : List Str).map (fun c => V.bl (b c)))) ++ ((["BadStanding", "BadTerm", "BadWish"] : List Str).map (fun c => V.bl (b c)))) ++ ((["BadWishes", "Contrary", "Full"] : List Str).map (fun c => V.bl (b c)))) ++ ((["NoAxis", "NoGrid", "NoPoint"] : List Str).map (fun c => V.bl (b c))))) := upd_same
    generalize hG6 : upd (upd G5 q6 (.lst (((["NoAxis", "NoGrid", "NoPoint"] : List Str).map (fun c => V.bl (b c)))))) p (.lst ((((((((["BadBay", "BadBook", "BadBounds"] : List Str).map (fun c => V.bl (b c))) ++ ((["BadDrawing", "BadHands", "BadJournal"] : List Str).map (fun c => V.bl (b c)))) ++ ((["BadName", "BadNumber", "BadOffers"] : List Str).map (fun c => V.bl (b c)))) ++ ((["BadPlace", "BadPlan", "BadSay"] : List Str).map (fun c => V.bl (b c)))) ++ ((["BadStanding", "BadTerm", "BadWish"] : List Str).map (fun c => V.bl (b c)))) ++ ((["BadWishes", "Contrary", "Full"] : List Str).map (fun c => V.bl (b c)))) ++ ((["NoAxis", "NoGrid", "NoPoint"] : List Str).map (fun c => V.bl (b c))))) = G6 at A6 P6 ⊢
    dsimp only
    refine rd_seq (rd_drop (rd_bm ?_))
    refine ⟨_, rfl, .inl ⟨rfl, _, SqL.of P6⟩, ?_⟩
    refine rd_cons (rd_lst ?_)
    refine read_marks' (cs := ["NoRule", "NothingToRedo", "NothingToUndo"]) rfl b rfl (hh.keep A6) (kk _ (by decide +kernel)) ⟨(by exact (by decide : 3 ≤ sizeLine)), fun q7 hq7 => ?_⟩
    have n7 : p ≠ q7 := ne_of_none P6 hq7
    refine ⟨p, q7, _, _, rfl, rfl, (upd_ne n7).trans P6, upd_same, (by exact (by decide : 24 ≤ sizeLine)), ?_⟩
    have A7 := (A6.trans (same_new (o := .lst (((["NoRule", "NothingToRedo", "NothingToUndo"] : List Str).map (fun c => V.bl (b c))))) hq7)).mut (o := .lst (((((((((["BadBay", "BadBook", "BadBounds"] : List Str).map (fun c => V.bl (b c))) ++ ((["BadDrawing", "BadHands", "BadJournal"] : List Str).map (fun c => V.bl (b c)))) ++ ((["BadName", "BadNumber", "BadOffers"] : List Str).map (fun c => V.bl (b c)))) ++ ((["BadPlace", "BadPlan", "BadSay"] : List Str).map (fun c => V.bl (b c)))) ++ ((["BadStanding", "BadTerm", "BadWish"] : List Str).map (fun c => V.bl (b c)))) ++ ((["BadWishes", "Contrary", "Full"] : List Str).map (fun c => V.bl (b c)))) ++ ((["NoAxis", "NoGrid", "NoPoint"] : List Str).map (fun c => V.bl (b c)))) ++ ((["NoRule", "NothingToRedo", "NothingToUndo"] : List Str).map (fun c => V.bl (b c))))) pn
    have P7 : upd (upd G6 q7 (.lst (((["NoRule", "NothingToRedo", "NothingToUndo"] : List Str).map (fun c => V.bl (b c)))))) p (.lst (((((((((["BadBay", "BadBook", "BadBounds"] : List Str).map (fun c => V.bl (b c))) ++ ((["BadDrawing", "BadHands", "BadJournal"] : List Str).map (fun c => V.bl (b c)))) ++ ((["BadName", "BadNumber", "BadOffers"] : List Str).map (fun c => V.bl (b c)))) ++ ((["BadPlace", "BadPlan", "BadSay"] : List Str).map (fun c => V.bl (b c)))) ++ ((["BadStanding", "BadTerm", "BadWish"] : List Str).map (fun c => V.bl (b c)))) ++ ((["BadWishes", "Contrary", "Full"] : List Str).map (fun c => V.bl (b c)))) ++ ((["NoAxis", "NoGrid", "NoPoint"] : List Str).map (fun c => V.bl (b c)))) ++ ((["NoRule", "NothingToRedo", "NothingToUndo"] : List Str).map (fun c => V.bl (b c))))) p = some (.lst (((((((((["BadBay", "BadBook", "BadBounds"] : List Str).map (fun c => V.bl (b c))) ++ ((["BadDrawing", "BadHands", "BadJournal"] : List Str).map (fun c => V.bl (b c)))) ++ ((["BadName", "BadNumber", "BadOffers"] : List Str).map (fun c => V.bl (b c)))) ++ ((["BadPlace", "BadPlan", "BadSay"] : List Str).map (fun c => V.bl (b c)))) ++ ((["BadStanding", "BadTerm", "BadWish"] : List Str).map (fun c => V.bl (b c)))) ++ ((["BadWishes", "Contrary", "Full"] : List Str).map (fun c => V.bl (b c)))) ++ ((["NoAxis", "NoGrid", "NoPoint"] : List Str).map (fun c => V.bl (b c)))) ++ ((["NoRule", "NothingToRedo", "NothingToUndo"] : List Str).map (fun c => V.bl (b c))))) := upd_same
    generalize hG7 : upd (upd G6 q7 (.lst (((["NoRule", "NothingToRedo", "NothingToUndo"] : List Str).map (fun c => V.bl (b c)))))) p (.lst (((((((((["BadBay", "BadBook", "BadBounds"] : List Str).map (fun c => V.bl (b c))) ++ ((["BadDrawing", "BadHands", "BadJournal"] : List Str).map (fun c => V.bl (b c)))) ++ ((["BadName", "BadNumber", "BadOffers"] : List Str).map (fun c => V.bl (b c)))) ++ ((["BadPlace", "BadPlan", "BadSay"] : List Str).map (fun c => V.bl (b c)))) ++ ((["BadStanding", "BadTerm", "BadWish"] : List Str).map (fun c => V.bl (b c)))) ++ ((["BadWishes", "Contrary", "Full"] : List Str).map (fun c => V.bl (b c)))) ++ ((["NoAxis", "NoGrid", "NoPoint"] : List Str).map (fun c => V.bl (b c)))) ++ ((["NoRule", "NothingToRedo", "NothingToUndo"] : List Str).map (fun c => V.bl (b c))))) = G7 at A7 P7 ⊢
    dsimp only
    refine rd_ret (rd_op ?_)
    refine ⟨_, rfl, ?_⟩
    refine rd_lst ?_
    refine read_marks' (cs := ["NoTrial", "Taken", "TooMany"]) rfl b rfl (hh.keep A7) (kk _ (by decide +kernel)) ⟨(by exact (by decide : 3 ≤ sizeLine)), fun q8 hq8 => ?_⟩
    refine ⟨p, q8, _, _, rfl, rfl, (same_new (o := .lst (((["NoTrial", "Taken", "TooMany"] : List Str).map (fun c => V.bl (b c))))) hq8) _ _ P7, upd_same, (by exact (by decide : 27 ≤ sizeLine)), fun z hz => ?_⟩
    have S1 := A7.trans (same_new (o := .lst (((["NoTrial", "Taken", "TooMany"] : List Str).map (fun c => V.bl (b c))))) hq8)
    exact k _ z (S1.trans (same_new hz)) (S1.free hz) upd_same
end
end L2.K00

set_option Elab.async false
set_option linter.all false
set_option maxRecDepth 100000
set_option maxHeartbeats 4000000
namespace L2.K00
open PySem PySem.Spec PyProof.Rows L2.Vx
open PySem.W (Frag)
open He (ga ma)
theorem _root_.L2.Same.tup {K : Frag} {H H' : Hp} {a : Addr} {xs : List V} (e : Same H H') (h : SqT K H a xs) : SqT K H' a xs := by
  rcases h with (h | ⟨o, h⟩) | h
  · exact .inl (.inl (e _ _ h))
  · exact .inl (.inr ⟨o, e _ _ h⟩)
  · exact .inr h
mutual
theorem Dd_keep {K : Frag} {H H' : Hp} (k : Same H H') : ∀ {x : V} {d : PyData}, Dd K H x d → Dd K H' x d
  | _, _, .non => .non
  | _, _, .bl b => .bl b
  | _, _, .int i => .int i
  | _, _, .str x => .str x
  | _, _, .lst h t => .lst (k.seq h) (DdAll_keep k t)
  | _, _, .tup h t => .tup (k.tup h) (DdAll_keep k t)
  | _, _, .dct h t => .dct (k _ _ h) (DdAll_keep k t)
theorem DdAll_keep {K : Frag} {H H' : Hp} (k : Same H H') : ∀ {xs : List V} {ds : List PyData}, DdAll K H xs ds → DdAll K H' xs ds
  | _, _, .nil => .nil
  | _, _, .cons h t => .cons (Dd_keep k h) (DdAll_keep k t)
end
theorem dp_bools {K : Frag} {H : Hp} : ∀ bs : List Bool, DpAll K H (bs.map V.bl) (bs.map PyData.bool)
  | [] => .nil
  | b :: bs => .cons (.bl b) (dp_bools bs)
/-- the marks of the n-th error, and what they are held against -/
def Bm (n : Nat) : List Bool := kinds.map fun c => decide (kinds[n]? = some c)
def Bc (n : Nat) : List Bool := (List.range 27).map fun i : Nat => decide (V.int ((0 : Int) + ((i : Nat) : Int)) = V.int ((n : Nat) : Int))
theorem tab : ∀ n : Fin 27, Bm n.1 = Bc n.1 ∧ SeqAt.shaped (.list ((Bm n.1).map PyData.bool)) = true := by decide +kernel
theorem marks_tab {n : Nat} (hn : n < 27) : Bm n = Bc n ∧ SeqAt.shaped (.list ((Bm n).map PyData.bool)) = true := tab ⟨n, hn⟩

def spKept (K : Frag) : Sp := fun vs H Q _ => ∃ x d, vs = [x] ∧ Dd K H x d ∧ shOk d = true ∧ d.depth ≤ 60 ∧ d.shown.length ≤ sizeLine ∧ ∀ H', Same H H' → Q (.bl true) H'
section
variable {P : Program} {w : World} {K : Frag} {mg : Str → Option Value} {bs : Heap}
theorem scKept : FnScope ["value", "number", "error", "base", "at"] ["value"] (defScope sKept) := ⟨rfl, rfl, rfl, by decide +kernel, rfl, by decide +kernel, by decide +kernel⟩
theorem ok_kept {f fM fR : Addr} {fd fdM fdR : FuncData} (FK : FD K "_law_is_kept" sKept f fd) (F : Fx K mg)
    (FM : FD K "_law_made" sMade fM fdM) (gM : mg "_law_made" = some (.ref fM)) (bM : Binds K fdM ["value"] [])
    (FR : FD K "_law_marks" sMarks fR fdR) (gR : mg "_law_marks" = some (.ref fR)) (bR : Binds K fdR ["error"] []) : FnG P w K mg bs CX0 5 f fd ["value"] (spKept K) := by
  have sc := scKept
  have GM : FnOk P w K mg bs CX0 3 fM fdM ["value"] (spMade K) := ok_made FM F
  have GR : FnOk P w K mg bs CX0 1 fR fdR ["error"] (spMarks K) := ok_marks FR F
  refine okG0 FK scKept (fun vs H Q E h => ?_) (fun cdv A outer s H vs Q E gd hr h => ?_)
  · obtain ⟨x, d, rfl, _⟩ := h
    rfl
  · obtain ⟨x, d, rfl, hd, hs, hdep, hz, k⟩ := h
    have hr3 : Room 3 _ := hr.mono (by decide)
    have hr1 : Room 1 _ := hr.mono (by decide)
    refine ⟨_, pss_cons (ps_for PassesOwn.never rfl (pi_enum (by rfl) F.enu (pa_cons (pe_call GM hr3 (by rfl) gM FM.kp bM .nil pass0 (pa_cons (pv 0) pa_nil)) pa_nil))
          (pg_tup (by rfl) (pgs_cons (pg_name (i := 1) sc.nd rfl (Or.inr rfl)) (pgs_cons (pg_name (i := 2) sc.nd rfl (Or.inl rfl)) pgs_nil)))
          (pss_cons (ps_if (PW.pt (pw_or (pt_cmpR (op_neD hr.units) (pe_call GR hr1 (by rfl) gR FR.kp bR .nil pass0 (pa_cons (pv 2) pa_nil))
              (pe_lc (own := [("at", 4)]) (g := gName 4) (by rfl) sc.nd (pi_range1 (by rfl) F.rng (pa_cons pe_int pa_nil)) (blkOk_by (N := ["value", "number", "error", "base", "at"]) (sc := defScope sKept) (by decide +kernel))
                (fun _ _ _ _ _ => pg_name (i := 4) sc.nd rfl (Or.inl rfl)) (fun _ _ _ _ _ => pts_nil) (fun _ _ _ _ _ => pe_cmpR op_eq (pv 4) (pv 1) (nomark _))) (nomark _))
              (pw_or1 (pt_cmpR op_ne (pe_callB (call_repr gd hr.units) (by rfl) F.rep boot_repr (pa_cons (pe_val (pv 2)) pa_nil)) (pe_callB (call_repr gd hr.units) (by rfl) F.rep boot_repr (pa_cons (pv 0) pa_nil)) (nomark _)))))
            (pss_one (ps_ret pe_bl)) pss_nil)
          (pss_one (ps_if (PW.pt (pw_or (pt_not (pt_val (pe_callB call_isX (by rfl) F.isi boot_isinstance (pa_cons (pv 2) (pa_cons (pe_ref (F.gl "DrawError" (by decide +kernel))) pa_nil)))))
              (pw_or1 (pt_not (pt_val (pe_callB call_isX (by rfl) F.isi boot_isinstance (pa_cons (pv 2) (pa_cons (pe_bltn (v := .ty "ValueError") (by rfl) F.ve boot_ValueError rfl) pa_nil))))))))
            (pss_one (ps_ret pe_bl)) pss_nil))))
      (pss_cons (ps_set (i := 3) sc.nd rfl (Or.inl rfl) (pe_exc (F.err "DrawError" (by decide +kernel)) (F.gl "DrawError" (by decide +kernel)) hr1 (pa_cons (pv 0) pa_nil)))
      (pss_cons (ps_if (PW.pt (pw_or (pt_cmpR op_ne (pe_callB (call_repr gd hr.units) (by rfl) F.rep boot_repr (pa_cons (pe_val (pv 3)) pa_nil)) (pe_callB (call_repr gd hr.units) (by rfl) F.rep boot_repr (pa_cons (pv 0) pa_nil)) (nomark _))
            (pw_or (pt_cmpR op_in_seq pe_bl (pe_call GR hr1 (by rfl) gR FR.kp bR .nil pass0 (pa_cons (pv 3) pa_nil)) (by rfl))
            (pw_or1 (pt_not (pt_val (pe_callB call_isX (by rfl) F.isi boot_isinstance (pa_cons (pv 3) (pa_cons (pe_bltn (v := .ty "ValueError") (by rfl) F.ve boot_ValueError rfl) pa_nil)))))))))
          (pss_one (ps_ret pe_bl)) pss_nil)
      (pss_one (ps_ret (pe_cmpR op_notIn_seq pe_bl (pe_call GR hr1 (by rfl) gR FR.kp bR .nil pass0 (pa_cons (pe_mk (pmk_exb exb_ValueError (by rfl) F.ve boot_ValueError (pa_cons (pv 0) pa_nil))) pa_nil)) (by rfl)))))), ?_⟩
    refine rd_seq ?_
    -- the errors are made
    refine ⟨x, rfl, x, rfl, fun G p es A0 pn P0 R0 => ⟨p, es, rfl, SqL.of P0, ?_⟩⟩
    have hdG : Dd K G x d := Dd_keep A0 hd
    refine for_it walk_enum (fun i σ H' => ∃ n e : Option V, σ = [some x, n, e, none, none] ∧ Same G H') ⟨none, none, rfl, Same.refl G⟩ (fun i σ H' _ ⟨_, _, _, s1⟩ => s1.seq (SqL.of P0)) ?_ ?_
    · rintro i v σ H1 H2 hi ⟨n, e, rfl, s1⟩ ⟨T, y, z, rfl, hT, rfl, ey, ez⟩
      obtain rfl : V.int ((i : Nat) : Int) = y := Option.some.inj ey
      obtain ⟨a, c, rfl, hc, hA⟩ := R0.get ez
      have hi27 : i < 27 := by rw [R0.len] at hi; exact hi
      have s2 : Same G (upd H1 T (.tup [V.int ((i : Nat) : Int), .ref a])) := s1.trans (same_new hT)
      refine ⟨T, _, rfl, SqT.of upd_same, rfl, _, _, rfl, _, _, rfl, rfl, ?_⟩
      generalize upd H1 T (.tup [V.int ((i : Nat) : Int), .ref a]) = H3 at s2 ⊢
      have ck : c ∈ kinds := List.mem_of_getElem? hc
      have ckb : c ∈ base :: kinds := List.mem_cons_of_mem _ ck
      have hA3 := hA.keep s2
      have hH : Held K H3 a (.ref (ga K c)) := by
        obtain ⟨dd, h1, h2⟩ := hA3
        exact .inl ⟨ga K c, dd, fI K, x, rfl, h1, h2, F.err c ckb⟩
      refine rd_seq (rd_if ?_)
      -- the marks
      refine ⟨_, rfl, a, _, fun k => decide (kinds[i]? = some k), rfl, hH, fun k hk => ?_, fun H4 m s3 _ m4 => ?_⟩
      · show _ = some (decide (kinds[i]? = some k))
        rw [F.kit c ck k hk, hc]
        exact congrArg some (decide_eq_decide.mpr ⟨fun q => congrArg some q, fun q => Option.some.inj q⟩)
      refine ⟨27, rfl, (by decide), (by decide), fun D hD => lc_it walk_range (fun j H' => Same H4 H' ∧ H' D = some (.lst ((List.range j).map fun q : Nat => V.bl (decide (V.int ((0 : Int) + (q : Int)) = V.int ((i : Nat) : Int)))))) ⟨same_new hD, by rw [upd_same]; rfl⟩ (fun _ _ _ _ => trivial) ?_ ?_⟩
      · rintro j v H5 H6 hj ⟨s5, d5⟩ ⟨rfl, rfl⟩
        refine ⟨rfl, rd_yes rfl ?_⟩
        refine ⟨_, rfl, _, rfl, rfl, _, d5, ?_, s5.mut hD, ?_⟩
        · rw [List.length_map, List.length_range]
          exact Nat.lt_of_lt_of_le hj (by decide)
        · rw [upd_same, List.range_succ, List.map_append]
          rfl
      · rintro H5 ⟨s5, d5⟩
        have m5 := s5 _ _ m4
        obtain ⟨t1, t2⟩ := marks_tab hi27
        have eM : (kinds.map fun k => V.bl (decide (kinds[i]? = some k))) = (Bm i).map V.bl := by
          unfold Bm
          rw [List.map_map]
          rfl
        have eC : ((List.range 27).map fun q : Nat => V.bl (decide (V.int ((0 : Int) + (q : Int)) = V.int ((i : Nat) : Int)))) = (Bm i).map V.bl := by
          rw [t1]
          unfold Bc
          rw [List.map_map]
          rfl
        rw [eM] at m5
        have d5' : H5 D = some (.lst ((Bm i).map V.bl)) := by
          rw [← eC]
          exact d5
        refine ⟨.list ((Bm i).map PyData.bool), .list ((Bm i).map PyData.bool), .lst (SqL.of m5) (dp_bools _), .lst (SqL.of d5') (dp_bools _), t2, t2, _, rfl, ?_⟩
        rw [SeqAt.eqv_refl _ (SeqAt.canLay_of_shaped t2)]
        have s6 : Same G H5 := (s2.trans s3).trans s5
        have hA5 := hA.keep s6
        have hd5 : Dd K H5 x d := Dd_keep s6 hdG
        obtain ⟨dd, e1, e2⟩ := hA5
        have hH5 : Held K H5 a (.ref (ga K c)) := .inl ⟨ga K c, dd, fI K, x, rfl, e1, e2, F.err c ckb⟩
        refine iteF ?_
        refine ⟨_, rfl, a, ga K c, dd, fI K, x, rfl, e1, F.err c ckb, e2, x, d, rfl, hd5, hs, hdep, hz, ?_⟩
        refine ⟨_, rfl, x, d, rfl, hd5, hs, hdep, hz, rfl, _, rfl, ?_⟩
        rw [decide_eq_true (rfl : V.str d.shown = V.str d.shown)]
        refine iteF ?_
        refine ⟨_, rfl, a, .ref (ga K c), .ref (ga K base), .ref (ga K base), true, rfl, hH5, fun u r => r, F.kitD c ck, _, rfl, ?_⟩
        refine iteF ?_
        refine ⟨_, rfl, a, .ref (ga K c), .ty "ValueError", .type "ValueError", true, rfl, hH5, fun u r => r, F.kitE c ckb, _, rfl, ?_⟩
        refine iteF ?_
        exact ⟨_, _, rfl, s6⟩
    · rintro σ H1 ⟨n, e, rfl, s1⟩
      have bm : base ∈ base :: kinds := List.mem_cons_self
      refine rd_seq ?_
      refine ⟨x, rfl, x, rfl, fun dd hdd a ha => ?_⟩
      have s2 : Same H1 (upd (upd H1 dd (xv x)) a (EX a (.ref (ga K base)) (some dd))) := (same_new hdd).trans (same_new ha)
      have e1 : upd (upd H1 dd (xv x)) a (EX a (.ref (ga K base)) (some dd)) a = some (EX a (.ref (ga K base)) (some dd)) := upd_same
      have e2 : upd (upd H1 dd (xv x)) a (EX a (.ref (ga K base)) (some dd)) dd = some (xv x) := same_new ha _ _ upd_same
      show tSeq _ _ _ ([some x, n, e, none, none].set 3 (some (.ref a))) (upd (upd H1 dd (xv x)) a (EX a (.ref (ga K base)) (some dd)))
      generalize upd (upd H1 dd (xv x)) a (EX a (.ref (ga K base)) (some dd)) = H2 at s2 e1 e2 ⊢
      have hd2 : Dd K H2 x d := Dd_keep (s1.trans s2) hdG
      refine rd_seq ?_
      refine ⟨_, rfl, a, ga K base, dd, fI K, x, rfl, e1, F.err _ bm, e2, x, d, rfl, hd2, hs, hdep, hz, ?_⟩
      refine ⟨_, rfl, x, d, rfl, hd2, hs, hdep, hz, rfl, _, rfl, ?_⟩
      rw [decide_eq_true (rfl : V.str d.shown = V.str d.shown)]
      refine iteF ?_
      have hH2 : Held K H2 a (.ref (ga K base)) := .inl ⟨ga K base, dd, fI K, x, rfl, e1, e2, F.err _ bm⟩
      refine ⟨_, rfl, a, _, fun _ => false, rfl, hH2, F.kitB, fun H3 m s3 _ m3 => ?_⟩
      refine ⟨m, _, rfl, .inl (SqL.of m3), rfl, rfl, false, rfl, iteF ?_⟩
      refine ⟨_, rfl, a, .ref (ga K base), .ty "ValueError", .type "ValueError", true, rfl, hH2.keep s3, fun u r => r, F.kitE _ bm, _, rfl, ?_⟩
      refine iteF ?_
      refine ⟨_, rfl, (by exact (by decide : 1 ≤ sizeLine)), fun z hz => ?_⟩
      have s4 : Same H3 (upd H3 z (EX z (.type "ValueError") none)) := same_new hz
      refine ⟨z, .type "ValueError", fun _ => false, rfl, .inr ⟨rfl, upd_same⟩, F.kitV, fun H5 q s5 _ q5 => ?_⟩
      refine ⟨q, _, rfl, .inl (SqL.of q5), rfl, rfl, ?_⟩
      exact k _ ((((A0.trans s1).trans s2).trans s3).trans (s4.trans s5))
end
end L2.K00

set_option Elab.async false
set_option linter.all false
set_option maxRecDepth 100000
set_option maxHeartbeats 4000000
namespace L2.K00
open PySem PySem.Spec PyProof.Rows L2.Vx
open PySem.W (Frag)
open He (ga ma)
/-! ### the ten values -/
structure Good (d : PyData) : Prop where
  s : shOk d = true
  dep : d.depth ≤ 60
  lf : d.leavesShort 13 = true
  wt : d.weight ≤ 1000
theorem Good.fits {d : PyData} (g : Good d) : d.shown.length ≤ sizeLine :=
  PyData.shown_fits (B := 13) (by decide) (by decide) g.lf (Nat.le_trans g.wt (by decide))
theorem log_small {i : Int} (h : i.natAbs < 10 ^ 9) : i.natAbs.log2 ≤ 29 := by
  by_cases q : i.natAbs = 0
  · rw [q]; decide
  · have : i.natAbs.log2 < 30 := (Nat.log2_lt q).mpr (Nat.lt_of_lt_of_le h (by decide))
    omega
section
variable {c : Int} (h : c.natAbs < 10 ^ 9)
include h
theorem sh_int : decide (c.natAbs.log2 < 1920) = true := by
  have := log_small h
  exact decide_eq_true (by omega)
theorem lf_int : decide ((PyData.int c).shown.length ≤ 13) = true := decide_eq_true (PyData.shown_int_le (Nat.lt_trans h (by decide)))
theorem wt_int : (if c == 0 then 0 else c.natAbs.log2 + 1) ≤ 30 := by
  have := log_small h
  split <;> omega
theorem good_int : Good (.int c) where
  s := by simp [shOk, PyData.showable, PyData.hasDict, sh_int h, of_decide_eq_true (sh_int h)]
  dep := by simp [PyData.depth]
  lf := lf_int h
  wt := Nat.le_trans (wt_int h) (by decide)
theorem neg_small : (-c).natAbs < 10 ^ 9 := by rw [Int.natAbs_neg]; exact h
theorem text_size : ("text " ++ Str.ofString (toString c) : Str).cps.size ≤ 20 := by
  have e : ((PyData.int c).shown).length ≤ 13 := PyData.shown_int_le (Nat.lt_trans h (by decide))
  have e2 : (Str.ofString (toString c)).length ≤ 13 := by simpa [PyData.shown] using e
  have e3 := congrArg List.length (cps_toList_append "text " (Str.ofString (toString c)))
  rw [List.length_append, Array.length_toList, Array.length_toList, Array.length_toList] at e3
  have e4 : ("text " : Str).cps.size = 5 := by decide
  have e5 : (Str.ofString (toString c)).cps.size ≤ 13 := e2
  omega
omit h in
theorem text_signs : (("text " ++ Str.ofString (toString c) : Str).cps.toList.all fun k => decide (k < 16 ^ 8)) = true := by
  rw [cps_toList_append, List.all_append, Bool.and_eq_true_iff]
  refine ⟨by decide, List.all_eq_true.mpr fun k hk => decide_eq_true ?_⟩
  rw [signs_ofString] at hk
  obtain ⟨ch, _, rfl⟩ := List.mem_map.mp hk
  exact Nat.lt_of_lt_of_le ch.val.toNat_lt (by decide)
/-- the data of the ten values -/
def vals (c : Int) : List PyData := [.none, .int c, .int (-c), .bool true, .str ("text " ++ Str.ofString (toString c)), .tuple [.int c, .str "a"], .list [.int c],
  .dict [(.str "a", .int c)], .tuple [], .tuple [.tuple [.int c, .none], .list []]]
theorem good_vals : ∀ d ∈ vals c, Good d := by
  have a1 := of_decide_eq_true (sh_int h)
  have a2 : (PyData.int c).shown.length ≤ 13 := of_decide_eq_true (lf_int h)
  have a3 := wt_int h
  have sa : (("a" : Str).cps.toList.all fun k => decide (k < 16 ^ 8)) = true := by decide
  have wa : ("a" : Str).cps.size = 1 := by decide
  intro d hd
  simp only [vals, List.mem_cons, List.not_mem_nil, or_false] at hd
  rcases hd with rfl | rfl | rfl | rfl | rfl | rfl | rfl | rfl | rfl | rfl
  · exact ⟨rfl, by decide, rfl, by decide⟩
  · exact good_int h
  · exact good_int (neg_small h)
  · exact ⟨rfl, by decide, rfl, by decide⟩
  · exact ⟨rfl, by simp [PyData.depth], text_signs, Nat.le_trans (text_size h) (by decide)⟩
  · refine ⟨by simp [shOk, PyData.showable, PyData.showableAll, PyData.hasDict, PyData.hasDictAll, a1], by simp [PyData.depth, PyData.depthAll], by simp [PyData.leavesShort, PyData.leavesShortAll, a2, sa], ?_⟩
    simp only [PyData.weight, PyData.weightAll, wa]
    omega
  · refine ⟨by simp [shOk, PyData.showable, PyData.showableAll, PyData.hasDict, PyData.hasDictAll, a1], by simp [PyData.depth, PyData.depthAll], by simp [PyData.leavesShort, PyData.leavesShortAll, a2], ?_⟩
    simp only [PyData.weight, PyData.weightAll]
    omega
  · refine ⟨by simp [shOk, PyData.showable, PyData.showableKv, PyData.hasDict, noL, noLk, a1], by simp [PyData.depth, PyData.depthKv], by simp [PyData.leavesShort, PyData.leavesShortKv, a2, sa], ?_⟩
    simp only [PyData.weight, PyData.weightKv, wa]
    omega
  · exact ⟨rfl, by decide, rfl, by decide⟩
  · refine ⟨by simp [shOk, PyData.showable, PyData.showableAll, PyData.hasDict, PyData.hasDictAll, a1], by simp [PyData.depth, PyData.depthAll], by simp [PyData.leavesShort, PyData.leavesShortAll, a2], ?_⟩
    simp only [PyData.weight, PyData.weightAll]
    omega
end
end L2.K00

set_option Elab.async false
set_option linter.all false
set_option maxRecDepth 100000
set_option maxHeartbeats 4000000
namespace L2.K00
open PySem PySem.Spec PyProof.Rows L2.Vx
open PySem.W (Frag)
open He (ga ma)
def spLaw (K : Frag) : Sp := fun vs H Q _ => ∃ (a : Addr) (ns : List Int), vs = [.ref a] ∧ SqL K H a (ns.map V.int) ∧ ns.length ≤ 63 ∧ ∀ H', Q (.bl true) H'
theorem dp_ints {K : Frag} {H : Hp} : ∀ ns : List Int, DpAll K H (ns.map V.int) (ns.map PyData.int)
  | [] => .nil
  | n :: ns => .cons (.int n) (dp_ints ns)
theorem depth_ints : ∀ ns : List Int, PyData.depthAll (ns.map PyData.int) = 0
  | [] => rfl
  | n :: ns => by simp [PyData.depthAll, PyData.depth, depth_ints ns]
theorem shaped_ints (ns : List Int) : SeqAt.shaped (.list (ns.map PyData.int)) = true := by
  refine Bool.and_eq_true_iff.mpr ⟨canLayAll_ints ns, decide_eq_true ?_⟩
  simp [PyData.depth, depth_ints ns]
theorem ddAll_get {K : Frag} {H : Hp} : ∀ {xs : List V} {ds : List PyData} {i : Nat} {v : V}, DdAll K H xs ds → xs[i]? = some v → ∃ d, d ∈ ds ∧ Dd K H v d
  | _, _, _, _, .nil, e => by simp at e
  | _, _, 0, _, .cons h _, e => by
    simp at e
    subst e
    exact ⟨_, List.mem_cons_self, h⟩
  | _, _, i + 1, _, .cons _ t, e => by
    obtain ⟨d, h1, h2⟩ := ddAll_get (i := i) t (by simpa using e)
    exact ⟨d, List.mem_cons_of_mem _ h1, h2⟩
/-- the cell -/
def cellOf (ns : List Int) : Int := (match ns with | [] => 0 | n :: _ => n) % 10 ^ 9
theorem cell_small (ns : List Int) : (cellOf ns).natAbs < 10 ^ 9 := by
  unfold cellOf
  have h1 := Int.emod_nonneg (match ns with | [] => 0 | n :: _ => n) (by decide : (10 : Int) ^ 9 ≠ 0)
  have h2 := Int.emod_lt_of_pos (match ns with | [] => 0 | n :: _ => n) (by decide : (0 : Int) < (10 : Int) ^ 9)
  omega
section
variable {P : Program} {w : World} {K : Frag} {mg : Str → Option Value} {bs : Heap}
theorem scLaw : FnScope ["script", "cell", "some", "value"] ["script"] (defScope sLaw) := ⟨rfl, rfl, rfl, by decide +kernel, rfl, by decide +kernel, by decide +kernel⟩
theorem ok_law {f fK fM fR : Addr} {fd fdK fdM fdR : FuncData} (FL : FD K "law" sLaw f fd) (F : Fx K mg)
    (FK : FD K "_law_is_kept" sKept fK fdK) (gK : mg "_law_is_kept" = some (.ref fK)) (bK : Binds K fdK ["value"] [])
    (FM : FD K "_law_made" sMade fM fdM) (gM : mg "_law_made" = some (.ref fM)) (bM : Binds K fdM ["value"] [])
    (FR : FD K "_law_marks" sMarks fR fdR) (gR : mg "_law_marks" = some (.ref fR)) (bR : Binds K fdR ["error"] []) : FnG P w K mg bs CX0 6 f fd ["script"] (spLaw K) := by
  have sc := scLaw
  have GK : FnG P w K mg bs CX0 5 fK fdK ["value"] (spKept K) := ok_kept FK F FM gM bM FR gR bR
  refine okG0 FL scLaw (fun vs H Q E h => ?_) (fun cdv A outer s H vs Q E gd hr h => ?_)
  · obtain ⟨a, ns, rfl, _⟩ := h
    rfl
  · obtain ⟨a, ns, rfl, hS, hlen, k⟩ := h
    have hu := hu_of hr
    refine ⟨_, pss_cons (ps_set (i := 1) sc.nd rfl (Or.inl rfl) (pe_op op_mod (pe_callTy call_int1 (by rfl) F.int boot_int (pa_cons (pe_ifExp (pt_cmpR (op_neD hr.units) (pv 0) (pe_lst pa_nil) (nomark _)) (pe_ix ix_list (pv 0) pe_int (fun _ _ => rfl)) pe_int) pa_nil)) (pe_op op_pow pe_int pe_int)))
      (pss_cons (ps_set (i := 2) sc.nd rfl (Or.inl rfl) (pe_lst (pa_cons pe_non (pa_cons (pv 1) (pa_cons (pe_un un_neg (pv 1)) (pa_cons pe_bl
          (pa_cons (pe_op op_add_str pe_str (pe_callTy call_str_int (by rfl) F.str boot_str (pa_cons (pv 1) pa_nil)))
          (pa_cons (pe_tup (pa_cons (pv 1) (pa_cons pe_str pa_nil))) (pa_cons (pe_lst (pa_cons (pv 1) pa_nil))
          (pa_cons (pe_disp (pps_cons pe_str (pv 1) pps_nil) (by rfl) (by rfl) (fun z => by cases z) (by decide))
          (pa_cons (pe_tup pa_nil) (pa_cons (pe_tup (pa_cons (pe_tup (pa_cons (pv 1) (pa_cons pe_non pa_nil))) (pa_cons (pe_lst pa_nil) pa_nil))) pa_nil))))))))))))
      (pss_one (ps_ret (pe_callB (cr_all rfl) (by rfl) F.all boot_all (pa_cons
          (pe_lc (own := [("value", 3)]) (g := gName 3) (by rfl) sc.nd (pi_list (pv 2)) (blkOk_by (N := ["script", "cell", "some", "value"]) (sc := defScope sLaw) (by decide +kernel))
            (fun _ _ _ _ _ => pg_name (i := 3) sc.nd rfl (Or.inl rfl)) (fun _ _ _ _ _ => pts_nil)
            (fun _ _ _ _ _ => pe_callG GK gd hr (by rfl) gK FK.kp bK .nil pass0 (pa_cons (pv 3) pa_nil))) pa_nil))))), ?_⟩
    refine rd_seq (rd_set ?_)
    -- script != []
    refine ⟨_, rfl, Nat.zero_le _, fun p hp => ?_⟩
    have s1 : Same H (upd H p (.lst [])) := same_new hp
    refine ⟨.list (ns.map PyData.int), .list [], .lst (s1.seq hS) (dp_ints ns), .lst (SqL.of upd_same) .nil, shaped_ints ns, rfl, _, rfl, ?_⟩
    have hsm : (cellOf ns).natAbs < 10 ^ 9 := cell_small ns
    generalize upd H p (.lst []) = G0 at s1 ⊢
    cases ns
    case' nil =>
      refine iteF ?_
      refine .inl ⟨_, rfl, _, _, rfl, rfl, ⟨by decide, by decide, by decide⟩, _, _, rfl, rfl, (by exact (by decide : (0 : Int) < 10 ^ Int.toNat 9)), ?_⟩
      have hsm : ((0 : Int) % 10 ^ Int.toNat 9).natAbs < 10 ^ 9 := hsm
      dsimp only
      generalize (0 : Int) % 10 ^ Int.toNat 9 = c at hsm ⊢
      clear hlen hS
      revert c
    case' cons n r =>
      refine iteT ?_
      refine ⟨_, rfl, a, _, ((0 : Nat) : Int), .int n, rfl, rfl, s1.seq hS, atI_nat rfl, ?_⟩
      refine .inl ⟨_, rfl, _, _, rfl, rfl, ⟨by decide, by decide, by decide⟩, _, _, rfl, rfl, (by exact (by decide : (0 : Int) < 10 ^ Int.toNat 9)), ?_⟩
      have hsm : (n % 10 ^ Int.toNat 9).natAbs < 10 ^ 9 := hsm
      dsimp only
      generalize n % 10 ^ Int.toNat 9 = c at hsm ⊢
      clear hlen hS
      revert c
    all_goals
      intro c hsm
      have hlog : c.natAbs.log2 < 1920 := by
        have := log_small hsm
        omega
      have htl : ("text " : Str).length + (Str.ofString (toString c)).length ≤ sizeLine := by
        have e := text_size hsm
        have e3 := congrArg List.length (cps_toList_append "text " (Str.ofString (toString c)))
        rw [List.length_append, Array.length_toList, Array.length_toList, Array.length_toList] at e3
        show ("text " : Str).cps.size + (Str.ofString (toString c)).cps.size ≤ sizeLine
        rw [← e3]
        exact Nat.le_trans e (by decide)
      refine rd_seq (rd_set (rd_lst ?_))
      refine ⟨_, rfl, _, rfl, _, rfl, _, rfl, _, rfl, hlog, _, _, rfl, rfl, htl, ?_⟩
      refine ⟨_, rfl, (by exact (by decide : 2 ≤ sizeLine)), fun t1 h1 => ?_⟩
      have u1 := same_new (o := .tup [V.int c, V.str "a"]) h1
      have f1 : upd G0 t1 (.tup [V.int c, V.str "a"]) t1 = some (.tup [V.int c, V.str "a"]) := upd_same
      generalize upd G0 t1 (.tup [V.int c, V.str "a"]) = G1 at u1 f1 ⊢
      refine ⟨_, rfl, (by exact (by decide : 1 ≤ sizeLine)), fun t2 h2 => ?_⟩
      have u2 := same_new (o := .lst [V.int c]) h2
      have f2 : upd G1 t2 (.lst [V.int c]) t2 = some (.lst [V.int c]) := upd_same
      generalize upd G1 t2 (.lst [V.int c]) = G2 at u2 f2 ⊢
      intro t3 h3
      refine ⟨_, rfl, upd_same, [(Sum.inr "a", V.int c)], rfl, (by exact (by decide : 1 ≤ 15)), ?_⟩
      have e3 : upd (upd G2 t3 (.dK [])) t3 (.dK (mergeK [] [((Sum.inr "a" : Key), V.int c)])) = upd G2 t3 (.dK [((Sum.inr "a" : Key), V.int c)]) := by
        rw [upd_upd]
        rfl
      rw [e3]
      have u3 := same_new (o := .dK [((Sum.inr "a" : Key), V.int c)]) h3
      have f3 : upd G2 t3 (.dK [((Sum.inr "a" : Key), V.int c)]) t3 = some (.dK [((Sum.inr "a" : Key), V.int c)]) := upd_same
      generalize upd G2 t3 (.dK [((Sum.inr "a" : Key), V.int c)]) = G3 at u3 f3 ⊢
      refine ⟨Nat.zero_le _, fun t4 h4 => ?_⟩
      have u4 := same_new (o := .tup []) h4
      have f4 : upd G3 t4 (.tup []) t4 = some (.tup []) := upd_same
      generalize upd G3 t4 (.tup []) = G4 at u4 f4 ⊢
      refine ⟨_, rfl, (by exact (by decide : 2 ≤ sizeLine)), fun t5 h5 => ?_⟩
      have u5 := same_new (o := .tup [V.int c, V.non]) h5
      have f5 : upd G4 t5 (.tup [V.int c, V.non]) t5 = some (.tup [V.int c, V.non]) := upd_same
      generalize upd G4 t5 (.tup [V.int c, V.non]) = G5 at u5 f5 ⊢
      refine ⟨Nat.zero_le _, fun t6 h6 => ?_⟩
      have u6 := same_new (o := .lst []) h6
      have f6 : upd G5 t6 (.lst []) t6 = some (.lst []) := upd_same
      generalize upd G5 t6 (.lst []) = G6 at u6 f6 ⊢
      refine ⟨(by exact (by decide : 2 ≤ sizeLine)), fun t7 h7 => ?_⟩
      have u7 := same_new (o := .tup [V.ref t5, V.ref t6]) h7
      have f7 : upd G6 t7 (.tup [V.ref t5, V.ref t6]) t7 = some (.tup [V.ref t5, V.ref t6]) := upd_same
      generalize upd G6 t7 (.tup [V.ref t5, V.ref t6]) = G7 at u7 f7 ⊢
      refine ⟨(by exact (by decide : 10 ≤ sizeLine)), fun L hL => ?_⟩
      have u8 := same_new (o := .lst [V.non, V.int c, V.int (-c), V.bl true, V.str ("text " ++ Str.ofString (toString c)), V.ref t1, V.ref t2, V.ref t3, V.ref t4, V.ref t7]) hL
      have f8 : upd G7 L (.lst [V.non, V.int c, V.int (-c), V.bl true, V.str ("text " ++ Str.ofString (toString c)), V.ref t1, V.ref t2, V.ref t3, V.ref t4, V.ref t7]) L = some (.lst [V.non, V.int c, V.int (-c), V.bl true, V.str ("text " ++ Str.ofString (toString c)), V.ref t1, V.ref t2, V.ref t3, V.ref t4, V.ref t7]) := upd_same
      dsimp only
      generalize upd G7 L (.lst [V.non, V.int c, V.int (-c), V.bl true, V.str ("text " ++ Str.ofString (toString c)), V.ref t1, V.ref t2, V.ref t3, V.ref t4, V.ref t7]) = G8 at u8 f8 ⊢
      have v7 := u7.trans u8
      have v6 := u6.trans v7
      have v5 := u5.trans v6
      have v4 := u4.trans v5
      have v3 := u3.trans v4
      have v2 := u2.trans v3
      have all : DdAll K G8 [V.non, V.int c, V.int (-c), V.bl true, V.str ("text " ++ Str.ofString (toString c)), V.ref t1, V.ref t2, V.ref t3, V.ref t4, V.ref t7] (vals c) :=
        .cons .non (.cons (.int c) (.cons (.int (-c)) (.cons (.bl true) (.cons (.str _)
          (.cons (.tup (SqT.of (v2 _ _ f1)) (.cons (.int c) (.cons (.str _) .nil)))
          (.cons (.lst (SqL.of (v3 _ _ f2)) (.cons (.int c) .nil))
          (.cons (.dct (v4 _ _ f3) (.cons (.int c) .nil))
          (.cons (.tup (SqT.of (v5 _ _ f4)) .nil)
          (.cons (.tup (SqT.of (u8 _ _ f7)) (.cons (.tup (SqT.of (v6 _ _ f5)) (.cons (.int c) (.cons .non .nil))) (.cons (.lst (SqL.of (v7 _ _ f6)) .nil) .nil))) .nil)))))))))
      refine ⟨_, rfl, L, rfl, ⟨_, SqL.of f8⟩, fun D hD => lc_it walk_list (fun i H' => Same G8 H' ∧ H' D = some (.lst (List.replicate i (V.bl true)))) ⟨same_new hD, upd_same⟩ (fun _ _ _ q => q.1.seq (SqL.of f8)) ?_ ?_⟩
      · rintro i v H5 H6 hi ⟨s5, d5⟩ ⟨rfl, hx⟩
        obtain ⟨d, hd, hv⟩ := ddAll_get all hx
        have g := good_vals hsm d hd
        refine ⟨rfl, rd_yes rfl ?_⟩
        refine ⟨v, rfl, v, d, rfl, Dd_keep s5 hv, g.s, g.dep, g.fits, fun H7 s7 => ⟨_, s7 _ _ d5, ?_, (s5.trans s7).mut hD, ?_⟩⟩
        · rw [List.length_replicate]
          exact Nat.lt_of_lt_of_le hi (by exact (by decide : 10 ≤ sizeLine))
        · rw [upd_same, List.replicate_succ']
      · rintro H5 ⟨s5, d5⟩
        exact ⟨D, List.replicate 10 true, rfl, SqL.of d5, k _⟩
end
end L2.K00

set_option Elab.async false
set_option linter.all false
set_option maxRecDepth 100000
set_option maxHeartbeats 4000000
namespace L2.K00
open PySem PySem.Spec PyProof.Rows L2.Vx
open PySem.W (Frag)
open He (ga ma)
theorem walk_ofEG {l : PySem.W.OpenLaw} {n k : Nat} {q : Program} {loose : List Str} {XP : (Str → Option Value) → Heap → Prop} {YP : World → Heap → Prop} {d : DefRec} {CX : CXT} {x : Str}
    (hn : l.most = some n) (hn2 : n ≤ sizeLine) (hdf : d.params.defaults = []) (hr : Room k callerA)
    (F : ∀ (w : World) (mg : Str → Option Value) (fa : Addr) (h : Heap), YP w h → h.Ns mainGlobals mg → mg d.name = some (.ref fa) →
      ∃ (K : Frag) (fd : FuncData) (sp : Sp), K.In h ∧ (∀ (s : Shared) (u : Value), BindsTo s fd ⟨[u], []⟩ [(x, u)]) ∧
        (∀ (H : Hp) (a : Addr) (ns : List Int), ns.length ≤ n → Only H → SqL K H a (ns.map V.int) → sp [.ref a] H (fun v _ => v = .bl true) fun _ _ _ => False) ∧
        ∀ base : Heap, K.In base → base.Ns mainGlobals mg → FnG l.prog w K mg base CX k fa fd [x] sp)
    (hCX : ∀ (H : Hp) (s : Shared) (e : Value) (s' : Shared), CX [] H s (fun _ _ _ => False) e s' → False) :
    PySem.W.WalkO q loose XP YP l.row.toRowW d [] (fun f vs => PySem.call f vs) := by
  refine Att.attach_call hn hdf fun w s₀ s₁ mg mb fa o pm cd doc a vs ns G Y ho hd hcd hmg hobj hints hlen hg => ?_
  obtain ⟨K, fd, sp, KX, hb, hsp, hF⟩ := F w mg fa _ Y G.T.g hmg
  refine law_callG KX G.T.g G.T.b G.T.builtins G.T.nolimit hg hobj hints (Nat.le_trans hlen hn2) hr hF hb (fun H hO hS => ?_) fun H e s' => hCX H s₁ e s'
  exact hsp H a ns hlen hO hS
/-- a def's own words from the hook's -/
theorem fun_of {K : Frag} {x qual : Str} {st : Stmt} {f : Addr} {fd : FuncData} (h : FunD K x qual (defArgs st) (defBody st) (defScope st) [] [] f fd) : Fun K x qual st f fd := by
  obtain ⟨oc, od, dV, kV, doc, pm, an, cdv, ct, osl, e, lk, hc, hD, _⟩ := h.ex
  rcases hD with ⟨_, rfl⟩ | ⟨z, _⟩
  · exact ⟨⟨oc, od, kV, doc, pm, an, cdv, ct, osl, e, lk, hc⟩, h.kp⟩
  · exact absurd rfl z
theorem init_of {K : Frag} {fd : FuncData} (h : FunD K "__init__" "DrawError.__init__" (defArgs sInit) (defBody sInit) (defScope sInit) [] [] (fI K) fd) : InitF K (fI K) := by
  obtain ⟨oc, od, dV, kV, doc, pm, an, cdv, ct, osl, e, lk, hc, hD, hK⟩ := h.ex
  rcases hD with ⟨_, rfl⟩ | ⟨z, _⟩
  · exact ⟨oc, od, kV, doc, pm, an, cdv, ct, osl, _, _, _, _, _, _, by rw [lk, e]; rfl, hc⟩
  · exact absurd rfl z
theorem all_of {K : Frag} {p : Str → Bool} {l : List Str} (h : l.all p = true) : ∀ x ∈ l, p x = true := List.all_eq_true.mp h
theorem fx_of {K : Frag} {w : World} {h : Heap} {mg : Str → Option Value} (X : K.In h) (G : h.Ns mainGlobals mg) (c : He.SaysX fa fn [] [] exK w h K) (hI : InitF K (fI K)) : Fx K mg := by
  have fact : ∀ f ∈ fa, f.ok K = true := fun f hf => c.t.d.facts hf
  have ba := @Bool.and_eq_true_iff
  obtain ⟨m1, m⟩ := ba.mp c.more
  obtain ⟨m2, m⟩ := ba.mp m
  obtain ⟨m3, m⟩ := ba.mp m
  obtain ⟨m4, m⟩ := ba.mp m
  obtain ⟨m5, m6⟩ := ba.mp m
  exact {
    err := fun x hx => err_ok (List.all_eq_true.mp m1 x hx) hI
    gl := fun x hx => He.glo_ok X G (fact (.glo x) (List.mem_append_left _ (List.mem_map.mpr ⟨x, hx, rfl⟩)))
    kit := fun x hx y hy => of_decide_eq_true (List.all_eq_true.mp (List.all_eq_true.mp m2 x hx) y hy)
    kitB := fun y hy => of_decide_eq_true (List.all_eq_true.mp m3 y hy)
    kitV := fun y hy => of_decide_eq_true (List.all_eq_true.mp m4 y hy)
    kitE := fun x hx => of_decide_eq_true (List.all_eq_true.mp m5 x hx)
    kitD := fun x hx => of_decide_eq_true (List.all_eq_true.mp m6 x hx)
    isi := He.free_ok X G (fact (.free "isinstance") (List.mem_append_right _ (by simp)))
    enu := He.free_ok X G (fact (.free "enumerate") (List.mem_append_right _ (by simp)))
    rng := He.free_ok X G (fact (.free "range") (List.mem_append_right _ (by simp)))
    rep := He.free_ok X G (fact (.free "repr") (List.mem_append_right _ (by simp)))
    int := He.free_ok X G (fact (.free "int") (List.mem_append_right _ (by simp)))
    str := He.free_ok X G (fact (.free "str") (List.mem_append_right _ (by simp)))
    all := He.free_ok X G (fact (.free "all") (List.mem_append_right _ (by simp)))
    ve := He.free_ok X G (fact (.free "ValueError") (List.mem_append_right _ (by simp))) }
theorem facts {P : Program} {w : World} {K : Frag} {h : Heap} {mg : Str → Option Value} {f : Addr} (X : K.In h) (G : h.Ns mainGlobals mg) (hfa : mg ("law" : Str) = some (.ref f))
    (c : He.SaysX fa fn [] [] exK w h K) : ∃ fd : FuncData, (∀ (s : Shared) (v : Value), BindsTo s fd ⟨[v], []⟩ [("script", v)]) ∧
      ∀ base : Heap, K.In base → base.Ns mainGlobals mg → FnG P w K mg base CX0 6 f fd ["script"] (spLaw K) := by
  have fact : ∀ f ∈ fa, f.ok K = true := fun f hf => c.t.d.facts hf
  obtain ⟨fd0, F0⟩ := c.t.d.def_ 0 (d := dInit) rfl
  obtain ⟨fdM, FM⟩ := c.t.d.def_ 1 (d := dMade) rfl
  obtain ⟨fdR, FR⟩ := c.t.d.def_ 2 (d := dMarks) rfl
  obtain ⟨fdK, FK⟩ := c.t.d.def_ 3 (d := dKept) rfl
  obtain ⟨fd, FL⟩ := c.t.d.def_ 4 (d := dLaw) rfl
  have F := fx_of X G c (init_of F0)
  have gM := He.glo_ok X G (fact (.glo "_law_made") (List.mem_append_right _ (by simp)))
  have gR := He.glo_ok X G (fact (.glo "_law_marks") (List.mem_append_right _ (by simp)))
  have gK := He.glo_ok X G (fact (.glo "_law_is_kept") (List.mem_append_right _ (by simp)))
  have gL := He.glo_ok X G (fact (.glo "law") (List.mem_append_right _ (by simp)))
  have e := hfa.symm.trans gL
  cases e
  have b := FunD.bindsA (ps := ["script"]) FL fun _ _ _ _ _ _ us hl => match us, hl with | [_], _ => rfl
  have bM : Binds K fdM ["value"] [] := FM.bindsN fun _ _ _ _ _ _ us hl => match us, hl with | [_], _ => rfl
  have bR : Binds K fdR ["error"] [] := FR.bindsN fun _ _ _ _ _ _ us hl => match us, hl with | [_], _ => rfl
  have bK : Binds K fdK ["value"] [] := FK.bindsN fun _ _ _ _ _ _ us hl => match us, hl with | [_], _ => rfl
  exact ⟨fd, fun s v => b s [v] rfl, fun base _ _ => ok_law (fun_of FL) F (fun_of FK) gK bK (fun_of FM) gM bM (fun_of FR) gR bR⟩
end L2.K00
open PySem PySem.W PySem.Calls PyProof.Rows
theorem PySem.Challenge.cw_wobblesnap_k00_errors_and_what_they_keep_holds : PySem.Challenge.rw_wobblesnap_k00_errors_and_what_they_keep.Holds := by
  w_on; o_law
  refine HandSHeadRun.head_any (r := L2.K00.R) (q := view L2.K00.R.prog [33]) (H := L2.K00.hk) (ob := L2.K00.ob) (M := 8000) (loose := L2.K00.loose) (d := HandSHeadRun.topDef L2.K00.R.prog 33) (kwd := []) L2.K00.ob_eq
    (by kernel_rfl) (fun s => by kernel_rfl) L2.K00.run (by kernel_rfl) (by kernel_rfl) (by kernel_rfl) (by rfl) (by first | assumption | decide +kernel) (by decide +kernel) ⟨rfl, rfl, rfl, rfl, rfl, by decide +kernel⟩ ?hw ?hc
  case hw => w_witness2
  case hc =>
    refine L2.K00.walk_ofEG (l := PySem.Challenge.rw_wobblesnap_k00_errors_and_what_they_keep) (n := 63) (k := 6) (x := "script") (CX := L2.CX0) rfl (by decide) (by kernel_rfl) ⟨rfl, by decide, by decide⟩ ?F (fun _ _ _ _ z => z)
    intro w mg fa h Y G hmg0
    obtain ⟨K, KX, c⟩ := Y
    have hmg : mg ("law" : PySem.Str) = some (.ref fa) := by
      have e : (HandSHeadRun.topDef L2.K00.R.prog 33).name = ("law" : PySem.Str) := by kernel_rfl
      rw [← e]
      exact hmg0
    obtain ⟨fd, hb, hF⟩ := L2.K00.facts (P := (PySem.Challenge.rw_wobblesnap_k00_errors_and_what_they_keep).prog) (w := w) KX G hmg c
    exact ⟨K, fd, L2.K00.spLaw K, KX, hb, fun H a ns hl _ hS => ⟨a, ns, rfl, hS, hl, fun _ => rfl⟩, hF⟩
#print axioms PySem.Challenge.cw_wobblesnap_k00_errors_and_what_they_keep_holds

