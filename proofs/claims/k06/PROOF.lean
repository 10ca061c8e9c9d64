import PyProof.Rows.All
import Wide.All
import OpenK.AllK
import Wide.FinOn
import PyProof.EqAt
import PyProof.EqKinds
import PyProof.TupleCall
import PyProof.ReprReads
import KE.KExcIs
import HandS.ForMost
import HandS.Exc
import HandS.ExcOwn
import HandS.WordsExc
import HandS.IsInst
import HandS.ExcValue
import HandS.Defaults
import HandS.Head0
import HandS.Head1
import HandS.Head2
import HandS.HeadEnd
import HandS.HeadHook4
import HandS.Lambda
import HandS.Walk
import KE.GoesEnum
import HandS.Text
import KE.IntTextLaws
import KE.IntTextText
import HandS.Conv
import HandS.Wide
import PySem.Challenge.RW_wobblesnap_k06_whole_lines_of_no_book
import HandS.More
import HandS.Style
import HandS.Evl
import HandS.RaiseMore
import HandS.HeadWalk
import HandS.EndTab
set_option Elab.async false
set_option linter.all false
set_option maxRecDepth 100000
set_option maxHeartbeats 2000000
namespace PySem
namespace DrX
open PySem.W PySem.Calls PyProof.Rows PySem.HandSPX
/-! ### the text of __init__ -/
def iA (p1 p2 : Pos) : Arguments := { posonlyargs := [], args := [{ arg := "self", annotation := none, pos := p1 }, { arg := "value", annotation := none, pos := p2 }], vararg := none, kwonlyargs := [], kw_defaults := [], kwarg := none, defaults := [] }
def iB (q1 q2 q3 q4 : Pos) : List Stmt := [.Assign [.Attribute (.Name "self" q1) "value" q2] (.Name "value" q3) q4]
def iS : Scope := { kind := .function, names := [(PySem.Str.ofString "self", .local), (PySem.Str.ofString "value", .local)], isGenerator := false, isCoroutine := false, more := [] }
/-- what the written part says of Low, at C, and of its __init__, at fI -/
structure ErrT (K : Frag) (C fI : Addr) : Prop where
  cls : ∃ nm q N bs bm sn sub ab col dd k0 k1 k2 k3 k5, K.lookup C = some (excClassObj nm q C N bs bm true sn sub ab col dd k0 k1 k2 k3 k5 "ValueError.__new__") ∧ refsVE bm = true
  sa : findIn K (.ref C) "__setattr__" = some (some (.builtin "object.__setattr__"))
  ga : findIn K (.ref C) "__getattribute__" = some (some (.builtin "BaseException.__getattribute__"))
  gg : findIn K (.ref C) "__getattr__" = some none
  noN : findIn K (.ref C) "value" = some none
  iC : findIn K (.ref C) "__init__" = some (some (.ref fI))
  tC : typeIn K (.ref fI) = some (.type "function")
  kC : keepIn K (.ref C) = true
  exC : subIn K (.ref C) (.type "BaseException") = some true
  tyC : typeIn K (.ref C) = some (.type "type")
  hdC : hasDictIn K C = true
  cls' : (clsIn K C).isSome = true
  ha : findIn K (.ref C) "__class__" = some (some (.builtin "object.__class__"))
  hn : specialIn K (.builtin "object.__class__") "__get__" = some (some (.builtin "getset_descriptor.__get__"))
  ht : takesIn K (.builtin "object.__class__") = some true
  hm : mroIn K C (.type "object") = some true
  fn : ∃ (oc : Value) (od : Option Addr) (kV doc pm : Value) (an : Option Addr) (cdv ct : Value) (osl : Array (Option Value)) (p1 p2 q1 q2 q3 q4 : Pos),
    K.lookup fI = some ⟨oc, od, .func (fnOf "__init__" "DrawError.__init__" (iA p1 p2) (iB q1 q2 q3 q4) iS .none kV doc pm an cdv ct), osl⟩ ∧ codeIn K cdv "DrawError.__init__" = true
theorem one_size (v : Value) : [v].length ≤ sizeLine := by
  rw [sizeLine_eq]
  exact (by decide : 1 ≤ 16777216)
theorem kept_but {K : Frag} {h h' : Heap} {x : Addr} (X : K.In h) (hx : K.lookup x = none) (k : ∀ b o, b ≠ x → h.get? b = some o → h'.get? b = some o) : K.In h' := fun a o e =>
  k a o (fun z => by rw [z, hx] at e; cases e) (X a o e)
theorem ldC {M : Model} {s : Shared} {name : Str} {scope : Scope} {L a : Addr} {cd : Value} {m : Str → Option Value} {x : Str} {pos : Pos} {v : Value} {Q : Value → Shared → Prop} {A : Around} {E : Value → Shared → Prop} (hn : s.heap.Ns L m) (hv : m x = some v) (h : Q v s)
    (hk : scope.kind = .function := by rfl) (hl : (envOfC name scope L a cd).kindOf x = some .local := by rfl) (hd : (x == ("__debug__" : Str)) = false := by decide) :
    wpAny M A (eval (.Name x pos) (envOfC name scope L a cd)) Q E s := wpAny_Name (wpAny_loadName_local hk hl hn hv h) hd
/-- what __init__ leaves of a fresh exception at x -/
structure InitEnd (h h' : Heap) (x C dx t1 : Addr) (v : Value) : Prop where
  keep : ∀ b o, b ≠ x → h.get? b = some o → h'.get? b = some o
  obj : h'.get? x = some { cls := .ref C, dict := some dx, data := .fields #[.ref t1, .none, .none, .none, .bool false, .none] }
  dbig : h.objs.size ≤ dx
  dne : dx ≠ x
  ns : h'.Ns1 dx (fun y => if y = "value" then some v else none)
/-- a made Low -/
structure OwnMade (h h' : Heap) (e C d : Addr) (v : Value) : Prop where
  keep : ∀ b o, h.get? b = some o → h'.get? b = some o
  new : h.objs.size ≤ e
  obj : ∃ oe vs, h'.get? e = some oe ∧ oe.cls = .ref C ∧ oe.dict = some d ∧ oe.data = .fields vs ∧ vs[1]? = some .none
  dbig : h.objs.size ≤ d
  dne : d ≠ e
  ns : h'.Ns1 d (fun y => if y = "value" then some v else none)
section
variable {prog : Program} {w : World} {A : Around} {E : Value → Shared → Prop} {R : Result → Shared → Prop} {s : Shared} {K : Frag} {C fI : Addr}
theorem low_init (T : ErrT K C fI) {x t0 : Addr} {v : Value} (X : K.In s.heap) (hlim : s.heap.NoLimit) (hx : s.heap.get? x = some (excO C t0)) (hnx : K.lookup x = none) (hroom : A.depth < recursionLimit)
    (hq : ∀ h' tk dx, InitEnd s.heap h' x C dx t0 v → R (.ok (.ret .none)) { s with heap := h', toks := tk }) :
    codeAny (model prog w) A (.call (.ref fI) ⟨[.ref x, v], []⟩) R s := by
  obtain ⟨oc, od, kV, doc, pm, an, cdv, ct, osl, p1, p2, q1, q2, q3, q4, ho, hcd⟩ := T.fn
  obtain ⟨nm, q, N, bs, bm, sn, sub, ab, col, dd, k0, k1, k2, k3, k5, hC, hbm⟩ := T.cls
  have hcl : clsIn K C = some { name := nm, bases := bs, mro := .ref C :: bm, ns := N, qualname := q, hasDict := true, slotNames := sn, subclasses := sub, abstract := ab, collection := col, hasDel := false } := by unfold clsIn; rw [hC] <;> rfl
  refine Att.call_fn (binds := [("self", .ref x), ("value", v)]) X hlim ho hcd hroom (BindsTo.of_eq (by first | rfl | with_unfolding_all rfl)) (by first | rfl | decide | with_unfolding_all rfl) (fun s₁ IC => ?_) rfl rfl rfl
  obtain ⟨h₁, tk₁, rfl⟩ := IC.toInCall.same
  have k : ∀ b o, s.heap.get? b = some o → h₁.get? b = some o := IC.toInCall.keep
  have hn := IC.toInCall.ns
  have hxL : s.heap.objs.size ≠ x := Nat.ne_of_gt (Heap.lt_size hx)
  have X₁ : K.In h₁ := X.keeps k
  have hx₁ := k _ _ hx
  -- self.by = by
  show wpAny _ _ (execs _ _) _ _ _
  refine wpAny_execs_cons (plainObj_wpAny_Assign_Attribute ?_)
  refine ldC (v := v) hn (by first | rfl | with_unfolding_all rfl | kernel_rfl) (ldC (v := .ref x) hn (by first | rfl | with_unfolding_all rfl | kernel_rfl) ?_)
  refine set_plain X₁ (ox := excO C t0) (od := none) ⟨hx₁, rfl, rfl, trivial⟩ T.sa ?_
  refine exc_osa X₁ hx₁ hcl (show refsVE (.ref C :: bm) = true from hbm) rfl T.noN (fun h₃ tk₃ dx k₃ dn dne hx₃ hn₃ => ?_)
  show wpAny _ _ (execs _ _) _ _ _
  have z : s.heap.objs.size < h₁.objs.size := hn.lt
  exact wpAny_execs_nil (hq h₃ tk₃ dx ⟨fun b o hb e => k₃ b o hb (k b o e), hx₃, Nat.le_of_lt (Nat.lt_of_lt_of_le z dn), dne, hn₃⟩)
theorem low_made (T : ErrT K C fI) {v : Value} (X : K.In s.heap) (hlim : s.heap.NoLimit) (hroom : A.depth + 1 < recursionLimit)
    (hq : ∀ h' tk e d, OwnMade s.heap h' e C d v → R (.ok (.ret (.ref e))) { s with heap := h', toks := tk }) :
    codeAny (model prog w) A (.call (.ref C) ⟨[v], []⟩) R s := by
  obtain ⟨nm, q, N, bs, bm, sn, sub, ab, col, dd, k0, k1, k2, k3, k5, hC, hbm⟩ := T.cls
  obtain ⟨hp, g, dr, tk, os⟩ := s
  have k : ∀ b o, hp.get? b = some o → ((hp.push (kdv_tup [v])).push (excO C hp.objs.size)).get? b = some o := fun b o e => Heap.get?_push_of_some _ (Heap.get?_push_of_some _ e)
  have hget : ((hp.push (kdv_tup [v])).push (excO C hp.objs.size)).get? (hp.objs.size + 1) = some (excO C hp.objs.size) := by heap_get
  have hnx : K.lookup (hp.objs.size + 1) = none := by
    cases e : K.lookup (hp.objs.size + 1) with
    | none => rfl
    | some o =>
      have z : hp.get? (hp.objs.size + 1) = some o := X _ _ e
      exact absurd (Nat.lt_of_succ_lt (Heap.lt_size z)) (Nat.lt_irrefl _)
  refine call_own F.excBase_ValueError (fun X => refsVE_contains X bm hbm) (X _ _ hC) (looks_findIn X T.iC) (fun self => bind_fn X self T.tC) (one_size v) ?_
  refine low_init (s := ⟨(hp.push (kdv_tup [v])).push (excO C hp.objs.size), g, dr, tk, os⟩) T (X.keeps k) (hlim.keeps k) hget hnx ?_ fun h' tk' dx ⟨k', hx, dn, dne, hns⟩ => ?_
  · show A.depth + 1 < recursionLimit
    exact hroom
  · have old : ∀ b o, hp.get? b = some o → h'.get? b = some o := fun b o e => k' b o (Nat.ne_of_lt (Nat.lt_succ_of_lt (Heap.lt_size e))) (k b o e)
    have z : hp.objs.size + 1 + 1 ≤ dx := by
      first
        | (simpa only [Heap.size_push] using dn)
        | exact dn
        | (have q := dn; rw [Heap.size_push, Heap.size_push] at q; exact q)
    exact ⟨rfl, hq h' tk' (hp.objs.size + 1) dx ⟨old, Nat.le_succ _, ⟨_, _, hx, rfl, rfl, rfl, rfl⟩, Nat.le_trans (Nat.le_trans (Nat.le_succ _) (Nat.le_succ _)) z, dne, hns⟩⟩
end
end DrX
end PySem

set_option Elab.async false
set_option linter.all false
set_option maxRecDepth 100000
set_option maxHeartbeats 2000000
namespace L2.Vx
open PySem PySem.Spec PyProof.Rows

/-- the written facts of an error class, with the name of it -/
abbrev ErrT := @PySem.DrX.ErrT

/-- at a stands an exception of the class cls, its own dict, if there is one, at d -/
def EX (a : Addr) (cls : Value) (d : Option Addr) : HO :=
  .ext fun h => ∃ oe vs, h.get? a = some oe ∧ Zc cls d oe ∧ oe.data = .fields vs
theorem ex_ok {P : Program} {w : World} {H : Hp} {h : Heap} {a : Addr} {cls : Value} {d : Option Addr} {oe : Obj} {vs : Array Value}
    (e : h.get? a = some oe) (z : Zc cls d oe) (q : oe.data = .fields vs) : ObjOk P w H h a (EX a cls d) :=
  ⟨⟨oe, vs, e, z, q⟩, ⟨oe, e⟩, fun _ _ ⟨o, v, p, r⟩ k => ⟨o, v, k o p, r⟩⟩
theorem ex_at {P : Program} {w : World} {H : Hp} {h : Heap} {a : Addr} {cls : Value} {d : Option Addr} (ok : HOk P w H h)
    (e : H a = some (EX a cls d)) : ∃ oe vs, h.get? a = some oe ∧ Zc cls d oe ∧ oe.data = .fields vs := (ok a _ e).1
/-- the state is another one, its heap the same -/
theorem inv_same {X : Cx} {pins : List (Addr × Obj)} {σ : St} {H : Hp} {s s' : Shared} (I : Inv X pins σ H s) (e : s'.heap = s.heap)
    (os : s'.os = s.os) (bare : AllBare s'.gens) : Inv X pins σ H s' := by
  obtain ⟨h, g, dr, tk, o⟩ := s
  obtain ⟨h', g', dr', tk', o'⟩ := s'
  obtain rfl : h' = h := e
  obtain rfl : o' = o := os
  exact ⟨I.ok, I.os, bare, I.base, I.loc, I.cell, I.free, I.freeC, I.pin, I.hok, I.len⟩
/-- what makes an exception, as a value: it is tracked from now on -/
theorem pe_mk {X : Cx} {e : Expr} {t : St → Hp → XK → Prop} (he : PMk X e t) :
    PE X e (fun σ H Q => t σ H fun cls d H1 => ∀ a, H1 a = none → Q (.ref a) (upd H1 a (EX a cls d))) := by
  refine ⟨fun pins s σ H Q I h => ?_⟩
  refine wpAny_mono (he pins s σ H _ I h) (fun u s1 hu => ?_) fun _ _ x => x
  obtain ⟨a, oe, vs, sI, H', cls, d, rfl, J, k, hne, ha, hz, hd, _, na, os, ag, _, q⟩ := hu
  have J2 := J.laidN (t' := s1.toks) (h' := s1.heap) k hne na (ex_ok (P := X.prog) (w := X.w) (H := upd H' a (EX a cls d)) ha hz hd)
  exact ⟨.ref a, _, inv_same J2 rfl os ag, rfl, q a na⟩

/-- the own dict of an error that keeps v -/
abbrev xv (v : V) : HO := .xd [(("value" : Str), v)]
theorem look_xv {v : V} : List.lookup ("value" : Str) [(("value" : Str), v)] = some v := by simp [List.lookup]
theorem rel_xv {v : V} {u : Value} (r : RelV v u) (f : Str) :
    RelO (List.lookup f [(("value" : Str), v)]) (if f = "value" then some u else none) := by
  by_cases hf : f = "value"
  · subst hf
    rw [if_pos rfl, look_xv]
    exact r
  · rw [if_neg hf]
    have q : (f == ("value" : Str)) = false := by simpa using hf
    have q2 : List.lookup f [(("value" : Str), v)] = none := by simp [List.lookup, q]
    rw [q2]
    trivial

section
variable {X : Cx} {C fI : Addr}

/-- the call of an error class, whatever is made of it -/
theorem run_err {x : Str} {a : Expr} {ta : TA} {p pos : Pos} {k : Nat} (T : ErrT X.K C fI) (hm : X.mg x = some (.ref C))
    (hr : Room k X.A) (ha : PA X [a] ta) (hg : Gl X x) (hdb : (x == ("__debug__" : Str)) = false)
    (he : starEach (a :: []) X.env = (false, eval a X.env) :: starEach [] X.env)
    (hpl : (backTo pos (starEach [] X.env)).any (·.1) = false)
    {pins : List (Addr × Obj)} {s : Shared} {σ : St} {H : Hp} {Q : V → Hp → Prop} {R : Value → Shared → Prop} (I : Inv X pins σ H s)
    (h : ta σ H fun vs H1 => ∃ v, vs = [v] ∧ Q v H1)
    (fin : ∀ (v : V) (H1 : Hp) (e d : Addr) (G h' : Heap) (g : Array GenState) (dr : Drawn) (tk' : Nat) (os : OsState) (oe : Obj) (fv : Array Value),
      Inv X pins σ (upd H1 d (xv v)) ⟨G, g, dr, tk', os⟩ → (∀ b o, G.get? b = some o → h'.get? b = some o) → G.get? e = none →
      h'.get? e = some oe → Zc (.ref C) (some d) oe → oe.data = .fields fv → fv[1]? = some .none → H1 e = none → H1 d = none → d ≠ e → Q v H1 →
      AllBare g → R (.ref e) ⟨h', g, dr, tk', os⟩) :
    wpAny (model X.prog X.w) X.A (eval (.Call (.Name x p) [a] [] pos) X.env) R X.xe s := by
  refine wpAny_Call_Name_kw (ld_glob I hg hm ?_ hdb)
  refine PySem.W.callWith_K (h₀ := X.base) I.ok.mod.kin T.kC (thn (ha.run pos pins s σ H _ I h) fun us s1 hh => ?_) he hpl
  obtain ⟨vs, H1, I1, r1, v, ev, q1⟩ := hh
  subst ev
  refine ⟨I1.kIn, ?_⟩
  cases r1 with
  | cons rv rn =>
    rename_i v' us'
    cases rn
    have hlim := I1.nolimit
    obtain ⟨hp, g, dr, tk, os⟩ := s1
    refine wpAny_call (PySem.DrX.low_made T I1.kIn hlim (by have := hr.dp; omega) fun h' tk' e d M => ?_)
    obtain ⟨oe, fv, hoe, hc, hd, hdat, h1⟩ := M.obj
    obtain ⟨G', g1, g2⟩ := restrict h' fun b => decide (b ≠ e)
    have gk : ∀ b, b ≠ e → G'.get? b = h'.get? b := fun b hb => g1 b (decide_eq_true hb)
    have ge : G'.get? e = none := g2 e (by simp)
    have old : ∀ b o, hp.get? b = some o → G'.get? b = some o := fun b o q =>
      (gk b (Nat.ne_of_lt (Nat.lt_of_lt_of_le (Heap.lt_size q) M.new))).trans (M.keep b o q)
    have ob : ObjOk X.prog X.w (upd H1 d (xv v)) G' d (xv v) :=
      ⟨_, M.ns.at (fun o q => (gk d M.dne).trans q), fun f => rel_xv rv f⟩
    have J : Inv X pins σ (upd H1 d (xv v)) ⟨G', g, dr, tk', os⟩ := I1.laid (t' := tk') old M.dbig ob
    refine fin v H1 e d G' h' g dr tk' os oe fv J (fun b o q => ?_) ge hoe ⟨hc, hd⟩ hdat h1 (I1.hok.fresh M.new) (I1.hok.fresh M.dbig) M.dne q1 I1.bare
    by_cases hb : b = e
    · rw [hb, ge] at q
      cases q
    · exact (gk b hb).symm.trans q

/-- C(e), to be raised -/
def tMkE (C : Addr) (ta : TA) : St → Hp → XK → Prop := fun σ H Q => ta σ H fun vs H1 =>
  ∃ v, vs = [v] ∧ ∀ d, H1 d = none → Q (.ref C) (some d) (upd H1 d (xv v))
theorem pmk_err {x : Str} {a : Expr} {ta : TA} {p pos : Pos} {k : Nat} (T : ErrT X.K C fI) (hm : X.mg x = some (.ref C))
    (hr : Room k X.A) (ha : PA X [a] ta) (hg : Gl X x := by rfl) (hdb : (x == ("__debug__" : Str)) = false := by decide)
    (he : starEach (a :: []) X.env = (false, eval a X.env) :: starEach [] X.env := by rfl)
    (hpl : (backTo pos (starEach [] X.env)).any (·.1) = false := by rfl) :
    PMk X (.Call (.Name x p) [a] [] pos) (tMkE C ta) := by
  intro pins s σ H Q I h
  refine run_err T hm hr ha hg hdb he hpl I (Q := fun v H1 => ∀ d, H1 d = none → Q (.ref C) (some d) (upd H1 d (xv v))) h ?_
  intro v H1 e d G h' g dr tk' os oe fv J k ge hoe hz hdat h1 ne nd ned q hb
  have hn : upd H1 d (xv v) e = none := by rw [upd_ne (Ne.symm ned)]; exact ne
  exact ⟨e, oe, fv, _, _, .ref C, some d, rfl, J, k, ge, hoe, hz, hdat, h1, hn, rfl, hb, raises_own T.exC T.tyC, q d nd⟩
/-- raise C(e) -/
theorem ps_err {W : WX} {x : Str} {a : Expr} {ta : TA} {p pos pos2 : Pos} {k : Nat} (hc : X.calm = true) (T : ErrT X.K C fI)
    (hm : X.mg x = some (.ref C)) (hr : Room k X.A) (tk : Takes X W) (ha : PA X [a] ta) (hg : Gl X x := by rfl)
    (hdb : (x == ("__debug__" : Str)) = false := by decide)
    (he : starEach (a :: []) X.env = (false, eval a X.env) :: starEach [] X.env := by rfl)
    (hpl : (backTo pos (starEach [] X.env)).any (·.1) = false := by rfl) :
    PS X (.Raise (some (.Call (.Name x p) [a] [] pos)) none pos2) (fun _ σ H => tMkE C ta σ H fun cls d H' => W cls d σ H') :=
  ps_raise hc tk (pmk_err T hm hr ha hg hdb he hpl)

/-- C(e) as a value -/
def tExc (C : Addr) (ta : TA) : TE := fun σ H Q => tMkE C ta σ H fun cls d H1 => ∀ a, H1 a = none → Q (.ref a) (upd H1 a (EX a cls d))
theorem pe_exc {x : Str} {a : Expr} {ta : TA} {p pos : Pos} {k : Nat} (T : ErrT X.K C fI) (hm : X.mg x = some (.ref C))
    (hr : Room k X.A) (ha : PA X [a] ta) (hg : Gl X x := by rfl) (hdb : (x == ("__debug__" : Str)) = false := by decide)
    (he : starEach (a :: []) X.env = (false, eval a X.env) :: starEach [] X.env := by rfl)
    (hpl : (backTo pos (starEach [] X.env)).any (·.1) = false := by rfl) :
    PE X (.Call (.Name x p) [a] [] pos) (tExc C ta) := pe_mk (pmk_err T hm hr ha hg hdb he hpl)

/-- what is known of an error that is held: its class of one's own, its dict with the value; or a plain ValueError -/
def Held (K : PySem.W.Frag) (H : Hp) (a : Addr) (cls : Value) : Prop :=
  (∃ C d fI v, cls = .ref C ∧ H a = some (EX a cls (some d)) ∧ H d = some (xv v) ∧ ErrT K C fI) ∨
  (cls = .type "ValueError" ∧ H a = some (EX a cls none))
/-- e.value, e a tracked error -/
def tVal (K : PySem.W.Frag) (te : TE) : TE := fun σ H Q => te σ H fun x H1 => ∃ a C d fI v,
  x = .ref a ∧ H1 a = some (EX a (.ref C) (some d)) ∧ ErrT K C fI ∧ H1 d = some (xv v) ∧ Q v H1
theorem inst_ex {h : Heap} {a C d : Addr} {oe : Obj} {vs : Array Value} {mA : Str → Option Value} (ho : h.get? a = some oe)
    (hz : Zc (.ref C) (some d) oe) (hd : oe.data = .fields vs) (hns : h.Ns1 d mA) :
    ∃ od, PySem.W.InstAt h a oe C (some od) ∧ ∀ name, PySem.W.lookIn name od = some (mA name) := by
  obtain ⟨od, hod, hl⟩ := lookIn_ns hns
  exact ⟨od, ⟨ho, hz.1, by unfold PySem.W.notCls; rw [hd] <;> rfl, by rw [hz.2]; exact hod⟩, hl⟩
theorem pe_val {e : Expr} {te : TE} {pos : Pos} (he : PE X e te)
    (hb : attributeBase e "value" X.env (eval e X.env) = eval e X.env := by rfl) : PE X (.Attribute e "value" pos) (tVal X.K te) := by
  refine ⟨fun pins s σ H Q I h => ?_⟩
  refine attr_of hb (thn (he.run pins s σ H _ I h) fun u s1 hh => ?_)
  obtain ⟨x, H1, I1, rx, a, C, d, fI, v, ex, ea, T, ed, q⟩ := hh
  subst ex
  obtain rfl : u = Value.ref a := rx
  obtain ⟨oe, vs, ho, hz, hd⟩ := ex_at I1.hok ea
  have hx : ObjOk X.prog X.w H1 s1.heap d (xv v) := I1.hok d _ ed
  obtain ⟨mA, hns, hr⟩ := hx
  obtain ⟨od, J, hl⟩ := inst_ex ho hz hd hns
  obtain ⟨u, hu, ru⟩ := RelO.some_of (v := v) (o := mA "value") (by rw [← look_xv (v := v)]; exact hr "value")
  exact HandSPX.exc_get I1.kIn J T.ga T.gg T.exC (PySem.W.findObj_own T.hdC T.noN rfl (by rw [hl, hu])) (handed_of ru) ⟨v, H1, I1.tok _, ru, q⟩

/-- isinstance(e, c), e a tracked error -/
def rIsX (K : PySem.W.Frag) : List V → Hp → VK → Prop := fun xs H Q => ∃ (a : Addr) (cls : Value) (c : V) (cv : Value) (b : Bool),
  xs = [.ref a, c] ∧ Held K H a cls ∧ (∀ u, RelV c u → u = cv) ∧ PySem.W.kitOne K cls cv = some b ∧ Q (.bl b) H
theorem call_isX : CallR X (.builtin "isinstance") (rIsX X.K) := by
  intro pins s σ H xs us Q I r h
  obtain ⟨a, cls, c, cv, b, rfl, hh, hcv, e, q⟩ := h
  cases r with
  | cons rx rr =>
    cases rr with
    | cons rt rr =>
      cases rr
      cases rx
      have ec := hcv _ rt
      subst ec
      have fin : ∀ tk : Nat, EP X pins σ Q (.bool b) { s with toks := tk } := fun tk => ⟨.bl b, H, I.kept (t' := tk) fun _ _ z => z, rfl, q⟩
      rcases hh with ⟨C, d, fI, v, rfl, ea, ed, T⟩ | ⟨rfl, ea⟩
      · obtain ⟨oe, vs, ho, hz, hd⟩ := ex_at I.hok ea
        have hx : ObjOk X.prog X.w H s.heap d (xv v) := I.hok d _ ed
        obtain ⟨mA, hns, _⟩ := hx
        obtain ⟨od, J, _⟩ := inst_ex ho hz hd hns
        exact PySem.W.kia_one (PySem.W.kitx_exc T.cls' T.ga T.gg T.exC T.ha T.hn T.ht T.hm) I.kIn J e (fun z => nomatch z) fin
      · obtain ⟨oe, vs, ho, hz, hd⟩ := ex_at I.hok ea
        exact PySem.W.kia_one (PySem.W.kitx_bexc PySem.F.excAttr_ValueError PySem.F.lkClass_ValueError PySem.F.soClass_ValueError (by decide)) I.kIn ⟨oe, ho, hz.1⟩ e (fun z => nomatch z) fin
end
end L2.Vx

set_option Elab.async false
set_option linter.all false
set_option maxRecDepth 100000
set_option maxHeartbeats 2000000
namespace L2.Vx
open PySem PySem.Spec PyProof.Rows

/-! ### data at an address, dicts with it -/
def kd : Key → PyData
  | .inl i => .int i
  | .inr x => .str x
mutual
inductive Dd (K : PySem.W.Frag) (H : Hp) : V → PyData → Prop
  | non : Dd K H .non .none
  | bl (b : Bool) : Dd K H (.bl b) (.bool b)
  | int (i : Int) : Dd K H (.int i) (.int i)
  | str (x : Str) : Dd K H (.str x) (.str x)
  | lst {a : Addr} {xs : List V} {ds : List PyData} : SqL K H a xs → DdAll K H xs ds → Dd K H (.ref a) (.list ds)
  | tup {a : Addr} {xs : List V} {ds : List PyData} : SqT K H a xs → DdAll K H xs ds → Dd K H (.ref a) (.tuple ds)
  | dct {a : Addr} {kvs : List (Key × V)} {ds : List PyData} : H a = some (.dK kvs) → DdAll K H (kvs.map (·.2)) ds →
      Dd K H (.ref a) (.dict ((kvs.map fun p => kd p.1).zip ds))
inductive DdAll (K : PySem.W.Frag) (H : Hp) : List V → List PyData → Prop
  | nil : DdAll K H [] []
  | cons {v : V} {vs : List V} {d : PyData} {ds : List PyData} : Dd K H v d → DdAll K H vs ds → DdAll K H (v :: vs) (d :: ds)
end
/-! no list in it -/
mutual
def noL : PyData → Bool
  | .none | .bool _ | .int _ | .str _ => true
  | .list _ => false
  | .tuple xs => noLs xs
  | .dict kvs => noLk kvs
def noLs : List PyData → Bool
  | [] => true
  | x :: xs => noL x && noLs xs
def noLk : List (PyData × PyData) → Bool
  | [] => true
  | (_, v) :: r => noL v && noLk r
end
theorem noLk_zip : ∀ (ks ds : List PyData), ks.length = ds.length → noLk (ks.zip ds) = noLs ds
  | [], [], _ => rfl
  | k :: ks, d :: ds, h => by
    show (noL d && noLk (ks.zip ds)) = (noL d && noLs ds)
    rw [noLk_zip ks ds (Nat.succ.inj h)]
  | [], _ :: _, h => by cases h
  | _ :: _, [], h => by cases h
theorem DdAll.len {K : PySem.W.Frag} {H : Hp} : ∀ {vs : List V} {ds : List PyData}, DdAll K H vs ds → vs.length = ds.length
  | _, _, .nil => rfl
  | _, _, .cons _ t => congrArg (· + 1) t.len

theorem reads_keys {P : Program} {w : World} {h : Heap} : ∀ (es : List DictEntry) (kvs : List (Key × Value)), Pairs (mixKind P w) es kvs →
    ReadsAll h (es.map (·.key)) (kvs.map fun p => kd p.1) [] ∧ es.map (·.val) = kvs.map (·.2)
  | _, _, .nil => ⟨.nil, rfl⟩
  | e :: es, kv :: kvs, .cons hk hv t => by
    obtain ⟨r, q⟩ := reads_keys es kvs t
    refine ⟨?_, by rw [List.map_cons, List.map_cons, hv, q]⟩
    have r1 : Reads h e.key (kd kv.1) [] := by
      rcases keyIs_shape (show keyIs kv.1 e.key = true from hk) with ⟨i, t, e1, e2⟩ | ⟨x, t, e1, e2⟩
      · rw [e1, e2]; exact .int i t
      · rw [e1, e2]; exact .str x t
    exact ReadsAll.cons r1 r
theorem kv_keys {κ : Type} : ∀ (kvs : List (κ × V)) (us : List (κ × Value)), KV kvs us → kvs.map (·.1) = us.map (·.1) ∧ Vals (kvs.map (·.2)) (us.map (·.2))
  | _, _, .nil => ⟨rfl, .nil⟩
  | _, _, .cons r t => by
    obtain ⟨q1, q2⟩ := kv_keys _ _ t
    exact ⟨by rw [List.map_cons, List.map_cons, r.1, q1], .cons r.2 q2⟩

section
variable {X : Cx} {pins : List (Addr × Obj)} {σ : St} {H : Hp} {s : Shared}
mutual
theorem Dd.reads (I : Inv X pins σ H s) : ∀ {v : V} {d : PyData}, Dd X.K H v d → ∀ u : Value, RelV v u → ∃ as, Reads s.heap u d as ∧ (noL d = true → sysModules ∉ as)
  | _, _, .non, u, r => by
    obtain rfl : u = Value.none := r
    exact ⟨_, Reads.none, fun _ z => by cases z⟩
  | _, _, .bl b, u, r => by
    obtain rfl : u = Value.bool b := r
    exact ⟨_, Reads.bool b, fun _ z => by cases z⟩
  | _, _, .int i, u, r => by
    obtain ⟨t, rfl⟩ := (show ∃ t, u = Value.int i t from r)
    exact ⟨_, Reads.int i t, fun _ z => by cases z⟩
  | _, _, .str x, u, r => by
    obtain ⟨t, rfl⟩ := (show ∃ t, u = Value.str x t from r)
    exact ⟨_, Reads.str x t, fun _ z => by cases z⟩
  | _, _, .lst (a := a) hs ha, u, r => by
    obtain rfl : u = Value.ref a := r
    obtain ⟨its, rv, ⟨o, n, ho, hc, _, hd⟩, _⟩ := I.list hs
    obtain ⟨as, hr, _⟩ := Dd.readsAll I ha its rv
    exact ⟨_, Reads.list ho hc hd hr, fun z => by cases z⟩
  | _, _, .tup (a := a) hs ha, u, r => by
    obtain rfl : u = Value.ref a := r
    obtain ⟨its, rv, ⟨o, ho, hc, n, hd⟩, _⟩ := I.tuple hs
    obtain ⟨as, hr, hn⟩ := Dd.readsAll I ha its rv
    exact ⟨_, Reads.tuple ho hc hd hr, hn⟩
  | _, _, .dct (a := a) (kvs := pvs) (ds := ds) he ha, u, r => by
    obtain rfl : u = Value.ref a := r
    obtain ⟨_, hne, us, rk, ob, es, ep, ho, hx, hd, _, hp, _⟩ := I.hok _ _ he
    obtain ⟨rk1, rk2⟩ := kv_keys _ _ rk
    obtain ⟨q1, q2⟩ := reads_keys (h := s.heap) es.toList us hp
    have hl : (pvs.map fun p => kd p.1).length = ds.length := by
      rw [List.length_map]
      have := ha.len
      rw [List.length_map] at this
      exact this
    obtain ⟨as, hr, hn⟩ := Dd.readsAll I ha (us.map (·.2)) rk2
    have e1 : us.map (fun p => kd p.1) = pvs.map (fun p => kd p.1) := by
      have := congrArg (List.map kd) rk1
      rw [List.map_map, List.map_map] at this
      exact this.symm
    have f1 : ((pvs.map fun p => kd p.1).zip ds).map (·.1) = pvs.map fun p => kd p.1 := List.map_fst_zip (by rw [hl]; exact Nat.le_refl _)
    have f2 : ((pvs.map fun p => kd p.1).zip ds).map (·.2) = ds := List.map_snd_zip (by rw [hl]; exact Nat.le_refl _)
    refine ⟨_, Reads.dict ho hx.1 hd (as := []) (bs := as) (by rw [f1, ← e1]; exact q1) (by rw [f2, q2]; exact hr), fun z => ?_⟩
    intro hm
    rcases List.mem_cons.mp (show sysModules ∈ a :: ([] ++ as) from hm) with e | hm
    · rw [← e] at hne
      simp at hne
    · exact hn (by rw [← noLk_zip _ _ hl]; exact z) hm
theorem Dd.readsAll (I : Inv X pins σ H s) : ∀ {vs : List V} {ds : List PyData}, DdAll X.K H vs ds → ∀ us : List Value, Vals vs us → ∃ as, ReadsAll s.heap us ds as ∧ (noLs ds = true → sysModules ∉ as)
  | _, _, .nil, us, r => by
    cases r
    exact ⟨_, ReadsAll.nil, fun _ z => by cases z⟩
  | _, _, .cons h1 h2, us, r => by
    cases r with
    | cons r1 r2 =>
      obtain ⟨as, q1, n1⟩ := Dd.reads I h1 _ r1
      obtain ⟨bs, q2, n2⟩ := Dd.readsAll I h2 _ r2
      refine ⟨_, ReadsAll.cons q1 q2, fun z hm => ?_⟩
      obtain ⟨z1, z2⟩ := Bool.and_eq_true_iff.mp z
      rcases List.mem_append.mp hm with m | m
      · exact n1 z1 m
      · exact n2 z2 m
end
end
/-- what repr may be asked of -/
def shOk (d : PyData) : Bool := d.showable && (!d.hasDict || noL d)
/-- repr(x) of data -/
def rRepr (K : PySem.W.Frag) : List V → Hp → VK → Prop := fun xs H Q => ∃ (x : V) (d : PyData),
  xs = [x] ∧ Dd K H x d ∧ shOk d = true ∧ d.depth ≤ 60 ∧ d.shown.length ≤ sizeLine ∧ Q (.str d.shown) H
theorem call_repr {X : Cx} (hg : X.A.guards = some []) (hu : X.A.units + 64 < cLine) : CallR X (.builtin "repr") (rRepr X.K) := by
  intro pins s σ H xs us Q I r h
  obtain ⟨x, d, rfl, hd, hs, hdep, hz, q⟩ := h
  cases r with
  | cons rx rr =>
    cases rr
    rename_i u
    obtain ⟨as, hr, hn⟩ := Dd.reads I hd u rx
    obtain ⟨s1, s2⟩ := Bool.and_eq_true_iff.mp (show (d.showable && (!d.hasDict || noL d)) = true from hs)
    have hsm : d.hasDict = true → sysModules ∉ as := fun z => hn (by rw [z] at s2; simpa using s2)
    have atRef : ∀ {a : Addr}, u = Value.ref a → wpAny (model X.prog X.w) X.A (call (.builtin "repr") [u]) (EP X pins σ Q) X.xe s := fun {a} e => by
      subst e
      exact repr_of_reads' hr s1 hsm hg (by omega) (fun _ _ e => e) (fun h' v tk hk => ⟨.str _, H, I.kept hk, ⟨_, rfl⟩, q⟩) hz
    cases hd with
    | non =>
      obtain rfl : u = Value.none := rx
      exact PySem.P.repr_of_none ⟨.str _, H, I.tok _, ⟨_, rfl⟩, q⟩
    | bl b =>
      obtain rfl : u = Value.bool b := rx
      exact PySem.P.repr_of_bool ⟨.str _, H, I.tok _, ⟨_, rfl⟩, q⟩
    | int i =>
      obtain ⟨t, rfl⟩ := (show ∃ t, u = Value.int i t from rx)
      exact PySem.P.repr_of_int (of_decide_eq_true s1) ⟨.str _, H, I.tok _, ⟨_, rfl⟩, q⟩
    | str x =>
      obtain ⟨t, rfl⟩ := (show ∃ t, u = Value.str x t from rx)
      exact PySem.P.repr_of_str ⟨.str _, H, I.tok _, ⟨_, rfl⟩, q⟩ hz
    | lst _ _ => exact atRef rx
    | tup _ _ => exact atRef rx
    | dct _ _ => exact atRef rx

/-! ### defs that are called where nothing shows itself: the guards are told -/
structure FnG (P : Program) (w : World) (K : PySem.W.Frag) (mg : Str → Option Value) (base : Heap) (CX : CXT) (k : Nat) (f : Addr)
    (fd : FuncData) (ps : List Str) (sp : Sp) : Prop where
  len : ∀ vs H Q E, sp vs H Q E → vs.length = ps.length
  run : ∀ (A : Around) (outer : List Env) (s : Shared) (H : Hp) (args : Args) (us : List Value) (vs : List V) (Q : VK) (E : XK), A.guards = some [] →
    Room k A → Env0 P w K mg base A outer s H → BindsTo s fd args (ps.zip us) → Vals vs us → sp vs H Q E →
      codeAny (model P w) A (.call (.ref f) args) (CR CX outer P w H s Q E) s
section
variable {X : Cx} {CX : CXT} {k : Nat} {f : Addr} {fd : FuncData} {ps : List Str} {sp : Sp} {dvs : List V} {ds : List Value} {E : XK} {x : Str}
  {p pos : Pos} {e : Expr} {es : List Expr} {t : TA}
theorem run_g {pins : List (Addr × Obj)} {σ : St} {H : Hp} {s : Shared} {Q : VK} {us : List Value} {vs : List V}
    (F : FnG X.prog X.w X.K X.mg X.base CX k f fd ps sp) (gd : X.A.guards = some []) (hr : Room k X.A) (hb : Binds X.K fd ps ds) (hd : Vals dvs ds)
    (hx : Passes CX X E) (I : Inv X pins σ H s) (r : Vals vs us) (h : sp (vs ++ dvs) H Q E) :
    wpAny (model X.prog X.w) X.A (call (.ref f) us) (EP X pins σ Q) X.xe s := by
  have r2 := r.append hd
  have hl : (us ++ ds).length = ps.length := r2.length.symm.trans (F.len _ _ _ _ h)
  have hc := F.run X.A X.stack s H ⟨us, []⟩ (us ++ ds) (vs ++ dvs) Q E gd hr I.env0 (hb s us I.kIn hl) r2 h
  refine wpAny_call (codeAny_mono hc fun r s' hq => ?_)
  match r, hq with
  | .error e, hq => exact hx pins σ H s e s' I hq
  | .ok (.ret u), hq => exact I.after hq
  | .ok .next, hq => exact hq.elim
  | .ok .brk, hq => exact hq.elim
  | .ok .cont, hq => exact hq.elim
/-- f(e, ..), f such a def -/
theorem pe_callG (F : FnG X.prog X.w X.K X.mg X.base CX k f fd ps sp) (gd : X.A.guards = some []) (hr : Room k X.A) (hg : Gl X x)
    (hm : X.mg x = some (.ref f)) (hk : PySem.W.keepIn X.K (.ref f) = true) (hb : Binds X.K fd ps ds) (hd : Vals dvs ds) (hx : Passes CX X E)
    (ha : PA X (e :: es) t) (hdb : (x == ("__debug__" : Str)) = false := by decide)
    (he : starEach (e :: es) X.env = (false, eval e X.env) :: starEach es X.env := by rfl)
    (hpl : (backTo pos (starEach es X.env)).any (·.1) = false := by rfl) :
    PE X (.Call (.Name x p) (e :: es) [] pos) (tCall sp dvs E t) := by
  refine ⟨fun pins s σ H Q I h => wpAny_Call_Name_kw (ld_glob I hg hm ?_ hdb)⟩
  have ht := ha.run pos pins s σ H _ I h
  exact PySem.W.callWith_K (h₀ := X.base) I.ok.mod.kin hk
    (thn ht fun us s1 ⟨vs, H1, I1, r, q⟩ => ⟨I1.kIn, run_g F gd hr hb hd hx I1 r q⟩) he hpl
end
section
variable {P : Program} {w : World} {K : PySem.W.Frag} {mg : Str → Option Value} {base : Heap}
/-- a def's promise by its body, the guards told -/
theorem okG {CX : CXT} {x qual : Str} {st : Stmt} {f : Addr} {fd : FuncData} {N ps : List Str} {k : Nat} {sp : Sp} (F : Fun K x qual st f fd)
    (S : FnScope N ps (defScope st)) (len : ∀ vs H Q E, sp vs H Q E → vs.length = ps.length)
    (hbody : ∀ (cdv : Value) (A : Around) (outer : List Env) (s : Shared) (H : Hp) (vs : List V) (Q : VK) (E : XK), A.guards = some [] →
      Room k (A.deeper (envOfC qual (defScope st) s.heap.objs.size f cdv)) → sp vs H Q E →
      ∃ t, PSs (cxOf CX P w K mg base N qual (defScope st) f cdv A outer s H E) (defBody st) t ∧
        t { nx := fun _ H' => Q .non H', rt := Q } (start N vs) H) : FnG P w K mg base CX (k + 1) f fd ps sp := by
  obtain ⟨oc, od, kV, doc, pm, an, cdv, ct, osl, rfl, lk, hcd⟩ := F.ex
  refine ⟨len, fun A outer s H args us vs Q E gd hr e0 hb r hsp => ?_⟩
  have old : ∀ b o, base.get? b = some o → s.heap.get? b = some o := fun b o e => (e0.bs b o e).1
  have KX : K.In s.heap := e0.mod.kin.keeps old
  have par : ∀ y ∈ ps.zip us, (defScope st).names.lookup y.1 = some .local ∨
      ((defScope st).names.lookup y.1 = some .cell ∧ ((cellsFrom (s.heap.objs.size + 1) (defScope st).names []).lookup y.1).isSome = true) := by
    intro y hy
    obtain ⟨n, v⟩ := y
    rcases S.par n (List.of_mem_zip hy).1 with q | q
    · exact .inl q
    · exact .inr ⟨q, PySem.W.cellsFrom_some _ _ _ (.inl q)⟩
  refine codeAny_call_function hr.depth (KX _ _ lk) rfl S.co S.gen rfl (PySem.W.codeRec_of KX hcd) (hb _ _ _ _ ?_)
  refine wpAny_newFunctionEnv_cells S.kind par fun env he s1 ic => ?_
  subst he
  refine ⟨(e0.mod.nolimit.keeps old).keeps ic.toInCall.keep, codeAny_func ?_⟩
  obtain ⟨t, ht, hq⟩ := hbody cdv A outer s H vs Q E gd (hr.deeper _) hsp
  have I := inv_start (CX := CX) (E := E) S hr.hd e0 (len _ _ _ _ hsp) r ic
  refine wpAny_mono (ht.run [] s1 _ H _ I hq) (fun fl s' hs => ?_) fun _ _ z => z
  match fl, hs with
  | .ret u, ⟨v, σ', H', J, rv, q⟩ => exact ⟨v, H', J.os, J.bare, J.base, J.hok, rv, q⟩
  | .next, ⟨σ', H', J, q⟩ => exact ⟨V.non, H', J.os, J.bare, J.base, J.hok, rfl, q⟩
  | .brk, ⟨_, _, _, q⟩ => exact q.elim
  | .cont, ⟨_, _, _, q⟩ => exact q.elim
/-- .. one that lets nothing out -/
theorem okG0 {x qual : Str} {st : Stmt} {f : Addr} {fd : FuncData} {N ps : List Str} {k : Nat} {sp : Sp} (F : Fun K x qual st f fd)
    (S : FnScope N ps (defScope st)) (len : ∀ vs H Q E, sp vs H Q E → vs.length = ps.length)
    (hbody : ∀ (cdv : Value) (A : Around) (outer : List Env) (s : Shared) (H : Hp) (vs : List V) (Q : VK) (E : XK), A.guards = some [] →
      Room k (A.deeper (envOfC qual (defScope st) s.heap.objs.size f cdv)) → sp vs H Q E →
      ∃ t, PSs (cxOf CX0 P w K mg base N qual (defScope st) f cdv A outer s H E).nox (defBody st) t ∧
        t { nx := fun _ H' => Q .non H', rt := Q } (start N vs) H) : FnG P w K mg base CX0 (k + 1) f fd ps sp :=
  okG F S len fun cdv A outer s H vs Q E gd hr hsp => by
    obtain ⟨t, h, q⟩ := hbody cdv A outer s H vs Q E gd hr hsp
    exact ⟨t, h.nox, q⟩
end
end L2.Vx

set_option Elab.async false
set_option linter.all false
set_option maxRecDepth 100000
set_option maxHeartbeats 2000000
namespace L2.Vx
open PySem PySem.Spec PyProof.Rows

/-- the end of a law whose def is told the guards -/
theorem law_callG {P : Program} {w : World} {K : PySem.W.Frag} {mg mb : Str → Option Value} {CX : CXT} {k : Nat} {fa a : Addr} {fd : FuncData} {x : Str} {sp : Sp}
    {s₁ : Shared} {vs : List Value} {ns : List Int}
    (KX : K.In s₁.heap) (hns : s₁.heap.Ns mainGlobals mg) (hb : s₁.heap.Ns builtinsNs mb) (hbb : ∀ x : Str, x ≠ "__name__" → mb x = bootBuiltins x)
    (hlim : s₁.heap.NoLimit) (hg : s₁.gens = #[]) (ha : s₁.heap.get? a = some { cls := .type "list", data := .seq vs.toArray }) (hi : IntsAre vs ns)
    (hl : ns.length ≤ sizeLine) (hr : Room k callerA)
    (F : ∀ base : Heap, K.In base → base.Ns mainGlobals mg → FnG P w K mg base CX k fa fd [x] sp)
    (hbind : ∀ (s : Shared) (u : Value), BindsTo s fd ⟨[u], []⟩ [(x, u)])
    (hsp : ∀ H : Hp, Only H → SqL K H a (ns.map V.int) → sp [.ref a] H (fun v _ => v = .bl true) fun _ _ _ => False)
    (hCX : ∀ H e s', CX [] H s₁ (fun _ _ _ => False) e s' → False) :
    codeAny (model P w) callerA (.call (.ref fa) ⟨[.ref a], []⟩)
      (fun r s' => r = .ok (.ret (.bool true)) ∧ OldK s₁.heap s'.heap ∧ s'.os = s₁.os ∧ AllBare s'.gens) s₁ := by
  have lenV := hi.length
  have rv := vals_ints hi
  -- whatever of the script is tracked
  have any : ∀ H : Hp, Only H → SqL K H a (ns.map V.int) → HOk P w H s₁.heap → (∀ b u, H b = some u → b = a) → (∀ u, H a = some u → K.lookup a = none) →
      codeAny (model P w) callerA (.call (.ref fa) ⟨[.ref a], []⟩)
        (fun r s' => r = .ok (.ret (.bool true)) ∧ OldK s₁.heap s'.heap ∧ s'.os = s₁.os ∧ AllBare s'.gens) s₁ := by
    intro H hO hS hok only free
    have stays : ∀ {b : Addr} {o : Obj}, s₁.heap.get? b = some o → (∀ u, H b = some u → False) → (hidT s₁.heap H).get? b = some o := by
      intro b o e n
      refine hidT_get e ?_
      cases q : H b with
      | none => rfl
      | some u => exact (n u q).elim
    have dictStays : ∀ {b : Addr} {o : Obj} {es : Array DictEntry} {ep : Nat}, s₁.heap.get? b = some o → o.data = .dict es ep → (hidT s₁.heap H).get? b = some o := by
      intro b o es ep e d
      refine stays e fun u q => ?_
      have eb := only b u q
      subst eb
      rw [ha] at e
      cases e
      cases d
    have ns' : ∀ {b : Addr} {m : Str → Option Value}, s₁.heap.Ns b m → (hidT s₁.heap H).Ns b m := by
      intro b m h
      obtain ⟨o, es, ep, e, d, r⟩ := h
      exact ⟨o, es, ep, dictStays e d, d, r⟩
    have KB : K.In (hidT s₁.heap H) := by
      intro b o e
      refine stays (KX b o e) fun u q => ?_
      have eb := only b u q
      subst eb
      rw [free u q] at e
      cases e
    have M : Mod K mg (hidT s₁.heap H) := by
      obtain ⟨mc, h1, h2⟩ := hlim
      exact ⟨KB, ns' hns, ⟨mb, ns' hb, hbb⟩, ⟨mc, ns' h1, h2⟩⟩
    have e0 : Env0 P w K mg (hidT s₁.heap H) callerA [] s₁ H :=
      { frames := rfl, mod := M, bs := fun b o e => of_hidT e, bsz := Nat.le_of_eq (hidT_size _ _), funs := trivial, frf := fun b z => (by cases z), hok := hok, bare := .of_eq hg }
    have run := (F _ KB (ns' hns)).run callerA [] s₁ H ⟨[.ref a], []⟩ [.ref a] [.ref a] _ _ rfl hr e0 (hbind s₁ (.ref a)) (.cons rfl .nil) (hsp H hO hS)
    refine codeAny_mono run fun r s' h => ?_
    match r, h with
    | .error e, h => exact (hCX H e s' h).elim
    | .ok .next, h => exact h.elim
    | .ok .brk, h => exact h.elim
    | .ok .cont, h => exact h.elim
    | .ok (.ret u), ⟨v, H', os, bare, un, hok', r', q⟩ =>
      obtain rfl : v = .bl true := q
      obtain rfl : u = Value.bool true := r'
      refine ⟨rfl, OldK.of_keep fun b o e => ?_, os, bare⟩
      rcases hO b with z | ⟨ob, xs, z⟩
      · exact un.keep b o e z (fun z => by cases z) (fun z => by cases z)
      · obtain ⟨e1, _⟩ := hok b _ z
        obtain ⟨e2, _⟩ := hok' b _ (un.frzs b ob _ z)
        rw [e] at e1
        cases e1
        exact e2
  cases hk : K.lookup a with
  | some o =>
    have e := KX a o hk
    rw [ha] at e
    cases e
    refine any (fun _ => none) (fun _ => .inl rfl) (.inr ⟨_, vs.toArray, _, hk, rfl, rfl, rfl, ?_, by simpa using rv⟩) (fun b u z => by cases z) (fun b u z => by cases z) (fun u z => by cases z)
    rw [List.size_toArray, lenV]
    exact hl
  | none =>
    refine any (fun b => if b = a then some (.frz { cls := .type "list", data := .seq vs.toArray } (.lst (ns.map V.int))) else none) (fun b => ?_)
      (.inl (.inr ⟨{ cls := .type "list", data := .seq vs.toArray }, if_pos rfl⟩)) (fun b u z => ?_) (fun b u z => ?_) (fun _ _ => hk)
    · by_cases q : b = a
      · exact .inr ⟨_, _, if_pos q⟩
      · exact .inl (if_neg q)
    · by_cases q : b = a
      · subst q
        have z := (if_pos rfl).symm.trans z
        cases z
        exact ⟨ha, by rw [List.length_map]; exact hl, vs, _, rv, ha⟩
      · have z := (if_neg q).symm.trans z
        cases z
    · by_cases q : b = a
      · exact q
      · have z := (if_neg q).symm.trans z
        cases z
theorem walk_ofG {l : PySem.W.OpenLaw} {n k : Nat} {q : Program} {loose : List Str} {XP : (Str → Option Value) → Heap → Prop} {YP : World → Heap → Prop} {d : DefRec}
    {K : Params → PySem.W.Frag} {CX : World → CXT} {sp : World → Sp} {x : Str}
    (hn : l.most = some n) (hn2 : n ≤ sizeLine) (hdf : d.params.defaults = []) (hr : Room k callerA) (hY : ∀ (w : World) (h : Heap), YP w h → (K w.params).In h)
    (F : ∀ (w : World) (mg : Str → Option Value) (fa : Addr) (h : Heap), (K w.params).In h → h.Ns mainGlobals mg → mg d.name = some (.ref fa) →
      ∃ fd : FuncData, (∀ (s : Shared) (u : Value), BindsTo s fd ⟨[u], []⟩ [(x, u)]) ∧
        ∀ base : Heap, (K w.params).In base → base.Ns mainGlobals mg → FnG l.prog w (K w.params) mg base (CX w) k fa fd [x] (sp w))
    (hsp : ∀ (w : World) (H : Hp) (a : Addr) (ns : List Int), ns.length ≤ n → Only H → SqL (K w.params) H a (ns.map V.int) →
      sp w [.ref a] H (fun v _ => v = .bl true) fun _ _ _ => False)
    (hCX : ∀ (w : World) (H : Hp) (s : Shared) (e : Value) (s' : Shared), CX w [] H s (fun _ _ _ => False) e s' → False) :
    PySem.W.WalkO q loose XP YP l.row.toRowW d [] (fun f vs => PySem.call f vs) := by
  refine Att.attach_call hn hdf fun w s₀ s₁ mg mb fa o pm cd doc a vs ns G Y ho hd hcd hmg hobj hints hlen hg => ?_
  have KX := hY w _ Y
  obtain ⟨fd, hb, hF⟩ := F w mg fa _ KX G.T.g hmg
  refine law_callG KX G.T.g G.T.b G.T.builtins G.T.nolimit hg hobj hints (Nat.le_trans hlen hn2) hr hF hb (fun H hO hS => ?_) fun H e s' => hCX w H s₁ e s'
  exact hsp w H a ns hlen hO hS
end L2.Vx

set_option Elab.async false
set_option linter.all false
set_option maxRecDepth 100000
set_option maxHeartbeats 2000000
namespace L2.Vx
open PySem PySem.Spec PyProof.Rows
open PySem.W (Frag)

/-! ### the facts of an error class as one Bool -/
/-- the class object itself -/
def ecB (K : Frag) (C : Addr) : Bool := match K.lookup C with
  | some ⟨.type t, _, .cls cd, sl⟩ => decide (t = "type") && (match cd.mro, sl.toList with
    | .ref D :: bm, [_, _, _, _, some (.builtin n), _] => decide (D = C) && (decide (n = "ValueError.__new__") && (!cd.hasDel && (PySem.HandSPX.refsVE bm && cd.hasDict)))
    | _, _ => false)
  | _ => false
theorem ec_ok {K : Frag} {C : Addr} (h : ecB K C = true) : ∃ nm q N bs bm sn sub ab col dd k0 k1 k2 k3 k5,
    K.lookup C = some (excClassObj nm q C N bs bm true sn sub ab col dd k0 k1 k2 k3 k5 "ValueError.__new__") ∧ PySem.HandSPX.refsVE bm = true := by
  unfold ecB at h
  split at h
  · rename_i t dd cd sl ho
    obtain ⟨h0, h⟩ := Bool.and_eq_true_iff.mp h
    split at h
    · rename_i D bm k0 k1 k2 k3 n k5 hm hs
      obtain ⟨h1, h⟩ := Bool.and_eq_true_iff.mp h
      obtain ⟨h2, h⟩ := Bool.and_eq_true_iff.mp h
      obtain ⟨h3, h⟩ := Bool.and_eq_true_iff.mp h
      obtain ⟨h4, h5⟩ := Bool.and_eq_true_iff.mp h
      have e0 := of_decide_eq_true h0
      have e1 := of_decide_eq_true h1
      have e2 := of_decide_eq_true h2
      obtain ⟨nm, bs, mro, ns, qn, hd, sn, sub, ab, col, del⟩ := cd
      dsimp only at hm h3 h4 h5
      have h3' : del = false := by simpa using h3
      subst hm h3' h5 e0 e1 e2
      have hsl : sl = #[k0, k1, k2, k3, some (.builtin "ValueError.__new__"), k5] := by
        rw [← hs]
      subst hsl
      exact ⟨nm, qn, ns, bs, bm, sn, sub, ab, col, dd, k0, k1, k2, k3, k5, ho, h4⟩
    · cases h
  · cases h
def eqV1 (a b : Option (Option Value)) : Bool := decide (a = b)
def errB (K : Frag) (C fI : Addr) : Bool :=
  ecB K C && (eqV1 (PySem.W.findIn K (.ref C) "__setattr__") (some (some (.builtin "object.__setattr__"))) &&
  (eqV1 (PySem.W.findIn K (.ref C) "__getattribute__") (some (some (.builtin "BaseException.__getattribute__"))) &&
  (eqV1 (PySem.W.findIn K (.ref C) "__getattr__") (some none) && (eqV1 (PySem.W.findIn K (.ref C) "value") (some none) &&
  (eqV1 (PySem.W.findIn K (.ref C) "__init__") (some (some (.ref fI))) && (decide (PySem.W.typeIn K (.ref fI) = some (.type "function")) &&
  (PySem.W.keepIn K (.ref C) && (decide (PySem.W.subIn K (.ref C) (.type "BaseException") = some true) &&
  (decide (PySem.W.typeIn K (.ref C) = some (.type "type")) && (PySem.W.hasDictIn K C && ((PySem.W.clsIn K C).isSome &&
  (eqV1 (PySem.W.findIn K (.ref C) "__class__") (some (some (.builtin "object.__class__"))) &&
  (eqV1 (PySem.W.specialIn K (.builtin "object.__class__") "__get__") (some (some (.builtin "getset_descriptor.__get__"))) &&
  (decide (PySem.W.takesIn K (.builtin "object.__class__") = some true) && decide (PySem.W.mroIn K C (.type "object") = some true)))))))))))))))
/-- the own __init__ of all of them -/
def InitF (K : Frag) (fI : Addr) : Prop := ∃ (oc : Value) (od : Option Addr) (kV doc pm : Value) (an : Option Addr) (cdv ct : Value)
  (osl : Array (Option Value)) (p1 p2 q1 q2 q3 q4 : Pos), K.lookup fI = some ⟨oc, od, .func (PySem.W.fnOf "__init__" "DrawError.__init__"
    (PySem.DrX.iA p1 p2) (PySem.DrX.iB q1 q2 q3 q4) PySem.DrX.iS .none kV doc pm an cdv ct), osl⟩ ∧ PySem.W.codeIn K cdv "DrawError.__init__" = true
theorem err_ok {K : Frag} {C fI : Addr} (h : errB K C fI = true) (fn : InitF K fI) : ErrT K C fI := by
  have ba := @Bool.and_eq_true_iff
  obtain ⟨h1, h⟩ := ba.mp h
  obtain ⟨h2, h⟩ := ba.mp h
  obtain ⟨h3, h⟩ := ba.mp h
  obtain ⟨h4, h⟩ := ba.mp h
  obtain ⟨h5, h⟩ := ba.mp h
  obtain ⟨h6, h⟩ := ba.mp h
  obtain ⟨h7, h⟩ := ba.mp h
  obtain ⟨h8, h⟩ := ba.mp h
  obtain ⟨h9, h⟩ := ba.mp h
  obtain ⟨h10, h⟩ := ba.mp h
  obtain ⟨h11, h⟩ := ba.mp h
  obtain ⟨h12, h⟩ := ba.mp h
  obtain ⟨h13, h⟩ := ba.mp h
  obtain ⟨h14, h⟩ := ba.mp h
  obtain ⟨h15, h16⟩ := ba.mp h
  exact { cls := ec_ok h1, sa := of_decide_eq_true h2, ga := of_decide_eq_true h3, gg := of_decide_eq_true h4, noN := of_decide_eq_true h5,
          iC := of_decide_eq_true h6, tC := of_decide_eq_true h7, kC := h8, exC := of_decide_eq_true h9, tyC := of_decide_eq_true h10, hdC := h11,
          cls' := h12, ha := of_decide_eq_true h13, hn := of_decide_eq_true h14, ht := of_decide_eq_true h15, hm := of_decide_eq_true h16, fn := fn }
/-! ### a reading, one step -/
section
variable {t u : TS} {D : Ends} {σ : St} {H : Hp} {te tv : TE} {ta : TA} {g : TG} {Q : VK} {c : TT}
theorem rd_seq (h : t { D with nx := u D } σ H) : tSeq t u D σ H := h
theorem rd_asg (h : te σ H fun x H1 => g x σ H1 D.nx) : tAsg te g D σ H := h
theorem rd_set {i : Nat} (h : te σ H fun x H1 => D.nx (σ.set i (some x)) H1) : tAsg te (gName i) D σ H := h
theorem rd_lst (h : ta σ H fun xs H1 => xs.length ≤ sizeLine ∧ ∀ p, H1 p = none → Q (.ref p) (upd H1 p (.lst xs))) : tLst ta σ H Q := h
theorem rd_tup (h : ta σ H fun xs H1 => xs.length ≤ sizeLine ∧ ∀ p, H1 p = none → Q (.ref p) (upd H1 p (.tup xs))) : tTup ta σ H Q := h
theorem rd_yes {F : Bool → Hp → Prop} {A B : Prop} (e : F true H = if true = true then A else B) (h : A) : tYes σ H F := by
  show F true H
  rw [e, if_pos rfl]
  exact h
theorem rd_drop (h : te σ H fun _ H1 => D.nx σ H1) : tDrop te D σ H := h
theorem rd_ret (h : te σ H D.rt) : tRet te D σ H := h
theorem rd_if (h : c σ H fun b H1 => if b = true then t D σ H1 else u D σ H1) : tIfS c t u D σ H := h
theorem rd_cons {tr : TA} {Q : List V → Hp → Prop} (h : te σ H fun x H1 => tr σ H1 fun xs H2 => Q (x :: xs) H2) : tCons te tr σ H Q := h
theorem rd_op {r : R2} {tb : TE} (h : te σ H fun x H1 => tb σ H1 fun y H2 => r x y H2 Q) : tOp r te tb σ H Q := h
theorem rd_cb {r : List V → Hp → VK → Prop} (h : ta σ H fun vs H1 => r vs H1 Q) : tCB r ta σ H Q := h
theorem rd_bm {K : PySem.W.Frag} {T : String} {r : V → List V → Hp → VK → Prop} (h : te σ H fun x H1 => tyV K T x H1 ∧ ta σ H1 fun xs H2 => r x xs H2 Q) : tBM K T r te ta σ H Q := h
end
/-- a class, a def as a value -/
theorem pe_ref {X : Cx} {x : Str} {a : Addr} {pos : Pos} (hm : X.mg x = some (.ref a)) (hg : Gl X x := by rfl) (hd : (x == ("__debug__" : Str)) = false := by decide) :
    PE X (.Name x pos) (tC (.ref a)) := pe_glob hg hm rfl hd
theorem same_new {H : Hp} {p : Addr} {o : HO} (h : H p = none) : Same H (upd H p o) := fun b u e => by
  rw [upd_ne (ne_of_none e h)]
  exact e
/-- what did not stand before may change -/
theorem _root_.L2.Same.mut {H H' : Hp} {p : Addr} {o : HO} (e : Same H H') (h : H p = none) : Same H (upd H' p o) := fun b u q => by
  rw [upd_ne (ne_of_none q h)]
  exact e _ _ q
end L2.Vx

set_option Elab.async false
set_option linter.all false
set_option maxRecDepth 100000
set_option maxHeartbeats 2000000
namespace L2.Vx
open PySem PySem.Spec PyProof.Rows

section
variable {X : Cx} {pins : List (Addr × Obj)} {σ : St} {H : Hp} {s : Shared}
/-- a pinned exception, new since the entry, is tracked from now on -/
theorem inv_track {a : Addr} {oe : Obj} {vs : Array Value} {cls : Value} {d : Option Addr} (I : Inv X ((a, oe) :: pins) σ H s)
    (new : X.s_0.heap.get? a = none) (hz : Zc cls d oe) (hd : oe.data = .fields vs) (ap : ∀ p ∈ X.pn ++ pins, p.1 ≠ a) :
    Inv X pins σ (upd H a (EX a cls d)) s := by
  obtain ⟨ha, na, nL, nF, ncell⟩ := I.pin (a, oe) (List.mem_append_right _ List.mem_cons_self)
  have off : ∀ {b : Addr} {o : Obj}, X.s_0.heap.get? b = some o → b ≠ a := fun {b o} e z => by
    rw [z, new] at e
    cases e
  have low : ∀ {b : Addr} {u : HO}, H b = some u → upd H a (EX a cls d) b = some u := fun {b u} e => by
    rw [upd_ne (ne_of_none e na)]
    exact e
  have pin' : ∀ p ∈ X.pn ++ pins, p ∈ X.pn ++ (a, oe) :: pins := fun p hp => by
    rcases List.mem_append.mp hp with m | m
    · exact List.mem_append_left _ m
    · exact List.mem_append_right _ (List.mem_cons_of_mem _ m)
  refine ⟨I.ok, I.os, I.bare, ⟨I.base.keep, I.base.slot, fun b o e n hx => ?_, I.base.there, fun b xs q => low (I.base.tups b xs q), fun b o u q => low (I.base.frzs b o u q), fun b ps q => ?_⟩, I.loc, I.cell, ?_, fun x c e => ?_, fun p hp => ?_, I.hok.laidN (fun _ _ e => e) na (ex_ok ha hz hd), I.len⟩
  · rw [upd_ne (off e)]
    exact I.base.free b o e n hx
  · obtain ⟨more, q'⟩ := I.base.tbls b ps q
    exact ⟨more, low q'⟩
  · rw [upd_ne (Ne.symm nL)]
    exact I.free
  · have hc : c ≠ a := fun z => by
      obtain ⟨v, o, e1, e2⟩ := I.cell x c e
      rw [z, show s.heap.get? a = some oe from ha] at e1
      cases e1
      exact ncell _ e2
    rw [upd_ne hc]
    exact I.freeC x c e
  · obtain ⟨e1, e2, e3, e4, e5⟩ := I.pin p (pin' p hp)
    exact ⟨e1, by rw [upd_ne (ap p hp)]; exact e2, e3, e4, e5⟩
end

/-- what 'except x as n: m = n' wishes of an exception of the body: slot i is n's, j is m's -/
def wHold (K : PySem.W.Frag) (c : Value) (i j : Nat) (Wout : WX) (D : Ends) : WX := fun cls d σ H =>
  ∃ b, PySem.W.exmOne K cls c = some b ∧ (b = true → ∀ a, H a = none → D.nx (((σ.set i (some (.ref a))).set j (some (.ref a))).set i none) (upd H a (EX a cls d))) ∧
    (b = false → Wout cls d σ H)
section
variable {X : Cx} {x n m : Str} {c : Value} {i j : Nat} {body : List Stmt} {np pos pos' q1 q2 q3 : Pos} {tb : WX → TS} {Wout : WX}
theorem ps_try_hold (hs : X.stack = X.env :: X.outer) (hf : X.env.frame = some X.env.locals) (hex : X.ex = []) (hN : X.N.Nodup) (hi : X.N[i]? = some n) (hj : X.N[j]? = some m)
    (hln : X.env.kindOf n = some .local) (hlm : X.env.kindOf m = some .local) (hc : Names X x c) (tk : Takes X Wout) (hdn : (n == ("__debug__" : Str)) = false := by decide) (hdc : (n == ("__classdict__" : Str)) = false := by decide)
    (hb : ∀ (W : WX) (pn : List (Addr × Obj)) (xe : Value → Shared → Prop), Takes (X.tr pn xe) W → PassesOwn (model X.prog X.w) X.A X.env xe → PSs (X.tr pn xe) body (tb W))
    (hsw : ∀ (a : Addr) (pn : List (Addr × Obj)), swapsWith (.Name n q2) (some (.Name m q1)) q3.line (X.suite a pn).env = pure false := by intro _ _; rfl) :
    PS X (.Try body [.ExceptHandler (some (.Name x np)) (some n) [.Assign [.Name m q1] (.Name n q2) q3] pos'] [] [] pos) (fun D σ H => tb (wHold X.K c i j Wout D) D σ H) := by
  refine ⟨fun pins s σ H D I h => ?_⟩
  have ok := I.ok
  have hfr : X.A.frames = some (X.env :: X.outer) := ok.frames.trans (congrArg some hs)
  have hloc : Loc X.env.scope n := .inl hln
  have hlom : Loc X.env.scope m := .inl hlm
  refine wpAny_Try_except ?_
  let hs_ : List ExceptHandler := [.ExceptHandler (some (.Name x np)) (some n) [.Assign [.Name m q1] (.Name n q2) q3] pos']
  let xe' : Value → Shared → Prop := fun e s₁ => wpAny (model X.prog X.w) X.A (noteFrame e X.env) (fun _ s₂ => wpAny (model X.prog X.w) X.A (setFlight e none) (fun _ s₃ =>
    wpAny (model X.prog X.w) X.A (handleBy e X.env hs_) (SP X pins D) X.xe s₃) X.xe s₂) X.xe s₁
  have hbody := hb (wHold X.K c i j Wout D) (X.pn ++ pins) xe' (fun u s' xx => ?_) PassesOwn.looking
  · refine wpAny_mono (hbody.run [] s σ H D (I.toTry _) h) (fun f s1 hsp => ?_) (fun e s1 he => he)
    match f, hsp with
    | .next, ⟨σ', H', J', q⟩ => exact wpAny_execs_nil ⟨σ', H', J'.ofTry ok, q⟩
    | .brk, ⟨σ', H', J', q⟩ => exact ⟨σ', H', J'.ofTry ok, q⟩
    | .cont, ⟨σ', H', J', q⟩ => exact ⟨σ', H', J'.ofTry ok, q⟩
    | .ret u, ⟨v, σ', H', J', r, q⟩ => exact ⟨v, σ', H', J'.ofTry ok, r, q⟩
  · -- caught
    obtain ⟨a, B, sI, pins', σ', H', cls, d, rfl, J', nb, up, sky, na, os, ag, b, hb1, hyes, hno⟩ := xx
    have J : Inv X pins σ' H' sI := J'.ofTry ok
    rw [hs] at sky
    show wpAny (model X.prog X.w) X.A (noteFrame (.ref a) X.env) _ _ _
    refine Sky.land Zc.steady hfr hf sky fun h3 fl3 up3 => ?_
    have J3 : Inv X pins σ' H' { s' with heap := h3 } := J.landed nb fl3.1 (up.trans up3) os ag
    obtain ⟨oe3, vs3, he3, hz3, hd3⟩ := fl3.there
    have nfr : a ∉ frs (X.env :: X.outer) := fun hm => by
      obtain ⟨_, o', e', hnf⟩ := fl3.2.2.1.mem hm
      rw [he3] at e'
      cases e'
      exact hnf _ hd3
    have nL : a ≠ X.env.locals := fun z => nfr (List.mem_filterMap.mpr ⟨X.env, List.mem_cons_self, hf.trans (congrArg some z.symm)⟩)
    have nF : a ∉ X.fs := fun hm => by
      obtain ⟨e, he, q⟩ := List.mem_filterMap.mp hm
      exact nfr (List.mem_filterMap.mpr ⟨e, List.mem_cons_of_mem _ he, q⟩)
    -- the exception is new
    have outI : sI.heap.get? a = none := by
      cases q : sI.heap.get? a with
      | none => rfl
      | some o =>
        have z := nb a o q (by rw [hs]; exact nfr)
        rw [fl3.2.1] at z
        cases z
    have new : X.s_0.heap.get? a = none := by
      cases q : X.s_0.heap.get? a with
      | none => rfl
      | some o =>
        obtain ⟨o', z⟩ := J.base.there a o q (by rw [hex]; simp)
        rw [outI] at z
        cases z
    have apart : ∀ p ∈ X.pn ++ pins, p.1 ≠ a := fun p hp z => by
      have q := (J.pin p hp).1
      rw [z, outI] at q
      cases q
    have S3 := J3.suite he3 hd3 na nL nF
    refine wpAny_handleBy_cons (codeAny_handlers_test ?_) (by intro q; cases q)
    have LT : PySem.W.Looks (model X.prog X.w) h3 (typeOf (.ref a)) cls := fun A Q E s k q => wpAny_typeOf_ref (k _ _ he3) (by rw [hz3.1]; exact q)
    have LM := PySem.W.exm_one (M := model X.prog X.w) J3.kIn LT hb1
    have test : ∀ {Q : Value → Shared → Prop} {E : Value → Shared → Prop}, Q c { s' with heap := h3 } →
        wpAny (model X.prog X.w) (X.A.mark (some (.ref a))) (eval (.Name x np) X.env) Q E { s' with heap := h3 } := by
      intro Q E q
      obtain ⟨hg, hdbg, hm | ⟨hm, hv, hnn⟩⟩ := hc
      · exact ld_glob (X := X.suite a ((a, oe3) :: (X.pn ++ pins))) S3 hg hm q hdbg
      · exact ld_blt (X := X.suite a ((a, oe3) :: (X.pn ++ pins))) S3 hg hm hv q hnn hdbg
    refine test (LM.here ?_)
    cases b with
    | true =>
      refine codeAny_handlers_suite_as ?_
      refine HandSPX.lands_againZ fl3 fun h4 fl4 up4 => ?_
      have J4 : Inv X pins σ' H' { s' with heap := h4 } := J.landed nb fl4.1 ((up.trans up3).trans up4) os ag
      obtain ⟨oe4, vs4, he4, hz4, hd4⟩ := fl4.there
      have S4 := J4.suite he4 hd4 na nL nF
      refine store_ok (X := X.suite a ((a, oe4) :: (X.pn ++ pins))) (v := .ref a) S4 hN hi hloc rfl (fun s5 S5 => ?_) (.inr hln)
      have li : i < σ'.length := by
        rw [J.len]
        exact (List.getElem?_eq_some_iff.mp hi).1
      have asg : PSs (X.suite a ((a, oe4) :: (X.pn ++ pins))) [.Assign [.Name m q1] (.Name n q2) q3] (tAsg (tVar i) (gName j)) :=
        pss_one (ps_set hN hj hlom (pe_var hi (.inl hln) hdn hdc) (hsw a _) (.inr hlm))
      refine wpAny_mono (asg.run [] s5 _ H' { nx := fun σ6 H6 => σ6 = (σ'.set i (some (.ref a))).set j (some (.ref a)) ∧ H6 = H', rt := fun _ _ => False } S5 ?_) (fun f s6 hsp => ?_) (fun _ _ z => False.elim z)
      · exact ⟨.ref a, by rw [List.getElem?_set_self li], rfl, rfl⟩
      · match f, hsp with
        | .ret u, ⟨_, _, _, _, _, z⟩ => exact z.elim
        | .brk, ⟨_, _, _, z⟩ => exact z.elim
        | .cont, ⟨_, _, _, z⟩ => exact z.elim
        | .next, ⟨σ6, H6, S6, e6, eH⟩ =>
          subst e6
          subst eH
          have J6 : Inv X ((a, oe4) :: pins) ((σ'.set i (some (.ref a))).set j (some (.ref a))) H6 s6 :=
            ⟨ok, S6.os, S6.bare, S6.base, S6.loc, S6.cell, S6.free, S6.freeC, fun p hp => S6.pin p (by
              rw [List.append_nil]
              rcases List.mem_append.mp hp with q | q
              · exact List.mem_cons_of_mem _ (List.mem_append_left _ q)
              · rcases List.mem_cons.mp q with q | q
                · rw [q]; exact List.mem_cons_self
                · exact List.mem_cons_of_mem _ (List.mem_append_right _ q)), S6.hok, S6.len⟩
          refine gone_ok J6 hN hi hln fun s7 J7 => ⟨_, _, inv_track J7 new hz4 hd4 apart, hyes rfl a na⟩
    | false =>
      show wpAny _ X.A (handleBy (.ref a) X.env []) _ _ _
      refine wpAny_handleBy_nil ?_
      obtain ⟨k1, k2, k3, oe, vs, T, oT, ts', he, hz, hd, h1, hr⟩ := id fl3
      unfold PySem.passOn
      refine wpAny_bind (wpAny_field he hd h1 ?_)
      rw [if_neg (show ¬ ((Value.ref T == Value.none) = true) from by simp)]
      have fin : wpAny (model X.prog X.w) X.A (setFlight (.ref a) X.env.frame) (fun _ s4 => wpAny (model X.prog X.w) X.A (throw (.ref a) : Sem Flow) (SP X pins D) X.xe s4) X.xe { s' with heap := h3 } := by
        rw [hf]
        refine HandSPX.setFlight_upZ fl3 fun h4 hh4 up4 => wpAny_throw (tk _ _ ?_)
        exact ⟨a, B, sI, pins, σ', H', cls, d, rfl, J, nb, (up.trans up3).trans up4, .inr (.inr (by rw [hs]; exact hh4)), na, os, ag, hno rfl⟩
      first
        | exact wpAny_bind (wpAny_pure (wpAny_bind fin))
        | exact wpAny_bind fin
end
end L2.Vx

set_option Elab.async false
set_option linter.all false
set_option maxRecDepth 100000
set_option maxHeartbeats 2000000
namespace L2.Vx
open PySem PySem.Spec PyProof.Rows
open LamX (CodeO Tabs TabS TabB ExtN LamS lamEnv lamCx lam_make2 lam_start2 lamS_by)

section
variable {X : Cx} {pins : List (Addr × Obj)} {σ : St} {H : Hp} {s : Shared}
/-- the call of a lambda that was handed in, what it raises being wished for at the slots as they stand -/
theorem pe_act2 {CXg : CXT} {Eg : XK} {Ng : List Str} {qg : Str} {sg : Scope} {g f c' : Addr} {cdg pm ctv : Value} {params : Arguments} {body : Expr} {scope : Scope} {k i : Nat} {a : Str}
    {pn : List (Addr × Obj)} {xe : Value → Shared → Prop} {W : WX} {E : XK} {tb : TE} {p1 p2 : Pos}
    (I : Inv X pins σ H s) (L : LamS X.env.scope scope)
    (hf : s.heap.get? f = some (PySem.W.kla_obj "<lambda>" (X.env.qual ++ "<lambda>") params body scope (cloFrom X.env.cells scope.names []) pm c' ctv)) (hfn : H f = none) (hfr : f ∉ frs X.stack)
    (hbind : bindArgs (PySem.W.kla_fn "<lambda>" (X.env.qual ++ "<lambda>") params body scope (cloFrom X.env.cells scope.names []) pm (.ref c') ctv) ⟨[], []⟩ = pure [])
    (tk : Takes ((cxOf CXg X.prog X.w X.K X.mg X.base Ng qg sg g cdg X.A X.stack s H Eg).tr pn xe) W) (hr : Room (k + 1) (X.A.deeper (envOfC qg sg s.heap.objs.size g cdg)))
    (hbody : ∀ (A : Around) (outer : List Env) (s : Shared) (H : Hp), Room k (A.deeper (lamEnv X scope s.heap.objs.size f c')) → PE (lamCx X A outer s H E scope f c') body tb)
    (hN : Ng[i]? = some a) (hv : Vis sg a) (hd : (a == ("__debug__" : Str)) = false := by decide) (hcd : (a == ("__classdict__" : Str)) = false := by decide) :
    PE ((cxOf CXg X.prog X.w X.K X.mg X.base Ng qg sg g cdg X.A X.stack s H Eg).tr pn xe) (.Call (.Name a p1) [] [] p2)
      (fun σZ HZ Q => (∀ cls d H', E cls d H' → W cls d σZ H') ∧ σZ[i]? = some (some (.ref f)) ∧ HZ c' = some (CodeO c' (X.env.qual ++ "<lambda>")) ∧ tb σ HZ Q) := by
  refine ⟨fun pinsZ sZ σZ HZ Q IZ h => ?_⟩
  obtain ⟨hW, hs, hc, ht⟩ := h
  have rd := (pe_var (pos := p1) (i := i) hN hv hd hcd).run pinsZ sZ σZ HZ (fun v H1 => v = .ref f ∧ H1 = HZ) IZ ⟨.ref f, hs, rfl, rfl⟩
  refine wpAny_Call_Name_kw (thn rd fun u s1 q0 => ?_)
  obtain ⟨v, H1, I1, r1, ev, eH⟩ := q0
  subst ev
  subst eH
  obtain rfl : u = Value.ref f := r1
  have of1 := I1.base.keep f _ hf hfn hfr (fun z => nomatch (show f ∈ ([] : List Addr) from z))
  refine PySem.W.callWith_F0 ⟨_, _, _, _, of1⟩ ?_
  obtain ⟨⟨oc, vs, t, hoc, hdc, hvc⟩, _, _⟩ := I1.hok c' _ hc
  have rc : codeAny (model X.prog X.w) (X.A.deeper (envOfC qg sg s.heap.objs.size g cdg)) (.call (.ref f) ⟨[], []⟩)
      (CR (L2.CX X.prog X.w) (envOfC qg sg s.heap.objs.size g cdg :: X.stack) X.prog X.w H1 s1 Q E) s1 := by
    refine PySem.W.kla_callFunE hr.depth of1 rfl L.co L.gen rfl ⟨c', oc, vs, t, rfl, hoc, hdc, hvc⟩ ?_
    rw [hbind]
    refine wpAny_pure (wpAny_newFunctionEnv (fun y hy => (L.own y hy).2) (fun y hy => absurd hy (by simp)) (fun h₁ hns hsb => ⟨I1.nolimit.fresh _ hsb, ?_⟩) L.kind)
    show codeAny _ _ (.expr body (lamEnv X scope s1.heap.objs.size f c')) _ _
    have kp : ∀ b o, s1.heap.get? b = some o → h₁.get? b = some o := fun b o e => hsb.extBut b o (Nat.ne_of_lt (Heap.lt_size e)) (Heap.get?_push_of_some _ e)
    have J := lam_start2 (E := E) (f := f) (c' := c') (tk := s1.toks + ([] : List (Str × Value)).length) I L I1.env0 hr.hd I1.base hns kp
    refine PySem.W.kla_codeExpr (wpAny_mono ((hbody _ _ s1 H1 (hr.deeper _)).run [] _ _ H1 Q J ht) (fun v s' hq => ?_) fun e s' hq => hq)
    obtain ⟨w', H', J', rv, q⟩ := hq
    exact ⟨w', H', J'.os, J'.bare, J'.base, J'.hok, rv, q⟩
  refine wpAny_call (codeAny_mono rc fun r s' hq => ?_)
  match r, hq with
  | .error e, hq => exact tk e s' (XE.of_call I1 (fun cls d H' z => hW cls d H' z) hq)
  | .ok (.ret u), hq => exact I1.after hq
  | .ok .next, hq => exact hq.elim
  | .ok .brk, hq => exact hq.elim
  | .ok .cont, hq => exact hq.elim
end
/-- the def that calls what it got; TT: what it makes of the lambda's reading -/
def Gives (X : Cx) (Ng : List Str) (x : Str) (sg : Scope) (g : Addr) (cdg : Value) (bg : List Stmt) (a : Str) (q : Str) (TT : (XK → Hp → VK → Prop) → Hp → VK → Prop) : Prop :=
  ∀ (f c' : Addr) (s : Shared) (H : Hp) (Q : VK) (tl : XK → Hp → VK → Prop),
    (∀ (W : WX) (pn : List (Addr × Obj)) (xe : Value → Shared → Prop) (E : XK) (p1 p2 : Pos), Takes ((cxOf CX0 X.prog X.w X.K X.mg X.base Ng x sg g cdg X.A X.stack s H E0).tr pn xe) W →
      PE ((cxOf CX0 X.prog X.w X.K X.mg X.base Ng x sg g cdg X.A X.stack s H E0).tr pn xe) (.Call (.Name a p1) [] [] p2)
        (fun σZ HZ Q => (∀ cls d H', E cls d H' → W cls d σZ H') ∧ σZ[0]? = some (some (.ref f)) ∧ HZ c' = some (CodeO c' q) ∧ tl E HZ Q)) →
    H c' = some (CodeO c' q) → TT tl H Q →
    ∃ t, PSs (cxOf CX0 X.prog X.w X.K X.mg X.base Ng x sg g cdg X.A X.stack s H E0).nox bg t ∧ t { nx := fun _ H' => Q .non H', rt := Q } (start Ng [.ref f]) H
def tLam2 (T : List (Addr × Str)) (TT : (XK → Hp → VK → Prop) → Hp → VK → Prop) (t : XK → TE) : TE := fun σ H Q =>
  Tabs T H ∧ ∀ H1, ExtN H H1 → Tabs T H1 → TT (fun E H' Q' => t E σ H' Q') H1 Q
section
variable {X : Cx}
/-- x(lambda: body) -/
theorem pe_lam2 {T : List (Addr × Str)} {TT : (XK → Hp → VK → Prop) → Hp → VK → Prop} {x a : Str} {g c P : Addr} {k : Nat} {pg : Arguments} {bg : List Stmt} {sg : Scope} {dV kV doc pm cdv ct oc : Value} {an od : Option Addr} {osl : Array (Option Value)} {Ng : List Str}
    {params : Arguments} {body : Expr} {scope : Scope} {t : XK → TE} {p lpos pos : Pos} (hg : Gl X x) (hm : X.mg x = some (.ref g)) (hk : PySem.W.keepIn X.K (.ref g) = true)
    (lk : X.K.lookup g = some ⟨oc, od, .func (PySem.W.fnOf x x pg bg sg dV kV doc pm an cdv ct), osl⟩) (hcg : PySem.W.codeIn X.K cdv x = true)
    (hb : Binds X.K (PySem.W.fnOf x x pg bg sg dV kV doc pm an cdv ct) [a] []) (Sg : FnScope Ng [a] sg) (hNg : Ng[0]? = some a) (hva : Vis sg a)
    (hG : Gives X Ng x sg g cdv bg a (X.env.qual ++ "<lambda>") TT)
    (TB : TabB X.base X.mg c P) (hcode : X.env.code = .ref c) (hmT : (P, X.env.qual ++ "<lambda>") ∈ T) (hu : ∀ p ∈ T, p.1 = P → p.2 = X.env.qual ++ "<lambda>") (hr : Room (k + 2) X.A) (L : LamS X.env.scope scope) (hdef : defaultsOf params X.env = ([], []))
    (hbind : ∀ (q : Str) (cl : List (Str × Addr)) (pm cv ctv : Value), bindArgs (PySem.W.kla_fn "<lambda>" q params body scope cl pm cv ctv) ⟨[], []⟩ = pure [])
    (hbody : ∀ (A : Around) (outer : List Env) (s : Shared) (H : Hp) (E : XK) (f c' : Addr), Room k (A.deeper (lamEnv X scope s.heap.objs.size f c')) → PE (lamCx X A outer s H E scope f c') body (t E))
    (hdb : (x == ("__debug__" : Str)) = false := by decide) (hd : (a == ("__debug__" : Str)) = false := by decide) (hcd : (a == ("__classdict__" : Str)) = false := by decide) :
    PE X (.Call (.Name x p) [.Lambda params body scope lpos] [] pos) (tLam2 T TT t) := by
  refine ⟨fun pins s σ H Q I h => ?_⟩
  obtain ⟨hT, h⟩ := h
  refine wpAny_Call_Name_kw (ld_glob I hg hm ?_ hdb)
  refine PySem.W.callWith_K (h₀ := X.base) I.ok.mod.kin hk ?_ (by rfl) (by rfl)
  show wpAny _ _ (spliced ((false, eval (.Lambda params body scope lpos) X.env) :: backTo pos (starEach [] X.env))) _ _ s
  refine Calls.spliced_cons (lam_make2 I TB hcode hmT hu hT hdef (L.has I.ok) fun f c' pm' ctv H1 s' I1 eN T1 hf hfn hfr hco => ?_)
  refine Calls.spliced_nil ⟨I1.kIn, ?_⟩
  have rc : codeAny (model X.prog X.w) X.A (.call (.ref g) ⟨[.ref f], []⟩) (CR CX0 X.stack X.prog X.w H1 s' Q E0) s' := by
    refine LamX.run_ofS (N := Ng) (ps := [a]) (us := [.ref f]) (vs := [.ref f]) lk hcg Sg hr I1.env0 (hb s' [.ref f] I1.kIn rfl) (.cons rfl .nil) rfl fun hr' => ?_
    have act := fun (W : WX) (pn : List (Addr × Obj)) (xe : Value → Shared → Prop) (E : XK) (p1 p2 : Pos) (tk : Takes ((cxOf CX0 X.prog X.w X.K X.mg X.base Ng x sg g cdv X.A X.stack s' H1 E0).tr pn xe) W) =>
      pe_act2 (p1 := p1) (p2 := p2) (i := 0) I1 L hf hfn hfr (hbind _ _ _ _ _) tk hr' (fun A outer s H hr2 => hbody A outer s H E f c' hr2) hNg hva hd hcd
    obtain ⟨t', ht', hq'⟩ := hG f c' s' H1 Q (fun E H' Q' => t E σ H' Q') act hco (h H1 eN T1)
    exact ⟨t', ht'.nox, hq'⟩
  refine wpAny_call (codeAny_mono rc fun r s2 hq => ?_)
  match r, hq with
  | .error e, hq => exact (show False from hq).elim
  | .ok (.ret u), hq => exact I1.after hq
  | .ok .next, hq => exact hq.elim
  | .ok .brk, hq => exact hq.elim
  | .ok .cont, hq => exact hq.elim

/-- what is wished for may be weakened -/
theorem pe_weak {e : Expr} {t : TE} (h : PE X e t) : PE X e (fun σ H Q => ∃ R : VK, (∀ v H', R v H' → Q v H') ∧ t σ H R) := by
  refine ⟨fun pins s σ H Q I hh => ?_⟩
  obtain ⟨R, hR, ht⟩ := hh
  refine thn (h.run pins s σ H R I ht) fun u s1 hu => ?_
  obtain ⟨v, H1, I1, r1, q1⟩ := hu
  exact ⟨v, H1, I1, r1, hR v H1 q1⟩
/-! ### told: the error, or what came back -/
def toldN : List Str := ["look", "caught", "back", "error"]
def toldB (a1 a2 a3 a4 a5 a6 a7 b1 b2 b3 b4 b5 c1 c2 c3 c4 c5 d1 d2 d3 d4 : Pos) : List Stmt :=
  [.Assign [.Tuple [.Name "caught" a1, .Name "back" a2] 0 a3] (.Tuple [.Constant .none 0 a4, .Constant .none 0 a5] 0 a6) a7,
   .Try [.Assign [.Name "back" b1] (.Call (.Name "look" b2) [] [] b3) b4] [.ExceptHandler (some (.Name "DrawError" c1)) (some "error") [.Assign [.Name "caught" c2] (.Name "error" c3) c4] c5] [] [] b5,
   .Return (some (.Tuple [.Name "caught" d1, .Name "back" d2] 0 d3)) d4]
def toldS : Scope := { kind := .function, names := [("look", .local), ("caught", .local), ("back", .local), ("error", .local), ("DrawError", .globalImplicit)], isGenerator := false, isCoroutine := false, more := [] }
/-- what comes of a lambda's reading -/
def TTold (K : PySem.W.Frag) (CS : Addr) : (XK → Hp → VK → Prop) → Hp → VK → Prop := fun tl H Q =>
  ∀ t, H t = none → tl (fun cls d H' => PySem.W.exmOne K cls (.ref CS) = some true ∧ ∀ a, H' a = none → ∀ p, upd H' a (EX a cls d) p = none →
      Q (.ref p) (upd (upd H' a (EX a cls d)) p (.tup [.ref a, .non]))) (upd H t (.tup [.non, .non]))
    fun v H' => ∀ p, H' p = none → Q (.ref p) (upd H' p (.tup [.non, v]))
theorem told_gives2 {q x : Str} {g CS : Addr} {cdg : Value} {a1 a2 a3 a4 a5 a6 a7 b1 b2 b3 b4 b5 c1 c2 c3 c4 c5 d1 d2 d3 d4 : Pos} (hme : X.mg "DrawError" = some (.ref CS))
    (hw : ∀ n : Nat, swappedStores [.Tuple [.Name "caught" a1, .Name "back" a2] 0 a3] (.Tuple [.Constant .none 0 a4, .Constant .none 0 a5] 0 a6) (envOfC x toldS n g cdg) = pure none) :
    Gives X toldN x toldS g cdg (toldB a1 a2 a3 a4 a5 a6 a7 b1 b2 b3 b4 b5 c1 c2 c3 c4 c5 d1 d2 d3 d4) "look" q (TTold X.K CS) := by
  intro f c' s H Q tl act hc h
  have nd : toldN.Nodup := by decide +kernel
  refine ⟨_, pss_cons (ps_asg (pe_tup (pa_cons pe_non (pa_cons pe_non pa_nil))) (pg_tup rfl (pgs_cons (pg_name (i := 1) nd rfl (Or.inl rfl)) (pgs_cons (pg_name (i := 2) nd rfl (Or.inl rfl)) pgs_nil))) (hw := hw _))
    (pss_cons (ps_try_hold (X := (cxOf CX0 X.prog X.w X.K X.mg X.base toldN x toldS g cdg X.A X.stack s H E0).nox) (c := .ref CS) (x := "DrawError") (n := "error") (m := "caught") (i := 3) (j := 1) (Wout := fun _ _ _ _ => False)
      (tb := fun W D σ H => ∃ (Ech : XK) (R : VK), (∀ v H', R v H' → D.nx (σ.set 2 (some v)) H') ∧ (∀ cls d H', Ech cls d H' → W cls d σ H') ∧ σ[0]? = some (some (.ref f)) ∧ H c' = some (CodeO c' q) ∧ tl Ech H R)
      rfl rfl rfl nd rfl rfl rfl rfl ⟨rfl, by decide, .inl hme⟩ takes0 (hb := fun W pn xe tk _ => ?_))
    (pss_one (ps_ret (pe_tup (pa_cons (pv 1) (pa_cons (pv 2) pa_nil)))))), ?_⟩
  · refine ⟨fun pins s' σ H' D I h' => ?_⟩
    obtain ⟨Ech, R, hR, hW, h1, h2, h3⟩ := h'
    have hp := pe_weak (act W pn xe Ech b2 b3 tk)
    have hq := pss_one (ps_set (pos := b4) (i := 2) (pos' := b1) nd rfl (Or.inl rfl) hp)
    exact hq.run pins s' σ H' D I ⟨R, hR, hW, h1, h2, h3⟩
  · refine ⟨(by exact (by decide : 2 ≤ sizeLine)), fun t ht => ⟨t, _, rfl, SqT.of upd_same, rfl, _, _, rfl, _, _, rfl, rfl, ?_⟩⟩
    refine ⟨fun cls d H' => PySem.W.exmOne X.K cls (.ref CS) = some true ∧ ∀ a, H' a = none → ∀ p, upd H' a (EX a cls d) p = none →
      Q (.ref p) (upd (upd H' a (EX a cls d)) p (.tup [.ref a, .non])), fun v H' => ∀ p, H' p = none → Q (.ref p) (upd H' p (.tup [.non, v])), fun v H' z => ⟨_, rfl, _, rfl, (by exact (by decide : 2 ≤ sizeLine)), fun p hp => z p hp⟩, fun cls d H' z => ?_, rfl, same_new ht _ _ hc, h t ht⟩
    obtain ⟨z1, z2⟩ := z
    exact ⟨true, z1, fun _ a ha => ⟨_, rfl, _, rfl, (by exact (by decide : 2 ≤ sizeLine)), fun p hp => z2 a ha p hp⟩, fun z => by cases z⟩
end
end L2.Vx

set_option Elab.async false
set_option linter.all false
set_option maxRecDepth 100000
set_option maxHeartbeats 2000000
namespace L2.Vx
open PySem PySem.Spec PyProof.Rows
/-! ### for n, x in enumerate(list, start) -/
def IteF (K : PySem.W.Frag) (a : Addr) (k : Int) : It :=
  ⟨fun i H => ∃ (xs : List V) (x : V), SqL K H a xs ∧ xs[i]? = some x, fun i H v H' => ∃ T x, v = .ref T ∧ H T = none ∧ H' = upd H T (.tup [.int (k + (i : Nat)), x]) ∧ ∀ xs, SqL K H a xs → xs[i]? = some x, fun i H => ∃ xs : List V, SqL K H a xs ∧ xs.length = i⟩
theorem list_enum_ne {h : Heap} {e it a : Addr} {n : Int} {old : Value} {items : Array Value} (he : IsEnum h e it n old) (hl : h.IsList a items) : e ≠ a := by
  intro z
  subst z
  obtain ⟨o, ho, hc, _⟩ := hl
  rw [Option.some.inj (ho.symm.trans he)] at hc
  injection hc with h
  exact absurd h (by decide)
theorem list_iter_ne {h : Heap} {it a : Addr} {i : Nat} {items : Array Value} (hit : h.IsListIter it a i) (hl : h.IsList a items) : a ≠ it := by
  intro z
  subst z
  obtain ⟨o, ho, hc, _⟩ := hl
  obtain ⟨o2, ho2, hc2, _⟩ := hit
  rw [Option.some.inj (ho2.symm.trans ho), hc] at hc2
  injection hc2 with h
  exact absurd h (by decide)
theorem turn_enumF {P : Program} {w : World} {K : PySem.W.Frag} {elts : List Expr} {kk : Nat} {tpos : Pos} (a e it : Addr) (k : Int) :
    Turn P w K (.Tuple elts kk tpos) (IteF K a k) [e, it] e (fun i h => (∃ old, IsEnum h e it (k + ((i : Nat) : Int)) old) ∧ h.IsListIter it a i ∧ e ≠ it) where
  mem := by simp
  obj := fun i h st b hb => by
    obtain ⟨⟨old, he⟩, ⟨o, ho, hc, hd⟩, _⟩ := st
    have e' : b = e ∨ b = it := by simpa using hb
    rcases e' with z | z
    · rw [z]; exact ⟨_, he, fun v q => nomatch q⟩
    · rw [z]; exact ⟨o, ho, fun v q => by rw [hd] at q; cases q⟩
  keep := fun i h h' st q => let ⟨⟨old, he⟩, hi, hne⟩ := st; ⟨⟨old, q e (by simp) _ he⟩, hi.at fun o r => q it (by simp) o r, hne⟩
  item := by
    intro X hP hw hK hc i pins s σ H E I hf st hg
    subst hP hw hK
    obtain ⟨⟨old, he⟩, hit, hne⟩ := st
    obtain ⟨xs, x, hq, hx⟩ := hg
    obtain ⟨its, rv, p, hz⟩ := I.list hq
    obtain ⟨u, hu, ru⟩ := rv.get hx
    have hel : e < s.heap.objs.size := Heap.lt_size he
    have hil : it < s.heap.objs.size := by obtain ⟨_, q, _⟩ := hit; exact Heap.lt_size q
    have hea := list_enum_ne he p.isList
    have hai := list_iter_ne hit p.isList
    have hlt : i < its.toArray.size := by
      have hl := rv.length
      have := (List.getElem?_eq_some_iff.mp hx).1
      rw [List.size_toArray]
      omega
    refine PySem.wpAny_pyNext_enum_itemC (Draws.list (A := X.A.in1) (I.ok.hd hc) it a hai its.toArray) he ⟨hit, p.isList⟩ hlt hne (by simp [hne, hea]) fun x1 h' tk hx1 ho st' hT hsz hk => ?_
    have hxu : x1 = u := by
      have h1 : its[i]? = some x1 := by simpa using hx1
      exact Option.some.inj (h1.symm.trans hu)
    subst hxu
    refine ⟨_, rfl, wpAny_letOwnedTupleGo_enum (s := { s with heap := h', toks := tk + 1 }) ho fun h'' he' sb => ?_⟩
    have hT2 : h''.get? s.heap.objs.size = some { cls := .type "tuple", data := .seq #[.int (k + (i : Int)) tk, x1] } := (sb.2 _ (Nat.ne_of_gt hel)).trans hT
    have new : ObjOk X.prog X.w (upd H s.heap.objs.size (.tup [.int (k + (i : Nat)), x])) h'' s.heap.objs.size (.tup [.int (k + (i : Nat)), x]) :=
      ⟨by show 2 ≤ sizeLine; decide, [.int (k + (i : Int)) tk, x1], .cons ⟨_, rfl⟩ (.cons ru .nil), ⟨_, hT2, rfl, _, rfl⟩⟩
    have I1 : Inv X pins σ (upd H s.heap.objs.size (.tup [.int (k + (i : Nat)), x])) { s with heap := h'', toks := tk + 1 } :=
      I.turnedNew (ch := [e, it]) (fun b ob hb q => (sb.2 b (fun z => hb (by simp [z]))).trans (hk b ob (fun z => hb (by simp [z])) (fun z => hb (by simp [z])) q)) hf (Nat.le_refl _) new
    refine ⟨.ref s.heap.objs.size, _, I1, rfl, ⟨_, x, rfl, I.hok.fresh (Nat.le_refl _), rfl, fun ys hy => by rw [I.list_inj hy hq]; exact hx⟩, ⟨⟨x1, ?_⟩, st'.1.at fun o q => (sb.2 it (Ne.symm hne)).trans q, hne⟩, fun b hb => ?_⟩
    · have e1 : k + ((i + 1 : Nat) : Int) = k + (i : Int) + 1 := by omega
      rw [e1]; exact he'
    · have hb' : b < s.heap.objs.size := by
        have e' : b = e ∨ b = it := by simpa using hb
        rcases e' with z | z
        · rw [z]; exact hel
        · rw [z]; exact hil
      rw [upd_ne (Nat.ne_of_lt hb')]
      exact (hf b hb).1
  done := by
    intro X hP hw hK hc i pins s σ H E I hf st hg
    subst hP hw hK
    obtain ⟨⟨old, he⟩, hit, hne⟩ := st
    obtain ⟨xs, hq, hx⟩ := hg
    obtain ⟨its, rv, p, hz⟩ := I.list hq
    obtain ⟨f0, f1, f2, f3, f4, f5⟩ := hf it (by simp)
    have hl := rv.length
    have hn : its.toArray.size = i := by
      rw [List.size_toArray]
      omega
    have hst : s.heap.IsListIter it a its.toArray.size := by rw [hn]; exact hit
    exact wpAny_pyNext_enum_endD (Draws.list (A := X.A.in1) (I.ok.hd hc) it a (list_iter_ne hit p.isList) its.toArray) he ⟨hst, p.isList⟩ fun h' eb => ⟨rfl, I.turned (t' := s.toks) (fun b o hb q => eb b o hb q) f0 f1 f3 f4 f5⟩
  self := fun A i s Q E st h => let ⟨⟨_, he⟩, _⟩ := st; wpAny_pyIter_enum he h
def iEnumF (K : PySem.W.Frag) (ta : TA) : TI := fun σ H R => ta σ H fun vs H1 => ∃ a xs k, vs = [.ref a, .int k] ∧ SqL K H1 a xs ∧ 0 ≤ k ∧ k < 2 ^ 62 ∧ R (IteF K a k) H1
theorem pi_enumF {X : Cx} {e e2 : Expr} {ta : TA} {p pos tpos : Pos} {elts : List Expr} {kk : Nat} (hg : Gl X "enumerate") (hm : X.mg "enumerate" = none) (ha : PA X [e, e2] ta)
    (hs : starEach [e, e2] X.env = (false, eval e X.env) :: starEach [e2] X.env := by rfl) (hpl : (backTo pos (starEach [e2] X.env)).any (·.1) = false := by rfl) :
    PI X (.Tuple elts kk tpos) (.Call (.Name "enumerate" p) [e, e2] [] pos) (iEnumF X.K ta) := by
  refine ⟨fun pins s σ H R I h => ?_⟩
  refine Call_ (ld_blt I hg hm boot_enumerate (PyProof.Rows.callWith_type1 (thn (ha.run pos pins s σ H _ I h) fun us s1 ⟨vs, H1, I1, r1, q1⟩ => ?_) hs hpl))
  obtain ⟨a, xs, k, ex, hq, k0, k1, q⟩ := q1
  subst ex
  cases r1 with
  | cons r rr =>
    cases rr with
    | cons r2 rr =>
    cases rr
    cases r
    obtain ⟨t, rfl⟩ := r2
    obtain ⟨its, rv, p', hz⟩ := I1.list hq
    refine enum_begins (begins_list a its.toArray) p'.isList (by omega) (by omega) fun h' he hit hsz hk => wpAny_pyIter_enum he ?_
    have I2 : Inv X pins σ H1 { s1 with heap := h' } := I1.kept (t' := s1.toks) hk
    refine ⟨s1.heap.objs.size + 1, [s1.heap.objs.size + 1, s1.heap.objs.size], _, _, H1, rfl, I2, turn_enumF a (s1.heap.objs.size + 1) s1.heap.objs.size k, ⟨⟨.none, ?_⟩, ⟨_, hit, rfl, rfl⟩, Nat.succ_ne_self _⟩, fun b hb => ?_, q⟩
    · have e1 : k + ((0 : Nat) : Int) = k := by omega
      rw [e1]
      exact he
    have e' : b = s1.heap.objs.size + 1 ∨ b = s1.heap.objs.size := by simpa using hb
    have hle : s1.heap.objs.size ≤ b := by
      rcases e' with z | z
      · rw [z]; exact Nat.le_add_right _ _
      · rw [z]; exact Nat.le_refl _
    exact I1.fpOk hle (I1.hok.fresh hle)
theorem walk_enumF {K : PySem.W.Frag} {a : Addr} {xs : List V} {k : Int} : Walk (IteF K a k) xs.length (fun H => SqL K H a xs) (YPair (fun i => some (.int (k + (i : Nat)))) (fun i => xs[i]?)) := by
  refine ⟨fun i _ hi q => ⟨xs, xs[i], q, by simp [hi]⟩, fun _ q => ⟨xs, q, rfl⟩, fun i H v H' _ q y => ?_⟩
  obtain ⟨T, x, h1, h2, h3, h4⟩ := y
  exact ⟨T, .int (k + (i : Nat)), x, h1, h2, h3, rfl, h4 xs q⟩
end L2.Vx

set_option Elab.async false
set_option linter.all false
set_option maxRecDepth 100000
set_option maxHeartbeats 2000000
namespace L2.Vx
open PySem PySem.Spec PyProof.Rows
open TL (tl spl pre)
/-! ### a text, cut at one sign -/
def cutAt (s : Nat) : List Nat → List Nat → List (List Nat)
  | acc, [] => [acc]
  | acc, c :: r => if c = s then acc :: cutAt s [] r else cutAt s (acc ++ [c]) r
theorem pre_one (s c : Nat) (r : List Nat) : pre [s] (c :: r) = decide (c = s) := by
  unfold TL.pre
  rw [Bool.eq_iff_iff]
  simp
theorem spl_cut (s : Nat) : ∀ (l acc : List Nat), spl [s] 0 acc l = cutAt s acc l
  | [], acc => by
    unfold TL.spl cutAt
    rfl
  | c :: r, acc => by
    unfold TL.spl cutAt
    rw [pre_one]
    by_cases h : c = s
    · rw [if_pos (decide_eq_true h), if_pos h, ← spl_cut s r []]
      rfl
    · rw [if_neg (by rw [decide_eq_false h]; decide), if_neg h, spl_cut s r]
theorem split_cut (z : Str) {s : Nat} (hs : s < 256) : (Txt.split z ⟨#[s]⟩).map tl = cutAt s [] (tl z) := by
  rw [TL.split_spl z ⟨#[s]⟩ (by simp [tl]) (TL.kind_ok (by simpa using hs))]
  exact spl_cut s _ _
/-- put together again -/
def glue (s : Nat) : List (List Nat) → List Nat
  | [] => []
  | [p] => p
  | p :: q :: r => p ++ s :: glue s (q :: r)
theorem cut_ne (s : Nat) : ∀ (l acc : List Nat), cutAt s acc l ≠ []
  | [], acc => by unfold cutAt; simp
  | c :: r, acc => by
    unfold cutAt
    split
    · simp
    · exact cut_ne s r _
theorem glue_cons {s : Nat} {p : List Nat} {q : List (List Nat)} (h : q ≠ []) : glue s (p :: q) = p ++ s :: glue s q := by
  cases q with
  | nil => exact absurd rfl h
  | cons a b => rfl
theorem glue_cut (s : Nat) : ∀ (l acc : List Nat), glue s (cutAt s acc l) = acc ++ l
  | [], acc => by unfold cutAt glue; simp
  | c :: r, acc => by
    unfold cutAt
    split
    · rename_i h
      rw [glue_cons (cut_ne s r []), glue_cut s r [], h]
      rfl
    · rw [glue_cut s r]
      simp
theorem split_ne (z : Str) {s : Nat} (hs : s < 256) : Txt.split z ⟨#[s]⟩ ≠ [] := fun e => by
  have h := split_cut z hs
  rw [e] at h
  exact cut_ne s _ _ h.symm
theorem split_glue (z : Str) {s : Nat} (hs : s < 256) : glue s ((Txt.split z ⟨#[s]⟩).map tl) = tl z := by
  rw [split_cut z hs, glue_cut]
  rfl
theorem split_inj {x y : Str} {s : Nat} (hs : s < 256) (h : Txt.split x ⟨#[s]⟩ = Txt.split y ⟨#[s]⟩) : x = y :=
  TL.ext_tl (by rw [← split_glue x hs, ← split_glue y hs, h])
theorem glue_len (s : Nat) : ∀ (ps : List (List Nat)), ∀ p ∈ ps, p.length ≤ (glue s ps).length
  | [], _, h => by cases h
  | [q], p, h => by
    rw [List.mem_singleton.mp h]
    exact Nat.le_refl _
  | a :: b :: r, p, h => by
    have ih := glue_len s (b :: r)
    show p.length ≤ (a ++ s :: glue s (b :: r)).length
    rw [List.length_append, List.length_cons]
    rcases List.mem_cons.mp h with rfl | h
    · omega
    · have := ih p h
      omega
theorem glue_count (s : Nat) : ∀ (ps : List (List Nat)), ps.length ≤ (glue s ps).length + 1
  | [] => Nat.zero_le _
  | [q] => by show 1 ≤ _; omega
  | a :: b :: r => by
    have ih := glue_count s (b :: r)
    show (b :: r).length + 1 ≤ (a ++ s :: glue s (b :: r)).length + 1
    simp only [List.length_append, List.length_cons] at ih ⊢
    omega
theorem split_len (z : Str) {s : Nat} (hs : s < 256) : (Txt.split z ⟨#[s]⟩).length ≤ z.length + 1 := by
  have h := glue_count s ((Txt.split z ⟨#[s]⟩).map tl)
  rw [split_glue z hs, List.length_map] at h
  rw [TL.len_tl]
  exact h
theorem split_part {z p : Str} {s : Nat} (hs : s < 256) (h : p ∈ Txt.split z ⟨#[s]⟩) : p.length ≤ z.length := by
  have h1 := glue_len s ((Txt.split z ⟨#[s]⟩).map tl) (tl p) (List.mem_map.mpr ⟨p, h, rfl⟩)
  rw [split_glue z hs] at h1
  rw [TL.len_tl, TL.len_tl]
  exact h1
/-! ### a test's answer, turned about -/
theorem nt {p : Prop} [Decidable p] (h : p) : ¬ (!decide p) = true := by rw [decide_eq_true h]; decide
theorem nf {p : Prop} [Decidable p] (h : ¬ p) : (!decide p) = true := by rw [decide_eq_false h]; rfl
theorem rd_nx {D : Ends} {σ : St} {H : Hp} (h : D.nx σ H) : tNext D σ H := h
theorem inV_str (x : Str) (ys : List Str) : inV (.str x) (ys.map V.str) = decide (x ∈ ys) := by
  unfold inV
  rw [Bool.eq_iff_iff, List.any_eq_true, decide_eq_true_iff]
  constructor
  · rintro ⟨v, hv, e⟩
    obtain ⟨y, hy, rfl⟩ := List.mem_map.mp hv
    have : y = x := by simpa [eqV] using e
    exact this ▸ hy
  · intro h
    exact ⟨.str x, List.mem_map.mpr ⟨x, h, rfl⟩, by simp [eqV]⟩
theorem flat_strs (ys : List Str) : (ys.map V.str).all flatV = true := by
  rw [List.all_eq_true]
  intro v hv
  obtain ⟨y, _, rfl⟩ := List.mem_map.mp hv
  rfl
end L2.Vx

set_option Elab.async false
set_option linter.all false
set_option maxRecDepth 100000
set_option maxHeartbeats 2000000
namespace L2.Vx
open PySem PySem.Spec PyProof.Rows
/-! ### data that are newly made -/
/-- what stands in H' and did not in H -/
def nw (H H' : Hp) : Hp := fun a => match H a with
  | none => H' a
  | some _ => none
theorem nw_at {H H' : Hp} {a : Addr} (h : H a = none) : nw H H' a = H' a := by
  unfold nw
  rw [h]
theorem nw_old {H H' : Hp} {a : Addr} {o : HO} (h : H a = some o) : nw H H' a = none := by
  unfold nw
  rw [h]
theorem nw_up {H H1 H2 : Hp} (s : Same H1 H2) : Same (nw H H1) (nw H H2) := fun b o e => by
  cases h : H b with
  | some u => rw [nw_old h] at e; cases e
  | none =>
    rw [nw_at h] at e ⊢
    exact s _ _ e
theorem nw_in {H H1 H2 : Hp} (s : Same H H1) : Same (nw H1 H2) (nw H H2) := fun b o e => by
  cases h : H1 b with
  | some u => rw [nw_old h] at e; cases e
  | none =>
    rw [nw_at h] at e
    rw [nw_at (s.free h)]
    exact e
theorem nw_le {H H' : Hp} : Same (nw H H') H' := fun b o e => by
  cases h : H b with
  | some u => rw [nw_old h] at e; cases e
  | none =>
    rw [nw_at h] at e
    exact e
theorem _root_.L2.Same.tup {K : PySem.W.Frag} {H H' : Hp} {a : Addr} {xs : List V} (k : Same H H') (h : SqT K H a xs) : SqT K H' a xs := by
  rcases h with (h | ⟨o, h⟩) | h
  · exact .inl (.inl (k _ _ h))
  · exact .inl (.inr ⟨o, k _ _ h⟩)
  · exact .inr h
mutual
theorem Dd_keep {K : PySem.W.Frag} {H H' : Hp} (k : Same H H') : ∀ {x : V} {d : PyData}, Dd K H x d → Dd K H' x d
  | _, _, .non => .non
  | _, _, .bl b => .bl b
  | _, _, .int i => .int i
  | _, _, .str x => .str x
  | _, _, .lst h t => .lst (k.seq h) (ddAll_keep k t)
  | _, _, .tup h t => .tup (k.tup h) (ddAll_keep k t)
  | _, _, .dct h t => .dct (k _ _ h) (ddAll_keep k t)
theorem ddAll_keep {K : PySem.W.Frag} {H H' : Hp} (k : Same H H') : ∀ {xs : List V} {ds : List PyData}, DdAll K H xs ds → DdAll K H' xs ds
  | _, _, .nil => .nil
  | _, _, .cons h t => .cons (Dd_keep k h) (ddAll_keep k t)
end
/-- an expression that makes the data d -/
def GD (K : PySem.W.Frag) (te : TE) (d : PyData) : Prop := ∀ (σ : St) (H : Hp) (Q : VK), (∀ v H', Same H H' → Dd K (nw H H') v d → Q v H') → te σ H Q
def GA (K : PySem.W.Frag) (ta : TA) (ds : List PyData) : Prop := ∀ (σ : St) (H : Hp) (Q : List V → Hp → Prop), (∀ vs H', Same H H' → DdAll K (nw H H') vs ds → Q vs H') → ta σ H Q
section
variable {K : PySem.W.Frag} {te : TE} {ta : TA} {d : PyData} {ds : List PyData}
theorem gd_const {v : V} (h : ∀ H, Dd K H v d) : GD K (tC v) d := fun σ H Q q => q v H (Same.refl H) (h _)
theorem ga_nil : GA K tNil [] := fun σ H Q q => q [] H (Same.refl H) .nil
theorem ga_cons (h : GD K te d) (t : GA K ta ds) : GA K (tCons te ta) (d :: ds) := fun σ H Q q =>
  h σ H _ fun v H1 s1 g1 => t σ H1 _ fun vs H2 s2 g2 => q (v :: vs) H2 (s1.trans s2) (.cons (Dd_keep (nw_up s2) g1) (ddAll_keep (nw_in s1) g2))
theorem ddAll_len {H : Hp} : ∀ {vs : List V} {ds : List PyData}, DdAll K H vs ds → vs.length = ds.length
  | _, _, .nil => rfl
  | _, _, .cons _ t => congrArg Nat.succ (ddAll_len t)
theorem gd_lst (h : GA K ta ds) (hl : ds.length ≤ 1000) : GD K (tLst ta) (.list ds) := fun σ H Q q => h σ H _ fun vs H1 s1 g => by
  refine ⟨Nat.le_trans (by rw [ddAll_len g]; exact hl) (by decide), fun p hp => ?_⟩
  refine q (.ref p) _ (s1.trans (same_new hp)) (.lst (SqL.of (by rw [nw_at (s1.free hp)]; exact upd_same)) (ddAll_keep (nw_up (same_new hp)) g))
theorem gd_tup (h : GA K ta ds) (hl : ds.length ≤ 1000) : GD K (tTup ta) (.tuple ds) := fun σ H Q q => h σ H _ fun vs H1 s1 g => by
  refine ⟨Nat.le_trans (by rw [ddAll_len g]; exact hl) (by decide), fun p hp => ?_⟩
  refine q (.ref p) _ (s1.trans (same_new hp)) (.tup (SqT.of (by rw [nw_at (s1.free hp)]; exact upd_same)) (ddAll_keep (nw_up (same_new hp)) g))
theorem gd_dnew : GD K tDNewK (.dict []) := fun σ H Q q p hp => q (.ref p) _ (same_new hp) (.dct (kvs := []) (by rw [nw_at hp]; exact upd_same) .nil)
/-- no text -/
def NoStr (K : PySem.W.Frag) (H : Hp) (v : V) : Prop := ∃ n : String, TyX K H v (.type n) ∧ kitB n "str" = some false
def isS : PyData → Bool
  | .str _ => true
  | _ => false
theorem tyX_list {H : Hp} {a : Addr} {xs : List V} (h : SqL K H a xs) : TyX K H (.ref a) (.type "list") := by
  rcases h with (h | ⟨o, h⟩) | ⟨o, its, n, h1, h2, _⟩
  · exact .base (.lst h)
  · exact .base (.frz h)
  · exact .kList h1 h2
theorem tyX_tup {H : Hp} {a : Addr} {xs : List V} (h : SqT K H a xs) : TyX K H (.ref a) (.type "tuple") := by
  rcases h with (h | ⟨o, h⟩) | ⟨o, its, n, h1, h2, _⟩
  · exact .base (.tup h)
  · exact .fTuple h
  · exact .kTuple h1 h2
theorem noStr_of {H : Hp} {v : V} {d : PyData} (h : Dd K H v d) (hs : isS d = false) : NoStr K H v := by
  cases h with
  | non => exact ⟨_, .base .non, by decide +kernel⟩
  | bl b => exact ⟨_, .base (.bl b), by decide +kernel⟩
  | int i => exact ⟨_, .base (.int i), by decide +kernel⟩
  | str x => cases hs
  | lst h t => exact ⟨_, tyX_list h, by decide +kernel⟩
  | tup h t => exact ⟨_, tyX_tup h, by decide +kernel⟩
  | dct h t => exact ⟨_, .base (.dK h), by decide +kernel⟩
end
end L2.Vx

set_option Elab.async false
set_option linter.all false
set_option maxRecDepth 100000
set_option maxHeartbeats 2000000
namespace L2.Vx
open PySem PySem.Spec PyProof.Rows
open TL (tl joinL)
/-! ### how long lists of texts are, put together -/
def tot (ys : List Str) : Nat := (ys.map fun y => y.length + 1).sum
theorem tot_nil : tot [] = 0 := rfl
theorem tot_cons (y : Str) (ys : List Str) : tot (y :: ys) = y.length + 1 + tot ys := by
  unfold tot
  rw [List.map_cons, List.sum_cons]
theorem tot_append : ∀ (a b : List Str), tot (a ++ b) = tot a + tot b
  | [], b => by rw [List.nil_append, tot_nil, Nat.zero_add]
  | x :: a, b => by rw [List.cons_append, tot_cons, tot_cons, tot_append a b]; omega
theorem tot_take (ys : List Str) (n : Nat) : tot (ys.take n) ≤ tot ys := by
  have := tot_append (ys.take n) (ys.drop n)
  rw [List.take_append_drop] at this
  omega
theorem tot_drop (ys : List Str) (n : Nat) : tot (ys.drop n) ≤ tot ys := by
  have := tot_append (ys.take n) (ys.drop n)
  rw [List.take_append_drop] at this
  omega
theorem tot_cut (ys : List Str) (n : Nat) : tot (ys.take n) + tot (ys.drop n) = tot ys := by
  have := tot_append (ys.take n) (ys.drop n)
  rw [List.take_append_drop] at this
  omega
theorem tot_mem : ∀ {ys : List Str} {y : Str}, y ∈ ys → y.length + 1 ≤ tot ys
  | x :: ys, y, h => by
    rw [tot_cons]
    rcases List.mem_cons.mp h with rfl | h
    · omega
    · have := tot_mem h
      omega
theorem tot_erase : ∀ (ys : List Str) (n : Nat), tot (ys.eraseIdx n) ≤ tot ys
  | [], _ => by simp
  | y :: ys, 0 => by rw [List.eraseIdx_cons_zero, tot_cons]; omega
  | y :: ys, n + 1 => by
    rw [List.eraseIdx_cons_succ, tot_cons, tot_cons]
    have := tot_erase ys n
    omega
theorem tot_erase_at : ∀ (ys : List Str) (n : Nat) (y : Str), ys[n]? = some y → tot (ys.eraseIdx n) + (y.length + 1) = tot ys
  | [], _, _, h => by simp at h
  | x :: ys, 0, y, h => by
    simp at h
    subst h
    rw [List.eraseIdx_cons_zero, tot_cons]; omega
  | x :: ys, n + 1, y, h => by
    rw [List.eraseIdx_cons_succ, tot_cons, tot_cons]
    have := tot_erase_at ys n y (by simpa using h)
    omega
theorem tot_set : ∀ (ys : List Str) (n : Nat) (v : Str), tot (ys.set n v) ≤ tot ys + v.length
  | [], _, _ => by simp [tot_nil]
  | y :: ys, 0, v => by rw [List.set_cons_zero, tot_cons, tot_cons]; omega
  | y :: ys, n + 1, v => by
    rw [List.set_cons_succ, tot_cons, tot_cons]
    have := tot_set ys n v
    omega
theorem tot_len (ys : List Str) : ys.length ≤ tot ys := by
  induction ys with
  | nil => simp
  | cons y ys ih =>
    rw [List.length_cons, tot_cons]
    omega
theorem tot_sum (ys : List Str) {a : Str} (ha : a.length = 1) : (ys.map (·.length)).sum + ys.length * a.length = tot ys := by
  rw [ha, Nat.mul_one]
  induction ys with
  | nil => rfl
  | cons y ys ih =>
    rw [List.map_cons, List.sum_cons, List.length_cons, tot_cons, ← ih]
    omega
theorem joinL_len (s : List Nat) (hs : s.length = 1) : ∀ ys : List Str, (joinL s (ys.map tl)).length ≤ tot ys
  | [] => by simp [joinL]
  | [y] => by
    show (tl y).length ≤ tot [y]
    rw [tot_cons, ← TL.len_tl]
    omega
  | x :: y :: r => by
    show (tl x ++ (s ++ joinL s ((y :: r).map tl))).length ≤ _
    have ih := joinL_len s hs (y :: r)
    rw [List.length_append, List.length_append, hs, tot_cons, ← TL.len_tl]
    omega
theorem join_tot {a : Str} (ha : a.length = 1) (ys : List Str) : (Txt.join a ys).length ≤ tot ys := by
  rw [TL.join_eq, TL.len_tl, TL.tl_join]
  exact joinL_len _ (by rw [← TL.len_tl]; exact ha) ys
theorem glue_tot (s : Nat) : ∀ (ys : List Str), ys ≠ [] → tot ys = (glue s (ys.map tl)).length + 1
  | [], h => absurd rfl h
  | [y], _ => by
    show tot [y] = (tl y).length + 1
    rw [tot_cons, tot_nil, ← TL.len_tl]
  | x :: y :: r, _ => by
    show tot (x :: y :: r) = (tl x ++ s :: glue s ((y :: r).map tl)).length + 1
    rw [tot_cons, glue_tot s (y :: r) (by simp), List.length_append, List.length_cons, ← TL.len_tl]
    omega
theorem split_tot (z : Str) {s : Nat} (hs : s < 256) : tot (Txt.split z ⟨#[s]⟩) = z.length + 1 := by
  rw [glue_tot s _ (split_ne z hs), split_glue z hs, ← TL.len_tl]
end L2.Vx

set_option Elab.async false
set_option linter.all false
set_option maxRecDepth 100000
set_option maxHeartbeats 0
namespace L2.K06
open PySem PySem.Spec PyProof.Rows L2.Vx
open PySem.W (Frag)
def top (i : Nat) : Stmt := PySem.Challenge.pw_wobblesnap_k06_whole_lines_of_no_book.main.body.getD i (.Pass ⟨0, 0, 0, 0⟩)
abbrev sDErr : Stmt := inClass (top 1) 0
abbrev sCons : Stmt := top 7
abbrev sNum : Stmt := top 8
abbrev sBook : Stmt := inClass (top 12) 0
abbrev sAmong : Stmt := top 13
abbrev sRules : Stmt := top 14
abbrev sRule : Stmt := top 15
abbrev sPot : Stmt := top 17
abbrev sTake : Stmt := top 18
abbrev sOf : Stmt := top 19
abbrev sSome : Stmt := top 20
abbrev sCells : Stmt := top 21
abbrev sTold : Stmt := top 22
abbrev sOdd : Stmt := top 23
abbrev sSomeB : Stmt := top 24
abbrev sText : Stmt := top 25
abbrev sNumOf : Stmt := top 26
abbrev sDue : Stmt := top 27
abbrev sSpoilt : Stmt := top 28
abbrev sRead : Stmt := top 29
abbrev sLaw : Stmt := top 30
end L2.K06

set_option Elab.async false
set_option linter.all false
set_option maxRecDepth 100000
set_option maxHeartbeats 4000000
namespace L2.K06
open PySem PySem.Spec PyProof.Rows L2.Vx
open PySem.W (Frag)
/-! ### heaps in which one list may change -/
/-- all but what stands at p is as it was -/
def But (p : Addr) (H H' : Hp) : Prop := ∀ b o, b ≠ p → H b = some o → H' b = some o
theorem But.refl (p : Addr) (H : Hp) : But p H H := fun _ _ _ e => e
theorem But.trans {p : Addr} {H H1 H2 : Hp} (a : But p H H1) (b : But p H1 H2) : But p H H2 := fun c o n e => b c o n (a c o n e)
theorem But.of {p : Addr} {H H' : Hp} (s : Same H H') : But p H H' := fun b o _ e => s b o e
theorem But.upd {p : Addr} {H : Hp} {o : HO} : But p H (upd H p o) := fun b u n e => by
  rw [upd_ne n]
  exact e
theorem But.seq {p a : Addr} {K : Frag} {H H' : Hp} {xs : List V} (k : But p H H') (n : a ≠ p) (h : SqL K H a xs) : SqL K H' a xs := by
  rcases h with (h | ⟨o, h⟩) | h
  · exact .inl (.inl (k _ _ n h))
  · exact .inl (.inr ⟨o, k _ _ n h⟩)
  · exact .inr h
theorem But.tup {p a : Addr} {K : Frag} {H H' : Hp} {xs : List V} (k : But p H H') (n : a ≠ p) (h : SqT K H a xs) : SqT K H' a xs := by
  rcases h with (h | ⟨o, h⟩) | h
  · exact .inl (.inl (k _ _ n h))
  · exact .inl (.inr ⟨o, k _ _ n h⟩)
  · exact .inr h
theorem But.free {p b : Addr} {H H' : Hp} {o : HO} (k : But p H H') (h : H' b = none) (hp : H' p = some o) : H b = none := by
  cases e : H b with
  | none => rfl
  | some u =>
    have n : b ≠ p := fun z => by rw [z, hp] at h; cases h
    rw [k b u n e] at h
    cases h
/-- a pot of draws, of which not more than k mixed numbers have come -/
def Pot (H : Hp) (p : Addr) (k : Int) : Prop := ∃ own b c : Int, H p = some (.lst [.int own, .int b, .int c]) ∧ 0 ≤ own ∧ 0 ≤ b ∧ b < 2305843009213693921 ∧ 0 ≤ c ∧ c ≤ k
theorem Pot.same {H H' : Hp} {p : Addr} {k : Int} (h : Pot H p k) (s : Same H H') : Pot H' p k := by
  obtain ⟨o, b, c, e, r⟩ := h
  exact ⟨o, b, c, s _ _ e, r⟩
theorem Pot.mono {H : Hp} {p : Addr} {k j : Int} (h : Pot H p k) (l : k ≤ j) : Pot H p j := by
  obtain ⟨o, b, c, e, r1, r2, r3, r4, r5⟩ := h
  exact ⟨o, b, c, e, r1, r2, r3, r4, by omega⟩
theorem Pot.ne {H : Hp} {p a : Addr} {k : Int} (h : Pot H p k) (e : H a = none) : a ≠ p := by
  obtain ⟨o, b, c, e', _⟩ := h
  exact fun z => by rw [z, e'] at e; cases e
theorem Pot.some {H : Hp} {p : Addr} {k : Int} (h : Pot H p k) : ∃ o, H p = some o := by
  obtain ⟨o, b, c, e', _⟩ := h
  exact ⟨_, e'⟩
theorem op_powW {X : Cx} : OpR X (binaryOp .Pow) (rI (fun i j => 0 ≤ j ∧ (Builtin.Int.intBits i : Int) * j ≤ 2 ^ 27) fun i j => .int (i ^ j.toNat)) :=
  opI fun _ _ _ _ _ _ _ hc q => pow_int hc.1 hc.2 q
/-- the built-in names that the draws call -/
structure Dx (mg : Str → Option Value) : Prop where
  len : mg "len" = none
  abs : mg "abs" = none
  int : mg "int" = none
  max : mg "max" = none
  min : mg "min" = none
  range : mg "range" = none
  list : mg "list" = none
abbrev FD (K : Frag) (x : Str) (st : Stmt) (f : Addr) (fd : FuncData) : Prop := Fun K x x st f fd
def spPot (K : Frag) : Sp := fun vs H Q _ => ∃ (a : Addr) (ns : List Int) (i : Int), vs = [.ref a, .int i] ∧ SqL K H a (ns.map V.int) ∧ ns.length ≤ 63 ∧ 0 ≤ i ∧ i ≤ 63 ∧
  ∀ H' p, Same H H' → H p = none → Pot H' p 0 → Q (.ref p) H'
def spTake : Sp := fun vs H Q _ => ∃ (p : Addr) (n k : Int), vs = [.ref p, .int n] ∧ 0 < n ∧ n ≤ 1000 ∧ k < 1000000 ∧ Pot H p k ∧
  ∀ H' i, But p H H' → Pot H' p (k + 1) → 0 ≤ i → i < n → Q (.int i) H'
def spOf (K : Frag) : Sp := fun vs H Q _ => ∃ (p l : Addr) (xs : List V) (k : Int), vs = [.ref p, .ref l] ∧ l ≠ p ∧ SqL K H l xs ∧ 0 < xs.length ∧ xs.length ≤ 1000 ∧ k < 1000000 ∧ Pot H p k ∧
  ∀ H' v, But p H H' → Pot H' p (k + 1) → v ∈ xs → Q v H'
theorem pow_pos1 : (0 : Int) < (10 ^ Int.toNat 60) ^ Int.toNat 5 := by decide +kernel
theorem bit_small (b : Bool) : -(2 ^ 64 : Int) < (if b = true then (1 : Int) else 0) ∧ (if b = true then (1 : Int) else 0) < 2 ^ 64 := by cases b <;> decide
theorem sq_small {c : Int} (h0 : 0 ≤ c) (h : c ≤ 1000000) : 100069 * c * c ≤ 100069000000000000 ∧ 0 ≤ 100069 * c * c := by
  have h1 : c * c ≤ 1000000 * 1000000 := Int.mul_le_mul h h h0 (by decide)
  have h2 : 0 ≤ c * c := Int.mul_nonneg h0 h0
  rw [Int.mul_assoc]
  omega
/-- the primes -/
abbrev primes : List V := [.int 2147483647, .int 2147483629, .int 2147483587, .int 2147483579, .int 2147483563]
theorem prime_at {i : Int} (h0 : 0 ≤ i) (h1 : i < 5) : ∃ q, atI primes i = some (.int q) ∧ 0 < q ∧ q < 2147483648 := by
  have h : i = 0 ∨ i = 1 ∨ i = 2 ∨ i = 3 ∨ i = 4 := by omega
  rcases h with rfl | rfl | rfl | rfl | rfl
  · exact ⟨_, rfl, by decide, by decide⟩
  · exact ⟨_, rfl, by decide, by decide⟩
  · exact ⟨_, rfl, by decide, by decide⟩
  · exact ⟨_, rfl, by decide, by decide⟩
  · exact ⟨_, rfl, by decide, by decide⟩
theorem own_nn (m : Int) (b : Bool) : 0 ≤ (if m < 0 then -m else m) % (10 ^ Int.toNat 60) ^ Int.toNat 5 * (if b = true then 1 else 0) :=
  Int.mul_nonneg (Int.emod_nonneg _ (Int.ne_of_gt pow_pos1)) (by split <;> decide)
section
variable {P : Program} {w : World} {K : Frag} {mg : Str → Option Value} {bs : Heap}
theorem scPot : FnScope ["script", "place", "cell", "own", "small"] ["script", "place"] (defScope sPot) := ⟨rfl, rfl, rfl, by decide +kernel, rfl, by decide +kernel, by decide +kernel⟩
theorem ok_pot {f : Addr} {fd : FuncData} (FP : FD K "_law_pot" sPot f fd) (F : Dx mg) : FnOk P w K mg bs CX0 1 f fd ["script", "place"] (spPot K) := by
  have sc := scPot
  refine FP.ok scPot (fun vs H Q E h => ?_) (fun cdv A outer s H vs Q E hr h => ?_)
  · obtain ⟨a, ns, i, rfl, _⟩ := h
    rfl
  · obtain ⟨a, ns, i, rfl, hS, hl, hi0, hi1, k⟩ := h
    obtain ⟨j, rfl⟩ : ∃ j : Nat, i = (j : Int) := ⟨i.toNat, by omega⟩
    refine ⟨_, pss_cons (ps_set (i := 2) sc.nd rfl (Or.inl rfl) (pe_ifExp (pt_cmpR op_lt (pv 1) (pe_callB call_len_seq (by rfl) F.len boot_len (pa_cons (pv 0) pa_nil)) (nomark _))
          (pe_ix ix_list (pv 0) (pv 1) (fun _ _ => rfl)) (pe_op op_add (pe_op op_mul pe_int (pv 1)) pe_int)))
      (pss_cons (ps_set (i := 3) sc.nd rfl (Or.inl rfl) (pe_op op_mul (pe_op op_mod (pe_callTy call_int1 (by rfl) F.int boot_int (pa_cons (pe_callB call_abs (by rfl) F.abs boot_abs (pa_cons (pv 2) pa_nil)) pa_nil))
            (pe_op op_powW (pe_op op_pow pe_int pe_int) pe_int))
          (pe_callTy call_int1 (by rfl) F.int boot_int (pa_cons (pe_cmpR op_ge (pe_callB call_abs (by rfl) F.abs boot_abs (pa_cons (pv 2) pa_nil)) (pe_op op_pow pe_int pe_int) (nomark _)) pa_nil))))
      (pss_cons (ps_set (i := 4) sc.nd rfl (Or.inl rfl) (pe_op op_mod (pe_callTy call_int1 (by rfl) F.int boot_int (pa_cons (pv 2) pa_nil)) pe_int))
      (pss_one (ps_ret (pe_lst (pa_cons (pv 3) (pa_cons (pe_op op_mod (pe_callTy call_int1 (by rfl) F.int boot_int (pa_cons
          (pe_op op_add (pe_op op_add (pe_op op_mul (pv 4) pe_int) (pe_op op_mul (pe_op op_mul pe_int (pv 1)) (pv 1))) pe_int) pa_nil)) pe_int) (pa_cons pe_int pa_nil)))))))), ?_⟩
    refine rd_seq (rd_set ?_)
    refine ⟨_, rfl, _, rfl, a, _, rfl, .inl hS, _, _, rfl, rfl, _, rfl, ?_⟩
    by_cases c : ((j : Nat) : Int) < ((ns.map V.int).length : Int)
    case' pos =>
      have hlt : j < ns.length := by
        rw [List.length_map] at c
        omega
      refine Eq.mpr (if_pos (decide_eq_true c)) ?_
      refine ⟨_, rfl, _, rfl, a, _, (j : Int), .int ns[j], rfl, rfl, hS, atI_nat (by rw [List.getElem?_map, List.getElem?_eq_getElem hlt]; rfl), ?_⟩
      generalize ns[j] = m
    case' neg =>
      refine Eq.mpr (if_neg (by rw [decide_eq_false c]; exact Bool.false_ne_true)) ?_
      refine ⟨_, rfl, _, _, rfl, rfl, .inl ⟨by decide, by decide⟩, _, _, rfl, rfl, ?_⟩
      generalize 41 * ((j : Nat) : Int) + 23 = m
    all_goals
      dsimp only
      refine rd_seq (rd_set ?_)
      refine ⟨_, rfl, _, rfl, .inl ⟨_, rfl, _, _, rfl, rfl, ⟨by decide, by decide, by decide⟩, _, _, rfl, rfl, ⟨by decide, by decide +kernel⟩, _, _, rfl, rfl, (by exact pow_pos1), _, rfl, _, rfl, _, _, rfl, rfl, ⟨by decide, by decide, by decide⟩, _, _, rfl, rfl,
        .inr ⟨_, rfl, _, _, rfl, rfl, .inr (bit_small _), ?_⟩⟩⟩
      dsimp only
      refine rd_seq (rd_set ?_)
      refine ⟨_, rfl, .inl ⟨_, rfl, _, _, rfl, rfl, (by exact (by decide : (0 : Int) < 2305843009213693951)), ?_⟩⟩
      refine ⟨_, rfl, _, rfl, _, _, rfl, rfl, .inr ⟨by decide, by decide⟩, _, rfl, _, _, rfl, rfl, .inl ⟨by decide, by decide⟩, _, rfl, _, _, rfl, rfl, .inr ⟨by omega, by omega⟩, _, _, rfl, rfl, _, _, rfl, rfl,
        .inl ⟨_, rfl, _, _, rfl, rfl, (by exact (by decide : (0 : Int) < 2305843009213693921)), (by exact (by decide : 3 ≤ sizeLine)), fun p hp => ?_⟩⟩
      refine k _ p (same_new hp) hp ⟨_, _, _, upd_same, own_nn _ _, Int.emod_nonneg _ (by decide), Int.emod_lt_of_pos _ (by decide), Int.le_refl _, Int.le_refl _⟩
theorem scTake : FnScope ["pot", "upto", "digit", "prime", "mixed"] ["pot", "upto"] (defScope sTake) := ⟨rfl, rfl, rfl, by decide +kernel, rfl, by decide +kernel, by decide +kernel⟩
theorem ok_take {f : Addr} {fd : FuncData} (FP : FD K "_law_take" sTake f fd) (F : Dx mg) : FnOk P w K mg bs CX0 1 f fd ["pot", "upto"] spTake := by
  have sc := scTake
  refine FP.ok scTake (fun vs H Q E h => ?_) (fun cdv A outer s H vs Q E hr h => ?_)
  · obtain ⟨p, n, i, rfl, _⟩ := h
    rfl
  · obtain ⟨p, n, t, rfl, hn0, hn1, ht, ⟨own, b, c, hp, ho, hb0, hb1, hc0, hc1⟩, k⟩ := h
    refine ⟨_, pss_cons (ps_if (pt_cmpR op_gt (pe_ix ix_list (pv 0) pe_int (fun _ _ => rfl)) pe_int (nomark _))
        (pss_cons (ps_set (i := 2) sc.nd rfl (Or.inl rfl) (pe_op op_mod (pe_callTy call_int1 (by rfl) F.int boot_int (pa_cons (pe_ix ix_list (pv 0) pe_int (fun _ _ => rfl)) pa_nil)) (pv 1)))
        (pss_cons (ps_asg (pe_op op_fdiv (pe_ix ix_list (pv 0) pe_int (fun _ _ => rfl)) (pv 1)) (pg_sub (pv 0) pe_int set_list))
        (pss_one (ps_ret (pv 2))))) pss_nil)
      (pss_cons (ps_asg (pe_op op_add (pe_ix ix_list (pv 0) pe_int (fun _ _ => rfl)) pe_int) (pg_sub (pv 0) pe_int set_list))
      (pss_cons (ps_set (i := 3) sc.nd rfl (Or.inl rfl) (pe_ix ix_list (pe_lst (pa_cons pe_int (pa_cons pe_int (pa_cons pe_int (pa_cons pe_int (pa_cons pe_int pa_nil))))))
          (pe_op op_mod (pe_callTy call_int1 (by rfl) F.int boot_int (pa_cons (pe_ix ix_list (pv 0) pe_int (fun _ _ => rfl)) pa_nil)) pe_int) (fun _ _ => rfl)))
      (pss_cons (ps_set (i := 4) sc.nd rfl (Or.inl rfl) (pe_op op_mod (pe_callTy call_int1 (by rfl) F.int boot_int (pa_cons (pe_op op_pow (pe_callTy call_int1 (by rfl) F.int boot_int (pa_cons
          (pe_op op_add (pe_op op_add (pe_ix ix_list (pv 0) pe_int (fun _ _ => rfl)) (pe_op op_mul (pe_op op_mul pe_int (pe_ix ix_list (pv 0) pe_int (fun _ _ => rfl))) (pe_ix ix_list (pv 0) pe_int (fun _ _ => rfl)))) pe_int) pa_nil)) pe_int) pa_nil)) (pv 3)))
      (pss_cons (ps_set (i := 4) sc.nd rfl (Or.inl rfl) (pe_op op_mod (pe_callTy call_int1 (by rfl) F.int boot_int (pa_cons
          (pe_op op_mul (pv 4) (pe_op op_add (pe_op op_mod (pe_callTy call_int1 (by rfl) F.int boot_int (pa_cons (pv 4) pa_nil)) pe_int) (pe_op op_mul pe_int (pe_ix ix_list (pv 0) pe_int (fun _ _ => rfl))))) pa_nil)) pe_int))
      (pss_one (ps_ret (pe_op op_mod (pe_callTy call_int1 (by rfl) F.int boot_int (pa_cons (pe_op op_fdiv (pv 4) pe_int) pa_nil)) (pv 1)))))))), ?_⟩
    have hS : SqL K H p [.int own, .int b, .int c] := SqL.of hp
    refine rd_seq (rd_if ?_)
    refine ⟨_, rfl, p, _, 0, .int own, rfl, rfl, hS, rfl, _, _, rfl, rfl, _, rfl, ?_⟩
    by_cases q : 0 < own
    · refine Eq.mpr (if_pos (decide_eq_true q)) ?_
      refine rd_seq (rd_set ?_)
      refine ⟨_, rfl, p, _, 0, .int own, rfl, rfl, hS, rfl, .inl ⟨_, rfl, _, rfl, _, _, rfl, rfl, hn0, ?_⟩⟩
      dsimp only
      refine ⟨_, rfl, p, _, 0, .int own, rfl, rfl, hS, rfl, _, rfl, _, _, rfl, rfl, ⟨hn0, by omega⟩, _, rfl, p, _, 0, 0, rfl, rfl, hp, rfl, ?_⟩
      refine ⟨_, rfl, k _ _ But.upd ⟨own / n, b, c, upd_same, Int.ediv_nonneg ho (by omega), hb0, hb1, hc0, by omega⟩ (Int.emod_nonneg _ (by omega)) (Int.emod_lt_of_pos _ hn0)⟩
    · refine Eq.mpr (if_neg (by rw [decide_eq_false q]; exact Bool.false_ne_true)) ?_
      dsimp only
      refine ⟨_, rfl, p, _, 2, .int c, rfl, rfl, hS, rfl, _, _, rfl, rfl, _, rfl, p, _, 2, 2, rfl, rfl, hp, rfl, ?_⟩
      have hp1 : upd H p (.lst [.int own, .int b, .int (c + 1)]) p = some (.lst [.int own, .int b, .int (c + 1)]) := upd_same
      have k1 : But p H (upd H p (.lst [.int own, .int b, .int (c + 1)])) := But.upd
      dsimp only
      have eL : ([V.int own, V.int b, V.int c] : List V).set 2 (V.int (c + 1)) = [V.int own, V.int b, V.int (c + 1)] := rfl
      rw [eL]
      generalize upd H p (.lst [.int own, .int b, .int (c + 1)]) = H1 at hp1 k1 ⊢
      refine rd_seq (rd_set ?_)
      refine ⟨(by exact (by decide : 5 ≤ sizeLine)), fun l hl => ?_⟩
      have hp2 := same_new (o := .lst primes) hl _ _ hp1
      have k2 := k1.trans (But.of (same_new (o := .lst primes) hl))
      have hl2 : upd H1 l (.lst primes) l = some (.lst primes) := upd_same
      generalize upd H1 l (.lst primes) = H2 at hp2 k2 hl2 ⊢
      obtain ⟨q5, hq5, hq0, hq1⟩ := prime_at (Int.emod_nonneg (c + 1) (by decide : (5 : Int) ≠ 0)) (Int.emod_lt_of_pos (c + 1) (by decide : (0 : Int) < 5))
      have hS2 : SqL K H2 p [.int own, .int b, .int (c + 1)] := SqL.of hp2
      refine ⟨_, rfl, p, _, 2, .int (c + 1), rfl, rfl, hS2, rfl, .inl ⟨_, rfl, _, _, rfl, rfl, (by exact (by decide : (0 : Int) < 5)), l, _, _, _, rfl, rfl, SqL.of hl2, hq5, ?_⟩⟩
      dsimp only
      obtain ⟨sq1, sq2⟩ := sq_small (c := c + 1) (by omega) (by omega)
      refine rd_seq (rd_set ?_)
      refine ⟨_, rfl, p, _, 1, .int b, rfl, rfl, hS2, rfl, _, rfl, p, _, 2, .int (c + 1), rfl, rfl, hS2, rfl, _, _, rfl, rfl, .inl ⟨by decide, by decide⟩, _, rfl, p, _, 2, .int (c + 1), rfl, rfl, hS2, rfl, _, _, rfl, rfl, .inr ⟨by omega, by omega⟩, _, _, rfl, rfl, _, _, rfl, rfl,
        .inl ⟨_, rfl, _, _, rfl, rfl, ⟨by decide, by decide, ?cp⟩, .inl ⟨_, rfl, _, rfl, _, _, rfl, rfl, hq0, ?_⟩⟩⟩
      case cp =>
        generalize 100069 * (c + 1) * (c + 1) = S at sq1 sq2 ⊢
        omega
      generalize (b + 100069 * (c + 1) * (c + 1) + 37) ^ Int.toNat 3 = S
      have hm0 := Int.emod_nonneg S (Int.ne_of_gt hq0)
      have hm1 := Int.emod_lt_of_pos S hq0
      dsimp only
      generalize S % q5 = m at hm0 hm1 ⊢
      refine rd_seq (rd_set ?_)
      refine ⟨_, rfl, _, rfl, .inl ⟨_, rfl, _, _, rfl, rfl, (by exact (by decide : (0 : Int) < 10009)), _, rfl, p, _, 2, .int (c + 1), rfl, rfl, hS2, rfl, _, _, rfl, rfl, .inl ⟨by decide, by decide⟩, _, _, rfl, rfl, _, _, rfl, rfl, .inl ⟨by omega, by omega⟩,
        .inl ⟨_, rfl, _, _, rfl, rfl, (by exact (by decide : (0 : Int) < 2305843009213693907)), ?_⟩⟩⟩
      dsimp only
      refine ⟨_, rfl, _, _, rfl, rfl, ⟨by decide, by decide⟩, .inl ⟨_, rfl, _, rfl, _, _, rfl, rfl, hn0, ?_⟩⟩
      exact k _ _ k2 ⟨own, b, c + 1, hp2, ho, hb0, hb1, by omega, by omega⟩ (Int.emod_nonneg _ (by omega)) (Int.emod_lt_of_pos _ hn0)
theorem But.mut {p a : Addr} {H H' : Hp} {o : HO} (k : But p H H') (h : H a = none) : But p H (L2.upd H' a o) := fun b u n e => by
  rw [upd_ne (ne_of_none e h)]
  exact k b u n e
theorem perm_pop {α : Type} : ∀ (xs : List α) (k : Nat) (y : α), xs[k]? = some y → (y :: xs.eraseIdx k).Perm xs
  | [], _, _, e => by simp at e
  | x :: xs, 0, y, e => by
    simp at e
    subst e
    exact List.Perm.refl _
  | x :: xs, k + 1, y, e => by
    have ih := perm_pop xs k y (by simpa using e)
    exact (List.Perm.swap x y _).trans (ih.cons x)
theorem scOf : FnScope ["pot", "some"] ["pot", "some"] (defScope sOf) := ⟨rfl, rfl, rfl, by decide +kernel, rfl, by decide +kernel, by decide +kernel⟩
theorem ok_of {f fT : Addr} {fd fdT : FuncData} (FP : FD K "_law_of" sOf f fd) (F : Dx mg) (FT : FD K "_law_take" sTake fT fdT) (gT : mg "_law_take" = some (.ref fT)) (bT : Binds K fdT ["pot", "upto"] []) :
    FnOk P w K mg bs CX0 2 f fd ["pot", "some"] (spOf K) := by
  have sc := scOf
  have GT : FnOk P w K mg bs CX0 1 fT fdT ["pot", "upto"] spTake := ok_take FT F
  refine FP.ok scOf (fun vs H Q E h => ?_) (fun cdv A outer s H vs Q E hr h => ?_)
  · obtain ⟨p, l, xs, k, rfl, _⟩ := h
    rfl
  · obtain ⟨p, l, xs, t, rfl, hne, hS, h0, h1, ht, hP, k⟩ := h
    refine ⟨_, pss_one (ps_ret (pe_ix ix_list (pv 1) (pe_call GT hr (by rfl) gT FT.kp bT .nil pass0 (pa_cons (pv 0) (pa_cons (pe_callB call_len_seq (by rfl) F.len boot_len (pa_cons (pv 1) pa_nil)) pa_nil))) (fun _ _ => rfl))), ?_⟩
    refine ⟨_, rfl, _, rfl, _, rfl, l, xs, rfl, .inl hS, p, _, t, rfl, by omega, by omega, ht, hP, fun H' i k1 hP' i0 i1 => ?_⟩
    obtain ⟨j, rfl⟩ : ∃ j : Nat, i = (j : Int) := ⟨i.toNat, by omega⟩
    have hj : j < xs.length := by omega
    refine ⟨l, xs, _, xs[j], rfl, rfl, k1.seq hne hS, atI_nat (List.getElem?_eq_getElem hj), ?_⟩
    exact k _ _ k1 hP' (List.getElem_mem hj)
def spSome (K : Frag) : Sp := fun vs H Q _ => ∃ (p l : Addr) (xs : List V) (m : Nat) (k : Int), vs = [.ref p, .ref l, .int m] ∧ l ≠ p ∧ SqL K H l xs ∧ xs.length ≤ 1000 ∧ m ≤ xs.length ∧
  0 ≤ k ∧ k + m < 1000000 ∧ Pot H p k ∧ ∀ H' q ys rest, But p H H' → H q = none → H' q = some (.lst ys) → (ys ++ rest).Perm xs → ys.length = m → Pot H' p (k + m) → Q (.ref q) H'
theorem scSome : FnScope ["pot", "pool", "many", "left", "found", "lap"] ["pot", "pool", "many"] (defScope sSome) := ⟨rfl, rfl, rfl, by decide +kernel, rfl, by decide +kernel, by decide +kernel⟩
theorem ok_some {f fT : Addr} {fd fdT : FuncData} (FP : FD K "_law_some" sSome f fd) (F : Dx mg) (FT : FD K "_law_take" sTake fT fdT) (gT : mg "_law_take" = some (.ref fT)) (bT : Binds K fdT ["pot", "upto"] []) :
    FnOk P w K mg bs CX0 2 f fd ["pot", "pool", "many"] (spSome K) := by
  have sc := scSome
  have GT : FnOk P w K mg bs CX0 1 fT fdT ["pot", "upto"] spTake := ok_take FT F
  refine FP.ok scSome (fun vs H Q E h => ?_) (fun cdv A outer s H vs Q E hr h => ?_)
  · obtain ⟨p, l, xs, m, k, rfl, _⟩ := h
    rfl
  · obtain ⟨p, l, xs, m, t, rfl, hne, hS, h1, hm, ht0, ht, hP, k⟩ := h
    refine ⟨_, pss_cons (ps_par (i := 3) (j := 4) rfl sc.nd rfl rfl (by decide) rfl rfl (pa_cons (pe_callTy call_list_of (by rfl) F.list boot_list (pa_cons (pv 1) pa_nil)) (pa_cons (pe_lst pa_nil) pa_nil)) rfl)
      (pss_cons (ps_for PassesOwn.never rfl (pi_range1 (by rfl) F.range (pa_cons (pv 2) pa_nil)) (pg_name (i := 5) sc.nd rfl (Or.inl rfl))
        (pss_one (ps_expr (pe_bm PySem.F.plainAttrs_list PySem.F.slot_list_append PySem.F.type_list_append mt_append (pv 4) (pa_cons
          (pe_bm PySem.F.plainAttrs_list PySem.F.slot_list_pop PySem.F.type_list_pop mt_popAt (pv 3) (pa_cons
            (pe_call GT hr (by rfl) gT FT.kp bT .nil pass0 (pa_cons (pv 0) (pa_cons (pe_callB call_len_seq (by rfl) F.len boot_len (pa_cons (pv 3) pa_nil)) pa_nil))) pa_nil)) pa_nil)))))
      (pss_one (ps_ret (pv 4)))), ?_⟩
    refine rd_seq ?_
    refine ⟨_, rfl, l, xs, rfl, .inl hS, fun L hL => ⟨Nat.zero_le _, fun G hG => ⟨_, _, rfl, ?_⟩⟩⟩
    dsimp only
    have nLp : L ≠ p := hP.ne hL
    have sL := same_new (o := .lst xs) hL
    have sG := same_new (o := .lst []) hG
    have hG0 : H G = none := sL.free hG
    have nGp : G ≠ p := hP.ne hG0
    have fL := sG _ _ (upd_same (H := H) (a := L) (o := .lst xs))
    have fG : upd (upd H L (.lst xs)) G (.lst []) G = some (.lst []) := upd_same
    have nLG : L ≠ G := ne_of_none upd_same hG
    have hP1 := (hP.same sL).same sG
    have k1 : But p H (upd (upd H L (.lst xs)) G (.lst [])) := But.of (sL.trans sG)
    generalize upd (upd H L (.lst xs)) G (.lst []) = H1 at fL fG hP1 k1 ⊢
    refine rd_seq ?_
    refine ⟨_, rfl, (m : Int), rfl, by omega, by omega, for_range (lo := 0) (n := ((m : Nat) : Int).toNat) (fun i σ H' => ∃ (v : Option V) (ys rest : List V), σ = [some (.ref p), some (.ref l), some (.int m), some (.ref L), some (.ref G), v] ∧
      But p H H' ∧ H' L = some (.lst rest) ∧ H' G = some (.lst ys) ∧ (ys ++ rest).Perm xs ∧ ys.length = i ∧ Pot H' p (t + i)) ⟨none, [], xs, rfl, k1, fL, fG, List.Perm.refl _, rfl, hP1.mono (by omega)⟩ ?_ ?_⟩
    · rintro i σ H2 hi ⟨v, ys, rest, rfl, k2, eL, eG, pm, ly, hP2⟩
      have hi' : i < m := by omega
      have lr : rest.length = xs.length - i := by
        have := pm.length_eq
        rw [List.length_append] at this
        omega
      refine ⟨_, rfl, .inl ⟨rfl, _, SqL.of eG⟩, _, rfl, .inl ⟨rfl, _, SqL.of eL⟩, _, rfl, _, rfl, L, rest, rfl, .inl (SqL.of eL), p, _, t + i, rfl, by omega, by omega, by omega, hP2, fun H3 j k3 hP3 j0 j1 => ?_⟩
      have hj : j.toNat < rest.length := by omega
      have eL3 := k3 _ _ nLp eL
      have eG3 := k3 _ _ nGp eG
      refine ⟨L, rest, j, j.toNat, rest[j.toNat], rfl, rfl, eL3, by omega, by omega, seqIndex_of j0 (by omega), List.getElem?_eq_getElem hj, ?_⟩
      have eG4 : upd H3 L (.lst (rest.eraseIdx j.toNat)) G = some (.lst ys) := (upd_ne (Ne.symm nLG)).trans eG3
      refine ⟨G, ys, rest[j.toNat], rfl, rfl, eG4, Nat.lt_of_le_of_lt (show ys.length ≤ 1000 by omega) (by decide), ?_⟩
      refine ⟨_, ys ++ [rest[j.toNat]], rest.eraseIdx j.toNat, rfl, ((k2.trans k3).mut hL).mut hG0, (upd_ne nLG).trans upd_same, upd_same, ?_, by rw [List.length_append, List.length_singleton, ly], ?_⟩
      · refine List.Perm.trans ?_ pm
        rw [List.append_assoc, List.singleton_append]
        exact List.Perm.append_left ys (perm_pop rest j.toNat _ (List.getElem?_eq_getElem hj))
      · obtain ⟨o, b, c, e, r1, r2, r3, r4, r5⟩ := hP3
        exact ⟨o, b, c, (upd_ne (Ne.symm nGp)).trans ((upd_ne (Ne.symm nLp)).trans e), r1, r2, r3, r4, by omega⟩
    · rintro σ H2 ⟨v, ys, rest, rfl, k2, eL, eG, pm, ly, hP2⟩
      exact ⟨_, rfl, k _ _ _ _ k2 hG0 eG pm (by omega) (hP2.mono (by omega))⟩
def spCells (K : Frag) : Sp := fun vs H Q _ => ∃ (a : Addr) (ns : List Int) (m : Nat), vs = [.ref a, .int m] ∧ SqL K H a (ns.map V.int) ∧ ns.length ≤ 63 ∧ m ≤ 63 ∧
  ∀ H' q n, Same H H' → H q = none → n ≤ 63 → H' q = some (.lst ((List.range n).map fun i : Nat => V.int (i : Int))) → Q (.ref q) H'
theorem scCells : FnScope ["script", "most"] ["script", "most"] (defScope sCells) := ⟨rfl, rfl, rfl, by decide +kernel, rfl, by decide +kernel, by decide +kernel⟩
theorem ok_cells {f : Addr} {fd : FuncData} (FP : FD K "_law_cells" sCells f fd) (F : Dx mg) : FnOk P w K mg bs CX0 1 f fd ["script", "most"] (spCells K) := by
  have sc := scCells
  refine FP.ok scCells (fun vs H Q E h => ?_) (fun cdv A outer s H vs Q E hr h => ?_)
  · obtain ⟨a, ns, m, rfl, _⟩ := h
    rfl
  · obtain ⟨a, ns, m, rfl, hS, hl, hm, k⟩ := h
    refine ⟨_, pss_one (ps_ret (pe_listRg rfl (by rfl) F.list (prg_1 (by rfl) F.range (pe_callB (call_max2 rfl) (by rfl) F.max (by decide +kernel) (pa_cons pe_int (pa_cons
      (pe_callB (call_min2 rfl) (by rfl) F.min (by decide +kernel) (pa_cons (pv 1) (pa_cons (pe_callB call_len_seq (by rfl) F.len boot_len (pa_cons (pv 0) pa_nil)) pa_nil))) pa_nil)))))), ?_⟩
    refine ⟨_, rfl, _, rfl, a, _, rfl, .inl hS, _, _, rfl, _, _, rfl, _, rfl, ?_⟩
    have hx : ∀ u : Int, 0 ≤ u → u ≤ 63 → (0 : Int) ≤ u ∧ u ≤ 63 := fun u a b => ⟨a, b⟩
    generalize hu : (if (if (((ns.map V.int).length : Nat) : Int) < (m : Int) then (((ns.map V.int).length : Nat) : Int) else (m : Int)) > 1 then (if (((ns.map V.int).length : Nat) : Int) < (m : Int) then (((ns.map V.int).length : Nat) : Int) else (m : Int)) else 1) = u
    have hu2 : 0 ≤ u ∧ u ≤ 63 := by
      rw [List.length_map] at hu
      omega
    refine ⟨.of_le (by omega) (by omega) (by omega) (by omega), fun q hq => k _ q u.toNat (same_new hq) hq (by omega) ?_⟩
    rw [upd_same]
    unfold rgV
    rw [Int.sub_zero]
    simp only [Int.zero_add]
end
end L2.K06

set_option Elab.async false
set_option linter.all false
set_option maxRecDepth 100000
set_option maxHeartbeats 4000000
namespace L2.K06
open PySem PySem.Spec PyProof.Rows L2.Vx
open PySem.W (Frag)
/-! ### a value of any kind -/
def odd1 : List PyData := [.none, .bool true, .bool false, .int 0, .int 1, .int (-1), .int (10 ^ 8), .str "", .str "a", .str "x", .str "fine", .tuple [], .list [], .dict [], .tuple [.int 0], .tuple [.tuple []], .list [.int 0], .tuple [.int 0, .int 0]]
def odd2 : List PyData := [.tuple [.tuple [.int 0, .int 0]], .tuple [.str "a", .str "b"], .tuple [.str "same", .str "a", .str "b"], .tuple [.tuple [.int 0, .bool true]], .tuple [.str "fine"], .tuple [.tuple [.str "fine"]], .str "0", .str "a!"]
section
variable {P : Program} {w : World} {K : Frag} {mg : Str → Option Value} {bs : Heap}
/-- what is away from p -/
def awy (p : Addr) (H : Hp) : Hp := fun a => if a = p then none else H a
theorem awy_le {p : Addr} {H : Hp} : Same (awy p H) H := fun b o e => by
  unfold awy at e
  by_cases h : b = p
  · rw [if_pos h] at e; cases e
  · rw [if_neg h] at e; exact e
theorem awy_but {p : Addr} {H H' : Hp} (k : But p H H') : Same (awy p H) (awy p H') := fun b o e => by
  unfold awy at e ⊢
  by_cases h : b = p
  · rw [if_pos h] at e; cases e
  · rw [if_neg h] at e ⊢; exact k _ _ h e
theorem nw_awy {p : Addr} {H H' : Hp} {o : HO} (h : H p = some o) : Same (nw H H') (awy p H') := fun b u e => by
  have n : b ≠ p := fun z => by rw [z, nw_old h] at e; cases e
  unfold awy
  rw [if_neg n]
  exact nw_le _ _ e
def spOdd (K : Frag) : Sp := fun vs H Q _ => ∃ (p : Addr) (k : Int), vs = [.ref p] ∧ k < 1000000 ∧ Pot H p k ∧ ∀ H' v d, But p H H' → Pot H' p (k + 1) → d ∈ odd1 ++ odd2 → Dd K (awy p H') v d → Q v H'
theorem scOdd : FnScope ["pot", "some"] ["pot"] (defScope sOdd) := ⟨rfl, rfl, rfl, by decide +kernel, rfl, by decide +kernel, by decide +kernel⟩
theorem gd_neg1 : GD K (tUn (rU fun i => .int (-i)) (tC (.int 1))) (.int (-1)) := fun σ H Q q => ⟨1, rfl, q (.int (-1)) H (Same.refl H) (.int _)⟩
theorem gd_op {r : R2} {i j n : Int} (h : ∀ (H : Hp) (Q : VK), Q (.int n) H → r (.int i) (.int j) H Q) : GD K (tOp r (tC (.int i)) (tC (.int j))) (.int n) := fun σ H Q q => h H Q (q (.int n) H (Same.refl H) (.int _))
theorem ddAll_app {H : Hp} : ∀ {xs ys : List V} {ds es : List PyData}, DdAll K H xs ds → DdAll K H ys es → DdAll K H (xs ++ ys) (ds ++ es)
  | _, _, _, _, .nil, h => h
  | _, _, _, _, .cons a t, h => .cons a (ddAll_app t h)
theorem ddAll_mem {H : Hp} {v : V} : ∀ {xs : List V} {ds : List PyData}, DdAll K H xs ds → v ∈ xs → ∃ d, d ∈ ds ∧ Dd K H v d
  | _, _, .nil, h => by cases h
  | _, _, .cons a t, h => by
    rcases List.mem_cons.mp h with rfl | h
    · exact ⟨_, by simp, a⟩
    · obtain ⟨d, h1, h2⟩ := ddAll_mem t h
      exact ⟨d, List.mem_cons_of_mem _ h1, h2⟩
theorem ok_odd {f fT fO : Addr} {fd fdT fdO : FuncData} (FP : FD K "_law_odd" sOdd f fd) (F : Dx mg) (FT : FD K "_law_take" sTake fT fdT) (gT : mg "_law_take" = some (.ref fT)) (bT : Binds K fdT ["pot", "upto"] [])
    (FO : FD K "_law_of" sOf fO fdO) (gO : mg "_law_of" = some (.ref fO)) (bO : Binds K fdO ["pot", "some"] []) : FnOk P w K mg bs CX0 3 f fd ["pot"] (spOdd K) := by
  have sc := scOdd
  have GO : FnOk P w K mg bs CX0 2 fO fdO ["pot", "some"] (spOf K) := ok_of FO F FT gT bT
  refine FP.ok scOdd (fun vs H Q E h => ?_) (fun cdv A outer s H vs Q E hr h => ?_)
  · obtain ⟨p, k, rfl, _⟩ := h
    rfl
  · obtain ⟨p, t, rfl, ht, hP, k⟩ := h
    refine ⟨_, pss_cons (ps_set (i := 1) sc.nd rfl (Or.inl rfl) (pe_lst (pa_cons pe_non (pa_cons pe_bl (pa_cons pe_bl (pa_cons pe_int (pa_cons pe_int (pa_cons (pe_un un_neg pe_int) (pa_cons (pe_op op_pow pe_int pe_int)
          (pa_cons pe_str (pa_cons pe_str (pa_cons pe_str (pa_cons pe_str (pa_cons (pe_tup pa_nil) (pa_cons (pe_lst pa_nil) (pa_cons pe_dnewK (pa_cons (pe_tup (pa_cons pe_int pa_nil)) (pa_cons (pe_tup (pa_cons (pe_tup pa_nil) pa_nil))
          (pa_cons (pe_lst (pa_cons pe_int pa_nil)) (pa_cons (pe_tup (pa_cons pe_int (pa_cons pe_int pa_nil))) pa_nil))))))))))))))))))))
      (pss_cons (ps_set (i := 1) sc.nd rfl (Or.inl rfl) (pe_op op_cat (pv 1) (pe_lst (pa_cons (pe_tup (pa_cons (pe_tup (pa_cons pe_int (pa_cons pe_int pa_nil))) pa_nil)) (pa_cons (pe_tup (pa_cons pe_str (pa_cons pe_str pa_nil)))
          (pa_cons (pe_tup (pa_cons pe_str (pa_cons pe_str (pa_cons pe_str pa_nil)))) (pa_cons (pe_tup (pa_cons (pe_tup (pa_cons pe_int (pa_cons pe_bl pa_nil))) pa_nil)) (pa_cons (pe_tup (pa_cons pe_str pa_nil)) (pa_cons (pe_tup (pa_cons (pe_tup (pa_cons pe_str pa_nil)) pa_nil))
          (pa_cons pe_str (pa_cons pe_str pa_nil)))))))))))
      (pss_one (ps_ret (pe_call GO hr (by rfl) gO FO.kp bO .nil pass0 (pa_cons (pv 0) (pa_cons (pv 1) pa_nil)))))), ?_⟩
    refine rd_seq (rd_set (rd_lst ?_))
    refine (ga_cons (gd_const fun _ => .non) (ga_cons (gd_const fun _ => .bl _) (ga_cons (gd_const fun _ => .bl _) (ga_cons (gd_const fun _ => .int _) (ga_cons (gd_const fun _ => .int _) (ga_cons gd_neg1
      (ga_cons (gd_op fun H Q q => ⟨_, _, rfl, rfl, ⟨by decide, by decide, by decide⟩, q⟩) (ga_cons (gd_const fun _ => .str _) (ga_cons (gd_const fun _ => .str _) (ga_cons (gd_const fun _ => .str _) (ga_cons (gd_const fun _ => .str _)
      (ga_cons (gd_tup ga_nil (by decide)) (ga_cons (gd_lst ga_nil (by decide)) (ga_cons gd_dnew (ga_cons (gd_tup (ga_cons (gd_const fun _ => .int _) ga_nil) (by decide)) (ga_cons (gd_tup (ga_cons (gd_tup ga_nil (by decide)) ga_nil) (by decide))
      (ga_cons (gd_lst (ga_cons (gd_const fun _ => .int _) ga_nil) (by decide)) (ga_cons (gd_tup (ga_cons (gd_const fun _ => .int _) (ga_cons (gd_const fun _ => .int _) ga_nil)) (by decide)) ga_nil)))))))))))))))))
      : GA K _ odd1) _ _ _ fun vs H1 s1 g1 => ?_
    have l1 : vs.length = 18 := ddAll_len g1
    refine ⟨Nat.le_trans (Nat.le_of_eq l1) (by decide), fun a ha => ?_⟩
    have s2 : Same H1 (upd H1 a (.lst vs)) := same_new ha
    have f2 : upd H1 a (.lst vs) a = some (.lst vs) := upd_same
    have g2 := ddAll_keep (nw_up s2) g1
    have sH2 := s1.trans s2
    have ha0 := s1.free ha
    generalize upd H1 a (.lst vs) = H2 at s2 f2 g2 sH2 ⊢
    dsimp only
    refine rd_seq (rd_set ?_)
    refine ⟨_, rfl, rd_lst ?_⟩
    refine (ga_cons (gd_tup (ga_cons (gd_tup (ga_cons (gd_const fun _ => .int _) (ga_cons (gd_const fun _ => .int _) ga_nil)) (by decide)) ga_nil) (by decide))
      (ga_cons (gd_tup (ga_cons (gd_const fun _ => .str _) (ga_cons (gd_const fun _ => .str _) ga_nil)) (by decide))
      (ga_cons (gd_tup (ga_cons (gd_const fun _ => .str _) (ga_cons (gd_const fun _ => .str _) (ga_cons (gd_const fun _ => .str _) ga_nil))) (by decide))
      (ga_cons (gd_tup (ga_cons (gd_tup (ga_cons (gd_const fun _ => .int _) (ga_cons (gd_const fun _ => .bl _) ga_nil)) (by decide)) ga_nil) (by decide))
      (ga_cons (gd_tup (ga_cons (gd_const fun _ => .str _) ga_nil) (by decide))
      (ga_cons (gd_tup (ga_cons (gd_tup (ga_cons (gd_const fun _ => .str _) ga_nil) (by decide)) ga_nil) (by decide))
      (ga_cons (gd_const fun _ => .str _) (ga_cons (gd_const fun _ => .str _) ga_nil))))))) : GA K _ odd2) _ _ _ fun ws H3 s3 g3 => ?_
    have l3 : ws.length = 8 := ddAll_len g3
    refine ⟨Nat.le_trans (Nat.le_of_eq l3) (by decide), fun b hb => ?_⟩
    have s4 : Same H3 (upd H3 b (.lst ws)) := same_new hb
    have f4 : upd H3 b (.lst ws) b = some (.lst ws) := upd_same
    have f5 := s4 _ _ (s3 _ _ f2)
    have g4 := ddAll_keep (nw_up s4) (ddAll_keep (nw_in sH2) g3)
    have g5 := ddAll_keep (nw_up s4) (ddAll_keep (nw_up s3) g2)
    have sH4 := (sH2.trans s3).trans s4
    generalize upd H3 b (.lst ws) = H4 at s4 f4 f5 g4 g5 sH4 ⊢
    refine ⟨a, b, vs, ws, rfl, rfl, f5, f4, by rw [l1, l3]; exact (by decide), fun c hc => ?_⟩
    have s6 : Same H4 (upd H4 c (.lst (vs ++ ws))) := same_new hc
    have f6 : upd H4 c (.lst (vs ++ ws)) c = some (.lst (vs ++ ws)) := upd_same
    have g6 := ddAll_keep (nw_up s6) (ddAll_app g5 g4)
    have sH6 := sH4.trans s6
    have hc0 := sH4.free hc
    generalize upd H4 c (.lst (vs ++ ws)) = H6 at s6 f6 g6 sH6 ⊢
    dsimp only
    obtain ⟨o, hpo⟩ := hP.some
    have nc : c ≠ p := hP.ne hc0
    refine ⟨_, rfl, _, rfl, p, c, _, t, rfl, nc, SqL.of f6, by rw [List.length_append]; omega, by rw [List.length_append]; omega, ht, hP.same sH6, fun H7 v k7 hP7 hv => ?_⟩
    obtain ⟨d, hd, hdv⟩ := ddAll_mem (ddAll_keep (nw_awy hpo) g6) hv
    exact k H7 v d ((But.of sH6).trans k7) hP7 hd (Dd_keep (awy_but k7) hdv)
end
end L2.K06

set_option Elab.async false
set_option linter.all false
set_option maxRecDepth 100000
set_option maxHeartbeats 4000000
namespace L2.K06
open PySem PySem.Spec PyProof.Rows L2.Vx
open PySem.W (Frag)
/-! ### a number in a text -/
def allIn (z g : Str) : Bool := z.cps.toList.all fun c => decide (c ∈ g.cps.toList)
def digitsS : Str := "0123456789"
def numText (n : Nat) : Str := Str.ofString (toString ((n : Nat) : Int))
def valOf (z : Str) : Nat := NumText.digitsVal z.cps.toList
def numIn (z : Str) (lo hi : Int) : Option Int :=
  if (1 ≤ z.length ∧ z.length ≤ 9) ∧ allIn z digitsS = true then
    if numText (valOf z) = z ∧ lo ≤ (valOf z : Int) ∧ (valOf z : Int) ≤ hi then some (valOf z : Int) else none
  else none
def optV : Option Int → V
  | none => .non
  | some n => .int n
theorem allIn_digits {z : Str} : allIn z digitsS = true ↔ NumText.AllDigits z.cps.toList := by
  unfold allIn NumText.AllDigits
  rw [List.all_eq_true]
  have e : digitsS.cps.toList = [48, 49, 50, 51, 52, 53, 54, 55, 56, 57] := by decide +kernel
  rw [e]
  constructor
  · intro h c hc
    have h1 := of_decide_eq_true (h c hc)
    simp at h1
    omega
  · intro h c hc
    have h1 := h c hc
    refine decide_eq_true ?_
    have : c = 48 ∨ c = 49 ∨ c = 50 ∨ c = 51 ∨ c = 52 ∨ c = 53 ∨ c = 54 ∨ c = 55 ∨ c = 56 ∨ c = 57 := by omega
    simpa using this
theorem val_lt : ∀ (l : List Nat), NumText.AllDigits l → NumText.digitsVal l < 10 ^ l.length := by
  intro l
  have h : ∀ (l : List Nat) (a : Nat), NumText.AllDigits l → l.foldl (fun acc c => acc * 10 + (c - 48)) a < (a + 1) * 10 ^ l.length := by
    intro l
    induction l with
    | nil => intro a _; simp
    | cons c r ih =>
      intro a hd
      rw [List.foldl_cons, List.length_cons, Nat.pow_succ]
      have h1 := ih (a * 10 + (c - 48)) hd.tail
      have h2 := hd.head
      have h3 : (a * 10 + (c - 48) + 1) * 10 ^ r.length ≤ ((a + 1) * 10) * 10 ^ r.length := Nat.mul_le_mul_right _ (by omega)
      have h4 : (a + 1) * 10 * 10 ^ r.length = (a + 1) * (10 ^ r.length * 10) := by rw [Nat.mul_assoc, Nat.mul_comm 10]
      omega
  intro hd
  have := h l 0 hd
  simpa [NumText.digitsVal] using this
theorem val_small {z : Str} (h : NumText.AllDigits z.cps.toList) (hl : z.length ≤ 9) : valOf z < 10 ^ 9 :=
  Nat.lt_of_lt_of_le (val_lt _ h) (Nat.pow_le_pow_right (by decide) (by simpa [Str.length] using hl))
theorem small_log {n : Nat} (h : n < 10 ^ 9) : (Int.natAbs ((n : Nat) : Int)).log2 < 1920 := by
  rw [Int.natAbs_natCast]
  by_cases e : n = 0
  · rw [e]; decide
  · exact (Nat.log2_lt e).mpr (Nat.lt_trans h (by decide +kernel))
section
variable {P : Program} {w : World} {K : Frag} {mg : Str → Option Value} {bs : Heap}
def spCons : Sp := fun vs H Q _ => ∃ (z g : Str), vs = [.str z, .str g] ∧ z.length ≤ 900000 ∧ ∀ H', Same H H' → Q (.bl (allIn z g)) H'
theorem scCons : FnScope ["text", "signs", "sign"] ["text", "signs"] (defScope sCons) := ⟨rfl, rfl, rfl, by decide +kernel, rfl, by decide +kernel, by decide +kernel⟩
/-- the list of a walk's tests -/
theorem ok_cons {f : Addr} {fd : FuncData} (FP : FD K "consists_of" sCons f fd) (gA : mg "all" = none) : FnOk P w K mg bs CX0 1 f fd ["text", "signs"] spCons := by
  have sc := scCons
  refine FP.ok scCons (fun vs H Q E h => ?_) (fun cdv A outer s H vs Q E hr h => ?_)
  · obtain ⟨z, g, rfl, _⟩ := h
    rfl
  · obtain ⟨z, g, rfl, hz, k⟩ := h
    refine ⟨_, pss_one (ps_ret (pe_callB (cr_all rfl) (by rfl) gA boot_all (pa_cons
          (pe_lc (own := [("sign", 2)]) (g := gName 2) (by rfl) sc.nd (pi_str (pv 0)) (blkOk_by (N := ["text", "signs", "sign"]) (sc := defScope sCons) (by decide +kernel))
            (fun _ _ _ _ _ => pg_name (i := 2) sc.nd rfl (Or.inl rfl)) (fun _ _ _ _ _ => pts_nil)
            (fun _ _ _ _ _ => pe_cmpR op_in_sign (pv 2) (pv 1) rfl)) pa_nil))), ?_⟩
    refine ⟨_, rfl, z, rfl, fun D hD => lc_it walk_str (fun i H' => Same H H' ∧ H' D = some (.lst (((z.cps.toList.take i).map fun c => decide (c ∈ g.cps.toList)).map V.bl))) ⟨same_new hD, by rw [upd_same]; rfl⟩ (fun _ _ _ _ => trivial) ?_ ?_⟩
    · rintro i v H5 H6 hi ⟨s5, d5⟩ ⟨rfl, c, hc, rfl⟩
      refine ⟨rfl, rd_yes rfl ?_⟩
      refine ⟨_, rfl, _, rfl, c, g, rfl, rfl, _, d5, ?_, s5.mut hD, ?_⟩
      · rw [List.length_map, List.length_map, List.length_take]
        exact Nat.lt_of_le_of_lt (Nat.le_trans (Nat.min_le_right _ _) (by simpa [Str.length] using hz)) (by decide)
      · have hc' : z.cps.toList[i]? = some c := by simpa using hc
        rw [upd_same, List.take_succ, hc', List.map_append, List.map_append]
        rfl
    · rintro H5 ⟨s5, d5⟩
      refine ⟨D, _, rfl, SqL.of d5, ?_⟩
      have e : z.cps.toList.take z.cps.size = z.cps.toList := List.take_of_length_le (by simp)
      rw [e, List.all_map]
      exact k _ s5
def spNum : Sp := fun vs H Q _ => ∃ (z : Str) (lo hi : Int), vs = [.str z, .int lo, .int hi] ∧ z.length ≤ 900000 ∧ ∀ H', Same H H' → Q (optV (numIn z lo hi)) H'
theorem scNum : FnScope ["word", "low", "high", "number"] ["word", "low", "high"] (defScope sNum) := ⟨rfl, rfl, rfl, by decide +kernel, rfl, by decide +kernel, by decide +kernel⟩
structure FxNum (mg : Str → Option Value) : Prop where
  len : mg "len" = none
  int : mg "int" = none
  str : mg "str" = none
  all : mg "all" = none
  most : ∃ t, mg "LONGEST_NUMBER" = some (.int 9 t)
  dig : ∃ t, mg "DIGITS" = some (.str "0123456789" t)
theorem ok_num {f fC : Addr} {fd fdC : FuncData} (FP : FD K "number_in" sNum f fd) (F : FxNum mg) (FC : FD K "consists_of" sCons fC fdC) (gC : mg "consists_of" = some (.ref fC)) (bC : Binds K fdC ["text", "signs"] []) :
    FnOk P w K mg bs CX0 2 f fd ["word", "low", "high"] spNum := by
  have sc := scNum
  have GC : FnOk P w K mg bs CX0 1 fC fdC ["text", "signs"] spCons := ok_cons FC F.all
  obtain ⟨t1, e1⟩ := F.most
  obtain ⟨t2, e2⟩ := F.dig
  refine FP.ok scNum (fun vs H Q E h => ?_) (fun cdv A outer s H vs Q E hr h => ?_)
  · obtain ⟨z, lo, hi, rfl, _⟩ := h
    rfl
  · obtain ⟨z, lo, hi, rfl, hz, k⟩ := h
    have hz2 : z.length ≤ sizeLine := Nat.le_trans hz (by decide)
    refine ⟨_, pss_cons (ps_if (PW.pt (pw_or (pt_not (pt_chain op_le op_le pe_int (pe_callB call_len_str (by rfl) F.len boot_len (pa_cons (pv 0) pa_nil)) (pe_glob (v := .int 9) rfl e1 ⟨_, rfl⟩)))
          (pw_or1 (pt_not (pt_val (pe_call GC hr (by rfl) gC FC.kp bC .nil pass0 (pa_cons (pv 0) (pa_cons (pe_glob (v := .str "0123456789") rfl e2 ⟨_, rfl⟩) pa_nil))))))))
        (pss_one (ps_ret pe_non)) pss_nil)
      (pss_cons (ps_set (i := 3) sc.nd rfl (Or.inl rfl) (pe_callTy call_int_str (by rfl) F.int boot_int (pa_cons (pv 0) pa_nil)))
      (pss_cons (ps_if (PW.pt (pw_or (pt_cmpR op_ne (pe_callTy call_str_int (by rfl) F.str boot_str (pa_cons (pv 3) pa_nil)) (pv 0) (nomark _))
          (pw_or1 (pt_not (pt_chain op_le op_le (pv 1) (pv 3) (pv 2))))))
        (pss_one (ps_ret pe_non)) pss_nil)
      (pss_one (ps_ret (pv 3))))), ?_⟩
    refine rd_seq (rd_if ?_)
    have cut : ¬ ((1 ≤ z.length ∧ z.length ≤ 9) ∧ allIn z digitsS = true) → numIn z lo hi = none := fun q => if_neg q
    have fin : ∀ H', Same H H' → numIn z lo hi = none → Q .non H' := fun H' s e => by
      have q := k H' s
      rw [e] at q
      exact q
    refine ⟨_, rfl, z, rfl, hz2, _, _, rfl, rfl, _, rfl, ?_⟩
    by_cases h1 : 1 ≤ z.length
    · refine Eq.mpr (if_pos (decide_eq_true (by omega))) ?_
      refine ⟨_, _, rfl, rfl, _, rfl, ?_⟩
      by_cases h2 : z.length ≤ 9
      · refine Eq.mpr (if_neg (by rw [decide_eq_true (by omega : ((z.length : Nat) : Int) ≤ 9)]; decide)) ?_
        refine ⟨_, rfl, z, _, rfl, hz, fun H1 s1 => ⟨_, rfl, ?_⟩⟩
        cases hA : allIn z digitsS with
        | false =>
          refine Eq.mpr (if_pos (by show (!allIn z digitsS) = true; rw [hA]; rfl)) ?_
          exact fin H1 s1 (cut fun q => by rw [hA] at q; cases q.2)
        | true =>
          refine Eq.mpr (if_neg (by show ¬ (!allIn z digitsS) = true; rw [hA]; decide)) ?_
          have hd := allIn_digits.mp hA
          have hv := val_small hd h2
          dsimp only [tNext]
          refine rd_seq (rd_set ?_)
          refine ⟨_, rfl, z, ((valOf z : Nat) : Int), rfl, intText_digits hd (fun q => ?_) (by omega), by omega, ?_⟩
          · have := congrArg List.length q
            rw [Array.length_toList, List.length_nil] at this
            have h1' : 1 ≤ z.cps.size := h1
            omega
          have e0 : numIn z lo hi = if numText (valOf z) = z ∧ lo ≤ (valOf z : Int) ∧ (valOf z : Int) ≤ hi then some (valOf z : Int) else none := if_pos ⟨⟨h1, h2⟩, hA⟩
          dsimp only
          refine rd_seq (rd_if ?_)
          refine ⟨_, rfl, ((valOf z : Nat) : Int), rfl, small_log hv, _, rfl, rfl, _, rfl, ?_⟩
          by_cases h3 : numText (valOf z) = z
          · refine Eq.mpr (if_neg (nt (congrArg V.str h3))) ?_
            refine ⟨_, rfl, _, rfl, _, _, rfl, rfl, _, rfl, ?_⟩
            by_cases h4 : lo ≤ ((valOf z : Nat) : Int)
            · refine Eq.mpr (if_pos (decide_eq_true h4)) ?_
              refine ⟨_, rfl, _, _, rfl, rfl, _, rfl, ?_⟩
              by_cases h5 : ((valOf z : Nat) : Int) ≤ hi
              · refine Eq.mpr (if_neg (by rw [decide_eq_true h5]; decide)) ?_
                dsimp only
                refine ⟨_, rfl, ?_⟩
                have q := k H1 s1
                rw [e0, if_pos ⟨h3, h4, h5⟩] at q
                exact q
              · refine Eq.mpr (if_pos (by rw [decide_eq_false h5]; rfl)) ?_
                exact fin H1 s1 (e0.trans (if_neg fun q => h5 q.2.2))
            · refine Eq.mpr (if_neg (by rw [decide_eq_false h4]; decide)) ?_
              exact ⟨_, rfl, fin H1 s1 (e0.trans (if_neg fun q => h4 q.2.1))⟩
          · refine Eq.mpr (if_pos (nf (fun q => h3 (V.str.inj q)))) ?_
            exact fin H1 s1 (e0.trans (if_neg fun q => h3 q.1))
      · refine Eq.mpr (if_pos (by rw [decide_eq_false (by omega : ¬ ((z.length : Nat) : Int) ≤ 9)]; rfl)) ?_
        exact fin H (Same.refl H) (cut fun q => h2 q.1.2)
    · refine Eq.mpr (if_neg (by rw [decide_eq_false (by omega : ¬ (1 : Int) ≤ ((z.length : Nat) : Int))]; decide)) ?_
      exact ⟨_, rfl, fin H (Same.refl H) (cut fun q => h1 q.1.1)⟩
end
end L2.K06

set_option Elab.async false
set_option linter.all false
set_option maxRecDepth 100000
set_option maxHeartbeats 4000000
namespace L2.K06
open PySem PySem.Spec PyProof.Rows L2.Vx
open PySem.W (Frag)
/-! ### a book's text -/
theorem sp_eq : (" " : Str) = ⟨#[32]⟩ := by decide +kernel
theorem nl_eq : ("\n" : Str) = ⟨#[10]⟩ := by decide +kernel
def amongW : List Str → Option Str
  | [a, b] => if a = "among" ∧ (b = "eldest" ∨ b = "latest") then some b else none
  | _ => none
def amongIn (z : Str) : Option Str := amongW (Txt.split z " ")
def ruleWords : List Str := ["corner", "wall", "level", "straight", "grid"]
def leastOf (w : Str) : Int := if w = "grid" then 2 else 0
def ruleW : List Str → Option (Str × Int)
  | [a, b] => if a ∈ ruleWords then (numIn b (leastOf a) 99).map fun n => (a, n) else none
  | _ => none
def ruleIn (z : Str) : Option (Str × Int) := ruleW (Txt.split z " ")
def rulesIn : List Str → Nat → List (Str × Int) → Nat ⊕ List (Str × Int)
  | [], _, acc => .inr acc
  | z :: r, n, acc => match ruleIn z with
    | none => .inl n
    | some p => if p.1 ∈ acc.map Prod.fst then .inl n else rulesIn r (n + 1) (acc ++ [p])
def optS : Option Str → V
  | none => .non
  | some z => .str z
section
variable {P : Program} {w : World} {K : Frag} {mg : Str → Option Value} {bs : Heap}
def spAmong : Sp := fun vs H Q _ => ∃ z : Str, vs = [.str z] ∧ z.length ≤ 900000 ∧ ∀ H', Same H H' → Q (optS (amongIn z)) H'
theorem scAmong : FnScope ["line", "words"] ["line"] (defScope sAmong) := ⟨rfl, rfl, rfl, by decide +kernel, rfl, by decide +kernel, by decide +kernel⟩
theorem ok_among {f : Addr} {fd : FuncData} (FP : FD K "read_among" sAmong f fd) (gL : mg "len" = none) : FnOk P w K mg bs CX0 1 f fd ["line"] spAmong := by
  have sc := scAmong
  refine FP.ok scAmong (fun vs H Q E h => ?_) (fun cdv A outer s H vs Q E hr h => ?_)
  · obtain ⟨z, rfl, _⟩ := h
    rfl
  · obtain ⟨z, rfl, hz, k⟩ := h
    refine ⟨_, pss_cons (ps_set (i := 1) sc.nd rfl (Or.inl rfl) (pe_split (pv 0) pe_str))
      (pss_cons (ps_if (PW.pt (pw_or (pt_cmpR op_ne (pe_callB call_len_seq (by rfl) gL boot_len (pa_cons (pv 1) pa_nil)) pe_int (nomark _))
          (pw_or (pt_cmpR op_ne (pe_ix ix_list (pv 1) pe_int (fun _ _ => rfl)) pe_str (nomark _))
          (pw_or1 (pt_cmpR op_notIn_seq (pe_ix ix_list (pv 1) pe_int (fun _ _ => rfl)) (pe_tup (pa_cons pe_str (pa_cons pe_str pa_nil))) rfl)))))
        (pss_one (ps_ret pe_non)) pss_nil)
      (pss_one (ps_ret (pe_ix ix_list (pv 1) pe_int (fun _ _ => rfl))))), ?_⟩
    refine rd_seq (rd_set ?_)
    have hz2 : z.length + 2 ≤ sizeLine := Nat.le_trans (by omega : z.length + 2 ≤ 1000000) (by decide)
    refine ⟨_, rfl, ⟨_, rfl⟩, z, _, rfl, rfl, rfl, hz2, fun p hp => ?_⟩
    have s1 : Same H (upd H p (.lst ((Txt.split z " ").map V.str))) := same_new hp
    have f1 : upd H p (.lst ((Txt.split z " ").map V.str)) p = some (.lst ((Txt.split z " ").map V.str)) := upd_same
    generalize upd H p (.lst ((Txt.split z " ").map V.str)) = H1 at s1 f1 ⊢
    have bad : ∀ H', Same H1 H' → amongIn z = none → Q .non H' := fun H' s e => by
      have q := k H' (s1.trans s)
      rw [e] at q
      exact q
    dsimp only
    refine rd_seq (rd_if ?_)
    refine ⟨_, rfl, p, _, rfl, .inl (SqL.of f1), rfl, _, rfl, ?_⟩
    generalize hW : Txt.split z " " = W at f1
    have e0 : amongIn z = amongW W := congrArg amongW hW
    clear hW
    rcases W with _ | ⟨a, _ | ⟨b, _ | ⟨c, r⟩⟩⟩
    · exact Eq.mpr (if_pos rfl) (bad H1 (Same.refl _) e0)
    · exact Eq.mpr (if_pos rfl) (bad H1 (Same.refl _) e0)
    rotate_left
    · refine Eq.mpr (if_pos (nf (fun q => ?_))) (bad H1 (Same.refl _) e0)
      have h := V.int.inj q
      simp only [List.length_map, List.length_cons] at h
      omega
    ·
      refine Eq.mpr (if_neg (nt (by rfl))) ?_
      refine ⟨_, rfl, p, _, 0, .str a, rfl, rfl, SqL.of f1, rfl, rfl, _, rfl, ?_⟩
      by_cases h1 : a = "among"
      · refine Eq.mpr (if_neg (nt (by rw [h1]))) ?_
        refine ⟨_, rfl, p, _, 1, .str b, rfl, rfl, SqL.of f1, rfl, (by exact (by decide : 2 ≤ sizeLine)), fun q hq => ⟨q, _, rfl, .inr (SqT.of upd_same), rfl, rfl, _, rfl, ?_⟩⟩
        have ei : inV (.str b) [.str "eldest", .str "latest"] = decide (b ∈ (["eldest", "latest"] : List Str)) := inV_str b ["eldest", "latest"]
        have s2 : Same H1 (upd H1 q (.tup [.str "eldest", .str "latest"])) := same_new hq
        have f2 := s2 _ _ f1
        generalize upd H1 q (.tup [.str "eldest", .str "latest"]) = H2 at s2 f2 ⊢
        by_cases h2 : b = "eldest" ∨ b = "latest"
        · refine Eq.mpr (if_neg (by show ¬ (!inV (V.str b) [.str "eldest", .str "latest"]) = true; rw [ei]; exact nt (by simpa using h2))) ?_
          dsimp only [tNext]
          refine ⟨_, rfl, p, _, 1, .str b, rfl, rfl, SqL.of f2, rfl, ?_⟩
          have q := k H2 (s1.trans s2)
          rw [e0.trans (if_pos ⟨h1, h2⟩)] at q
          exact q
        · refine Eq.mpr (if_pos (by show (!inV (V.str b) [.str "eldest", .str "latest"]) = true; rw [ei]; exact nf (by simpa using h2))) ?_
          exact bad H2 s2 (e0.trans (if_neg fun q => h2 q.2))
      · refine Eq.mpr (if_pos (nf (fun q => h1 (V.str.inj q)))) ?_
        exact bad H1 (Same.refl _) (e0.trans (if_neg fun q => h1 q.1))
def FxLeast (K : Frag) (w : World) (mg : Str → Option Value) : Prop := ∃ (d : Addr) (es : Array DictEntry) (n : Nat), mg "LEAST" = some (.ref d) ∧ KDict K w d es n ∧
  ∀ z : Str, ∃ r, PySem.W.nsIn K d z = some r ∧ (z ∈ ruleWords → ∃ t, r = some (.int (leastOf z) t)) ∧ (z ∉ ruleWords → r = none)
structure FxRule (K : Frag) (w : World) (mg : Str → Option Value) : Prop where
  num : FxNum mg
  least : FxLeast K w mg
  most : ∃ t, mg "MOST" = some (.int 99 t)
def spRule : Sp := fun vs H Q _ => ∃ z : Str, vs = [.str z] ∧ z.length ≤ 900000 ∧ (ruleIn z = none → ∀ H', Same H H' → Q .non H') ∧
  ∀ a n, ruleIn z = some (a, n) → ∀ H' p, Same H H' → H p = none → H' p = some (.tup [.str a, .int n]) → Q (.ref p) H'
theorem scRule : FnScope ["line", "words", "number"] ["line"] (defScope sRule) := ⟨rfl, rfl, rfl, by decide +kernel, rfl, by decide +kernel, by decide +kernel⟩
theorem ok_rule {f fN fC : Addr} {fd fdN fdC : FuncData} (FP : FD K "read_rule" sRule f fd) (F : FxRule K w mg)
    (FN : FD K "number_in" sNum fN fdN) (gN : mg "number_in" = some (.ref fN)) (bN : Binds K fdN ["word", "low", "high"] [])
    (FC : FD K "consists_of" sCons fC fdC) (gC : mg "consists_of" = some (.ref fC)) (bC : Binds K fdC ["text", "signs"] []) : FnOk P w K mg bs CX0 3 f fd ["line"] spRule := by
  have sc := scRule
  have GN : FnOk P w K mg bs CX0 2 fN fdN ["word", "low", "high"] spNum := ok_num FN F.num FC gC bC
  obtain ⟨d, es, n0, gD, KD, look⟩ := F.least
  obtain ⟨t1, e1⟩ := F.most
  refine FP.ok scRule (fun vs H Q E h => ?_) (fun cdv A outer s H vs Q E hr h => ?_)
  · obtain ⟨z, rfl, _⟩ := h
    rfl
  · obtain ⟨z, rfl, hz, kn, ks⟩ := h
    refine ⟨_, pss_cons (ps_set (i := 1) sc.nd rfl (Or.inl rfl) (pe_split (pv 0) pe_str))
      (pss_cons (ps_if (PW.pt (pw_or (pt_cmpR op_ne (pe_callB call_len_seq (by rfl) F.num.len boot_len (pa_cons (pv 1) pa_nil)) pe_int (nomark _))
          (pw_or1 (pt_cmpR (op_notIn_kd KD) (pe_ix ix_list (pv 1) pe_int (fun _ _ => rfl)) (pe_glob (v := .ref d) rfl gD rfl) rfl))))
        (pss_one (ps_ret pe_non)) pss_nil)
      (pss_cons (ps_set (i := 2) sc.nd rfl (Or.inl rfl) (pe_call GN hr (by rfl) gN FN.kp bN .nil pass0 (pa_cons (pe_ix ix_list (pv 1) pe_int (fun _ _ => rfl))
          (pa_cons (pe_ix ix_kdict (pe_glob (v := .ref d) rfl gD rfl) (pe_ix ix_list (pv 1) pe_int (fun _ _ => rfl)) (fun _ _ => rfl)) (pa_cons (pe_glob (v := .int 99) rfl e1 ⟨_, rfl⟩) pa_nil)))))
      (pss_cons (ps_if (pt_cmpR op_isN (pv 2) pe_non (nomark _)) (pss_one (ps_ret pe_non)) pss_nil)
      (pss_one (ps_ret (pe_tup (pa_cons (pe_ix ix_list (pv 1) pe_int (fun _ _ => rfl)) (pa_cons (pv 2) pa_nil)))))))), ?_⟩
    refine rd_seq (rd_set ?_)
    have hz2 : z.length + 2 ≤ sizeLine := Nat.le_trans (by omega : z.length + 2 ≤ 1000000) (by decide)
    refine ⟨_, rfl, ⟨_, rfl⟩, z, _, rfl, rfl, rfl, hz2, fun p hp => ?_⟩
    have s1 : Same H (upd H p (.lst ((Txt.split z " ").map V.str))) := same_new hp
    have f1 : upd H p (.lst ((Txt.split z " ").map V.str)) p = some (.lst ((Txt.split z " ").map V.str)) := upd_same
    generalize upd H p (.lst ((Txt.split z " ").map V.str)) = H1 at s1 f1 ⊢
    have bad : ∀ H', Same H1 H' → ruleIn z = none → Q .non H' := fun H' s e => kn e H' (s1.trans s)
    dsimp only
    refine rd_seq (rd_if ?_)
    refine ⟨_, rfl, p, _, rfl, .inl (SqL.of f1), rfl, _, rfl, ?_⟩
    have part : ∀ x ∈ Txt.split z " ", x.length ≤ z.length := fun x hx => split_part (s := 32) (by decide) (by rw [← sp_eq]; exact hx)
    have e0 : ruleIn z = ruleW (Txt.split z " ") := rfl
    generalize Txt.split z " " = W at f1 part e0
    rcases W with _ | ⟨a, _ | ⟨b, _ | ⟨c, r⟩⟩⟩
    · exact Eq.mpr (if_pos rfl) (bad H1 (Same.refl _) e0)
    · exact Eq.mpr (if_pos rfl) (bad H1 (Same.refl _) e0)
    rotate_left
    · refine Eq.mpr (if_pos (nf (fun q => ?_))) (bad H1 (Same.refl _) e0)
      have h := V.int.inj q
      simp only [List.length_map, List.length_cons] at h
      omega
    · refine Eq.mpr (if_neg (nt (by rfl))) ?_
      obtain ⟨r, hr1, hr2, hr3⟩ := look a
      refine ⟨_, rfl, p, _, 0, .str a, rfl, rfl, SqL.of f1, rfl, a, r, rfl, rfl, hr1, _, rfl, ?_⟩
      by_cases h1 : a ∈ ruleWords
      · obtain ⟨t, rfl⟩ := hr2 h1
        dsimp only [Option.isSome, Bool.not_true]
        refine Eq.mpr (if_neg Bool.false_ne_true) ?_
        dsimp only [tNext]
        refine rd_seq (rd_set ?_)
        refine ⟨_, rfl, p, _, 1, .str b, rfl, rfl, SqL.of f1, rfl, ?_⟩
        refine ⟨_, rfl, p, _, 0, .str a, rfl, rfl, SqL.of f1, rfl, d, a, .int (leastOf a), rfl, rfl, ⟨es, n0, _, KD.at_, KD.lit, hr1, ⟨_, rfl⟩⟩, ?_⟩
        refine ⟨b, leastOf a, 99, rfl, Nat.le_trans (part b (by simp)) hz, fun H2 s2 => ?_⟩
        dsimp only
        have e1 : ruleIn z = (numIn b (leastOf a) 99).map fun n => (a, n) := e0.trans (if_pos h1)
        have f2 := s2 _ _ f1
        refine rd_seq (rd_if ?_)
        refine ⟨_, rfl, rfl, _, rfl, ?_⟩
        cases hn : numIn b (leastOf a) 99 with
        | none =>
          refine Eq.mpr (if_pos rfl) ?_
          exact bad H2 s2 (e1.trans (by rw [hn]; rfl))
        | some n =>
          refine Eq.mpr (if_neg (fun q => by cases of_decide_eq_true q)) ?_
          dsimp only [tNext]
          refine ⟨_, rfl, p, _, 0, .str a, rfl, rfl, SqL.of f2, rfl, ?_⟩
          refine ⟨_, rfl, (by exact (by decide : 2 ≤ sizeLine)), fun q hq => ?_⟩
          have hq0 : H q = none := (s1.trans s2).free hq
          exact ks a n (e1.trans (by rw [hn]; rfl)) _ q ((s1.trans s2).trans (same_new hq)) hq0 upd_same
      · rw [hr3 h1]
        dsimp only [Option.isSome, Bool.not_false]
        refine Eq.mpr (if_pos rfl) ?_
        exact bad H1 (Same.refl _) (e0.trans (if_neg h1))
/-- pairs of a word and a number -/
def Pr (H : Hp) (ps : List Addr) (rs : List (Str × Int)) : Prop := ps.length = rs.length ∧ ∀ (i : Nat) (p : Addr) (r : Str × Int), ps[i]? = some p → rs[i]? = some r → H p = some (.tup [.str r.1, .int r.2])
theorem Pr.same {H H' : Hp} {ps : List Addr} {rs : List (Str × Int)} (h : Pr H ps rs) (s : Same H H') : Pr H' ps rs := ⟨h.1, fun i p r a b => s _ _ (h.2 i p r a b)⟩
theorem Pr.snoc {H : Hp} {ps : List Addr} {rs : List (Str × Int)} {p : Addr} {r : Str × Int} (h : Pr H ps rs) (e : H p = some (.tup [.str r.1, .int r.2])) : Pr H (ps ++ [p]) (rs ++ [r]) := by
  refine ⟨by rw [List.length_append, List.length_append, h.1]; rfl, fun i q u a b => ?_⟩
  by_cases hi : i < ps.length
  · rw [List.getElem?_append_left hi] at a
    rw [List.getElem?_append_left (by rw [← h.1]; exact hi)] at b
    exact h.2 i q u a b
  · rw [List.getElem?_append_right (by omega)] at a
    rw [List.getElem?_append_right (by rw [← h.1]; omega), ← h.1] at b
    cases hk : i - ps.length with
    | zero =>
      rw [hk] at a b
      cases a
      cases b
      exact e
    | succ n =>
      rw [hk] at a
      simp at a
def spRules (K : Frag) (C : Addr) : Sp := fun vs H Q E => ∃ (a : Addr) (zs : List Str) (first : Nat), vs = [.ref a, .int first] ∧ SqL K H a (zs.map V.str) ∧ zs.length ≤ 900000 ∧ (∀ z ∈ zs, z.length ≤ 900000) ∧ first ≤ 10 ∧
  (∀ n, rulesIn zs first [] = .inl n → ∀ H' d, Same H H' → H' d = some (xv (.int (n : Nat))) → E (.ref C) (some d) H') ∧
  ∀ rs, rulesIn zs first [] = .inr rs → ∀ H' q ps, Same H H' → H q = none → H' q = some (.lst (ps.map V.ref)) → Pr H' ps rs → rs.length ≤ zs.length → Q (.ref q) H'
theorem scRules : FnScope ["lines", "first", "rules", "number", "line", "rule", "elder"] ["lines", "first"] (defScope sRules) := ⟨rfl, rfl, rfl, by decide +kernel, rfl, by decide +kernel, by decide +kernel⟩
theorem ok_rules {f fR fN fC C fI : Addr} {fd fdR fdN fdC : FuncData} (FP : FD K "read_rules" sRules f fd) (F : FxRule K w mg) (gE : mg "enumerate" = none) (T : ErrT K C fI) (gB : mg "BadBook" = some (.ref C))
    (FR : FD K "read_rule" sRule fR fdR) (gR : mg "read_rule" = some (.ref fR)) (bR : Binds K fdR ["line"] [])
    (FN : FD K "number_in" sNum fN fdN) (gN : mg "number_in" = some (.ref fN)) (bN : Binds K fdN ["word", "low", "high"] [])
    (FC : FD K "consists_of" sCons fC fdC) (gC : mg "consists_of" = some (.ref fC)) (bC : Binds K fdC ["text", "signs"] []) : FnOk P w K mg bs (L2.CX P w) 4 f fd ["lines", "first"] (spRules K C) := by
  have sc := scRules
  have GR : FnOk P w K mg bs CX0 3 fR fdR ["line"] spRule := ok_rule FR F FN gN bN FC gC bC
  refine FP.okX scRules (fun vs H Q E h => ?_) (fun cdv A outer s H vs Q E hr h => ?_)
  · obtain ⟨a, zs, n, rfl, _⟩ := h
    rfl
  · obtain ⟨a, zs, first, rfl, hS, hl, hz, hf, ke, kq⟩ := h
    refine ⟨_, pss_cons (ps_set (i := 2) sc.nd rfl (Or.inl rfl) (pe_lst pa_nil))
      (pss_cons (ps_for (passes_of rfl) rfl (pi_enumF (by rfl) gE (pa_cons (pv 0) (pa_cons (pv 1) pa_nil))) (pg_tup rfl (pgs_cons (pg_name (i := 3) sc.nd rfl (Or.inl rfl)) (pgs_cons (pg_name (i := 4) sc.nd rfl (Or.inl rfl)) pgs_nil)))
        (pss_cons (ps_set (i := 5) sc.nd rfl (Or.inl rfl) (pe_call GR hr (by rfl) gR FR.kp bR .nil pass0 (pa_cons (pv 4) pa_nil)))
        (pss_cons (ps_if (PW.pt (pw_or (pt_cmpR op_isN (pv 5) pe_non (nomark _)) (pw_or1 (pt_cmpR op_in_seq (pe_ix ix_tup (pv 5) pe_int (fun _ _ => rfl))
              (pe_lc (own := [("elder", 6)]) (g := gName 6) (by rfl) sc.nd (pi_list (pv 2)) (blkOk_by (N := ["lines", "first", "rules", "number", "line", "rule", "elder"]) (sc := defScope sRules) (by decide +kernel))
                (fun _ _ _ _ _ => pg_name (i := 6) sc.nd rfl (Or.inl rfl)) (fun _ _ _ _ _ => pts_nil)
                (fun _ _ _ _ _ => pe_ix (r := rIxT K) ix_tup (pv 6) pe_int (fun _ _ => rfl))) rfl))))
            (pss_one (ps_err rfl T gB hr (takes_of rfl rfl rfl rfl) (pa_cons (pv 3) pa_nil))) pss_nil)
        (pss_one (ps_expr (pe_bm PySem.F.plainAttrs_list PySem.F.slot_list_append PySem.F.type_list_append mt_append (pv 2) (pa_cons (pv 5) pa_nil)))))))
      (pss_one (ps_ret (pv 2)))), ?_⟩
    refine rd_seq (rd_set ?_)
    refine ⟨Nat.zero_le _, fun q hq => ?_⟩
    have hq0 : H q = none := hq
    have s1 : Same H (upd H q (.lst [])) := same_new hq
    have f1 : upd H q (.lst []) q = some (.lst []) := upd_same
    generalize upd H q (.lst []) = H1 at s1 f1 ⊢
    dsimp only
    refine rd_seq ?_
    refine ⟨_, rfl, _, rfl, a, _, _, rfl, s1.seq hS, by omega, by omega, for_it (walk_enumF (K := K) (xs := zs.map V.str)) (fun i σ H' => ∃ (v3 v4 v5 : Option V) (ps : List Addr) (rs : List (Str × Int)),
      σ = [some (.ref a), some (.int first), some (.ref q), v3, v4, v5, none] ∧ Same H H' ∧ H' q = some (.lst (ps.map V.ref)) ∧ Pr H' ps rs ∧ rulesIn (zs.drop i) (first + i) rs = rulesIn zs first [] ∧ rs.length ≤ i)
      ⟨none, none, none, [], [], rfl, s1, f1, ⟨rfl, fun i p r e => by simp at e⟩, rfl, Nat.le_refl _⟩ (fun i σ H' _ p => ?_) ?_ ?_⟩
    · obtain ⟨_, _, _, _, _, _, s2, _⟩ := p
      exact s2.seq hS
    · rintro i x σ H2 H3 hi ⟨v3, v4, v5, ps, rs, rfl, s2, e2, pr, eq, hle⟩ ⟨T0, x1, y1, rfl, hT, rfl, hx1, hy1⟩
      cases hx1
      have hi' : i < zs.length := by simpa using hi
      have hy2 : y1 = .str zs[i] := by
        dsimp only at hy1
        rw [List.getElem?_map, List.getElem?_eq_getElem hi'] at hy1
        exact (Option.some.inj hy1).symm
      subst hy2
      have hdrop : zs.drop i = zs[i] :: zs.drop (i + 1) := List.drop_eq_getElem_cons hi'
      have hzi : zs[i].length ≤ 900000 := hz _ (List.getElem_mem hi')
      generalize zs[i] = z at hdrop hzi ⊢
      rw [hdrop] at eq
      refine ⟨T0, _, rfl, SqT.of upd_same, rfl, _, _, rfl, _, _, rfl, rfl, ?_⟩
      have s3 : Same H2 (upd H2 T0 (.tup [.int (first + (i : Nat)), .str z])) := same_new hT
      generalize upd H2 T0 (.tup [.int (first + (i : Nat)), .str z]) = H3 at s3 ⊢
      dsimp only
      refine rd_seq (rd_set ?_)
      refine ⟨_, rfl, z, rfl, hzi, fun hn H4 s4 => ?_, fun wd n hs H4 p s4 hp0 hp => ?_⟩
      · dsimp only
        refine rd_seq (rd_if ?_)
        refine ⟨_, rfl, rfl, _, rfl, ?_⟩
        refine Eq.mpr (if_pos rfl) ?_
        refine Eq.mpr (if_pos rfl) ?_
        refine ⟨_, rfl, _, rfl, fun d hd => ?_⟩
        have e9 : rulesIn zs first [] = .inl (first + i) := by
          rw [← eq]
          unfold rulesIn
          rw [hn]
        have e8 : ((first : Nat) : Int) + ((i : Nat) : Int) = ((first + i : Nat) : Int) := by omega
        exact ke (first + i) e9 _ d (((s2.trans s3).trans s4).trans (same_new hd)) (by rw [upd_same, e8])
      · dsimp only
        have e4 := s4 _ _ (s3 _ _ e2)
        have pr4 := (pr.same s3).same s4
        refine rd_seq (rd_if ?_)
        refine ⟨_, rfl, rfl, _, rfl, ?_⟩
        refine Eq.mpr (if_neg (fun z => by cases of_decide_eq_true z)) ?_
        refine ⟨_, rfl, p, _, 0, .str wd, rfl, rfl, SqT.of hp, rfl, _, rfl, q, rfl, ⟨_, SqL.of e4⟩, fun D hD => lc_it walk_list (fun j H' => Same H4 H' ∧ H' D = some (.lst (((rs.take j).map Prod.fst).map V.str))) ⟨same_new hD, upd_same⟩ (fun _ _ _ u => SqL.of (u.1 _ _ e4)) ?_ ?_⟩
        · rintro j v H5 H6 hj ⟨s5, d5⟩ ⟨rfl, hv⟩
          have hj' : j < ps.length := by simpa using hj
          have hj2 : j < rs.length := by rw [← pr4.1]; exact hj'
          rw [List.getElem?_map, List.getElem?_eq_getElem hj'] at hv
          cases hv
          have hpj := (pr4.same s5).2 j _ _ (List.getElem?_eq_getElem hj') (List.getElem?_eq_getElem hj2)
          refine ⟨rfl, rd_yes rfl ?_⟩
          refine ⟨_, rfl, _, _, 0, .str rs[j].1, rfl, rfl, SqT.of hpj, rfl, _, d5, ?_, s5.mut hD, ?_⟩
          · rw [List.length_map, List.length_map, List.length_take]
            exact Nat.lt_of_le_of_lt (by omega : min j rs.length ≤ 900000) (by decide)
          · rw [upd_same, List.take_succ, List.getElem?_eq_getElem hj2, List.map_append, List.map_append]
            rfl
        · rintro H5 ⟨s5, d5⟩
          have hlen : (ps.map V.ref).length = rs.length := by rw [List.length_map]; exact pr4.1
          rw [hlen, List.take_length] at d5
          refine ⟨D, _, rfl, .inl (SqL.of d5), rfl, flat_strs _, _, rfl, ?_⟩
          have ei : inV (.str wd) ((rs.map Prod.fst).map V.str) = decide (wd ∈ rs.map Prod.fst) := inV_str wd _
          by_cases hm : wd ∈ rs.map Prod.fst
          · refine Eq.mpr (if_pos (by show inV _ _ = true; rw [ei]; exact decide_eq_true hm)) ?_
            refine ⟨_, rfl, _, rfl, fun d hd => ?_⟩
            have e9 : rulesIn zs first [] = .inl (first + i) := by
              rw [← eq]
              unfold rulesIn
              rw [hs]
              exact if_pos hm
            have e8 : ((first : Nat) : Int) + ((i : Nat) : Int) = ((first + i : Nat) : Int) := by omega
            exact ke (first + i) e9 _ d ((((s2.trans s3).trans s4).trans s5).trans (same_new hd)) (by rw [upd_same, e8])
          · refine Eq.mpr (if_neg (by show ¬ inV _ _ = true; rw [ei]; exact fun z => hm (of_decide_eq_true z))) ?_
            dsimp only [tNext]
            have e5 := s5 _ _ e4
            refine ⟨_, rfl, .inl ⟨rfl, _, SqL.of e5⟩, _, rfl, q, _, _, rfl, rfl, e5, Nat.lt_of_le_of_lt (by rw [List.length_map, pr4.1]; omega : (ps.map V.ref).length ≤ 900000) (by decide), ?_⟩
            refine ⟨_, _, _, ps ++ [p], rs ++ [(wd, n)], rfl, ((((s2.trans s3).trans s4).trans s5)).mut hq0, by rw [upd_same, List.map_append]; rfl, ?_, ?_, ?_⟩
            · have pr5 := (pr4.same s5).snoc (r := (wd, n)) (s5 _ _ hp)
              refine ⟨pr5.1, fun i2 p2 r2 a2 b2 => ?_⟩
              have h2 := pr5.2 i2 p2 r2 a2 b2
              rw [upd_ne (fun z => by rw [z, e5] at h2; cases h2)]
              exact h2
            · rw [← eq]
              conv => rhs; unfold rulesIn
              rw [hs]
              exact (if_neg hm).symm
            · rw [List.length_append]
              show rs.length + 1 ≤ i + 1
              omega
    · rintro σ H2 ⟨v3, v4, v5, ps, rs, rfl, s2, e2, pr, eq, hle⟩
      have hn : (zs.map V.str).length = zs.length := List.length_map ..
      rw [hn] at eq hle
      rw [List.drop_length] at eq
      exact ⟨_, rfl, kq rs eq.symm H2 q ps s2 hq e2 pr hle⟩
def bookW : List Str → Nat ⊕ (Str × List (Str × Int))
  | [] => .inl 1
  | l :: r => match amongIn l with
    | none => .inl 1
    | some a => match rulesIn r 2 [] with
      | .inl n => .inl n
      | .inr [] => .inl 2
      | .inr (x :: xs) => .inr (a, x :: xs)
def bookIn (z : Str) : Nat ⊕ (Str × List (Str × Int)) := bookW (Txt.split z "\n")
theorem bookW0 {l : Str} {r : List Str} (h : amongIn l = none) : bookW (l :: r) = .inl 1 := by simp [bookW, h]
theorem bookW1 {l a : Str} {r : List Str} {n : Nat} (h : amongIn l = some a) (e : rulesIn r 2 [] = .inl n) : bookW (l :: r) = .inl n := by simp [bookW, h, e]
theorem bookW2 {l a : Str} {r : List Str} (h : amongIn l = some a) (e : rulesIn r 2 [] = .inr []) : bookW (l :: r) = .inl 2 := by simp [bookW, h, e]
theorem bookW3 {l a : Str} {r : List Str} {x : Str × Int} {xs : List (Str × Int)} (h : amongIn l = some a) (e : rulesIn r 2 [] = .inr (x :: xs)) : bookW (l :: r) = .inr (a, x :: xs) := by simp [bookW, h, e]
theorem putF_len (f : Str) (y : V) : ∀ fs : List (Str × V), (putF f y fs).length ≤ fs.length + 1 := by
  intro fs
  induction fs with
  | nil => simp [putF]
  | cons a r ih =>
    unfold putF
    split
    · simp
    · simp only [List.length_cons]
      omega
/-- the book's own fields -/
def bookF (v a : V) (r : Addr) : List (Str × V) := putF "rules" (.ref r) (putF "among" a (putF "text" v []))
def spInit (K : Frag) (B C : Addr) : Sp := fun vs H Q E => ∃ (x dx : Addr) (v : V), vs = [.ref x, v] ∧ H x = some (.ins B dx []) ∧
  ((NoStr K H v ∧ ∀ H' d, Same H H' → H' d = some (xv (.int 0)) → E (.ref C) (some d) H') ∨
   ∃ z : Str, v = .str z ∧ z.length ≤ 800000 ∧
    (∀ n, bookIn z = .inl n → ∀ H' d, Same H H' → H' d = some (xv (.int (n : Nat))) → E (.ref C) (some d) H') ∧
    ∀ a rs, bookIn z = .inr (a, rs) → ∀ H' t ps, But x H H' → H t = none → H' x = some (.ins B dx (bookF v (.str a) t)) → H' t = some (.tup (ps.map V.ref)) → Pr H' ps rs → Q .non H')
theorem scInit : FnScope ["self", "text", "lines", "among", "rules"] ["self", "text"] (defScope sBook) := ⟨rfl, rfl, rfl, by decide +kernel, rfl, by decide +kernel, by decide +kernel⟩
structure FxInit (K : Frag) (mg : Str → Option Value) (B : Addr) : Prop where
  cls : Cls K B
  nT : NoAttr K B "text"
  nA : NoAttr K B "among"
  nR : NoAttr K B "rules"
  isi : mg "isinstance" = none
  tup : mg "tuple" = none
theorem ok_init {f fA fR1 fR fN fC B C fI : Addr} {fd fdA fdR1 fdR fdN fdC : FuncData} (FP : Fun K "__init__" "Book.__init__" sBook f fd) (FB : FxInit K mg B) (F : FxRule K w mg) (gE : mg "enumerate" = none) (T : ErrT K C fI) (gB : mg "BadBook" = some (.ref C))
    (FA : FD K "read_among" sAmong fA fdA) (gA : mg "read_among" = some (.ref fA)) (bA : Binds K fdA ["line"] [])
    (FS : FD K "read_rules" sRules fR1 fdR1) (gS : mg "read_rules" = some (.ref fR1)) (bS : Binds K fdR1 ["lines", "first"] [])
    (FR : FD K "read_rule" sRule fR fdR) (gR : mg "read_rule" = some (.ref fR)) (bR : Binds K fdR ["line"] [])
    (FN : FD K "number_in" sNum fN fdN) (gN : mg "number_in" = some (.ref fN)) (bN : Binds K fdN ["word", "low", "high"] [])
    (FC : FD K "consists_of" sCons fC fdC) (gC : mg "consists_of" = some (.ref fC)) (bC : Binds K fdC ["text", "signs"] []) : FnOk P w K mg bs (L2.CX P w) 5 f fd ["self", "text"] (spInit K B C) := by
  have sc := scInit
  have GA : FnOk P w K mg bs CX0 1 fA fdA ["line"] spAmong := ok_among FA F.num.len
  have GS : FnOk P w K mg bs (L2.CX P w) 4 fR1 fdR1 ["lines", "first"] (spRules K C) := ok_rules FS F gE T gB FR gR bR FN gN bN FC gC bC
  refine FP.okX scInit (fun vs H Q E h => ?_) (fun cdv A outer s H vs Q E hr h => ?_)
  · obtain ⟨x, dx, v, rfl, _⟩ := h
    rfl
  · obtain ⟨x, dx, v, rfl, hx, h⟩ := h
    have hr1 : Room 1 (A.deeper (envOfC "Book.__init__" (defScope sBook) s.heap.objs.size f cdv)) := hr.mono (by decide)
    refine ⟨_, pss_cons (ps_if (pt_not (pt_val (pe_callB call_isi (by rfl) FB.isi boot_isinstance (pa_cons (pv 1) (pa_cons (pe_bltn (v := .ty "str") (by rfl) F.num.str boot_str rfl) pa_nil)))))
        (pss_one (ps_err rfl T gB hr (takes_of rfl rfl rfl rfl) (pa_cons pe_int pa_nil))) pss_nil)
      (pss_cons (ps_set (i := 2) sc.nd rfl (Or.inl rfl) (pe_split (pv 1) pe_str))
      (pss_cons (ps_set (i := 3) sc.nd rfl (Or.inl rfl) (pe_call GA hr1 (by rfl) gA FA.kp bA .nil pass0 (pa_cons (pe_ix ix_list (pv 2) pe_int (fun _ _ => rfl)) pa_nil)))
      (pss_cons (ps_if (pt_cmpR op_isN (pv 3) pe_non (nomark _)) (pss_one (ps_err rfl T gB hr (takes_of rfl rfl rfl rfl) (pa_cons pe_int pa_nil))) pss_nil)
      (pss_cons (ps_set (i := 4) sc.nd rfl (Or.inl rfl) (pe_callS GS hr (by rfl) gS FS.kp bS (fun σ => passAt (takes_of rfl rfl rfl rfl) σ) (pa_cons (pe_slice sl_list (pv 2) (po_some pe_int) po_none) (pa_cons pe_int pa_nil))))
      (pss_cons (ps_if (pt_not (pt_truth (pv 4) (fun _ => rfl))) (pss_one (ps_err rfl T gB hr (takes_of rfl rfl rfl rfl) (pa_cons pe_int pa_nil))) pss_nil)
      (pss_cons (ps_fld (pv 0) (pv 1) rfl)
      (pss_cons (ps_fld (pv 0) (pv 3) rfl)
      (pss_one (ps_fld (pv 0) (pe_callTy call_tuple_of (by rfl) FB.tup boot_tuple (pa_cons (pv 4) pa_nil)) rfl))))))))), ?_⟩
    refine rd_seq (rd_if ?_)
    rcases h with ⟨⟨n, hT, hk⟩, ke⟩ | ⟨z, rfl, hz, ke, kq⟩
    · refine ⟨_, rfl, v, .ty "str", _, _, false, rfl, .ty "str", hT, kit_ty hk, _, rfl, ?_⟩
      refine Eq.mpr (if_pos rfl) ?_
      exact ⟨_, rfl, fun d hd => ke _ d (same_new hd) upd_same⟩
    · refine ⟨_, rfl, .str z, .ty "str", .type "str", _, true, rfl, .ty "str", .base (.str z), kit_ty (by decide +kernel), _, rfl, ?_⟩
      refine Eq.mpr (if_neg (by decide)) ?_
      dsimp only [tNext]
      refine rd_seq (rd_set ?_)
      have hz2 : z.length + 2 ≤ sizeLine := Nat.le_trans (by omega : z.length + 2 ≤ 1000000) (by decide)
      refine ⟨_, rfl, ⟨_, rfl⟩, z, _, rfl, rfl, rfl, hz2, fun p hp => ?_⟩
      have s1 : Same H (upd H p (.lst ((Txt.split z "\n").map V.str))) := same_new hp
      have f1 : upd H p (.lst ((Txt.split z "\n").map V.str)) p = some (.lst ((Txt.split z "\n").map V.str)) := upd_same
      generalize upd H p (.lst ((Txt.split z "\n").map V.str)) = H1 at s1 f1 ⊢
      dsimp only
      have part : ∀ y ∈ Txt.split z "\n", y.length ≤ z.length := fun y hy => split_part (s := 10) (by decide) (by rw [← nl_eq]; exact hy)
      have cnt : (Txt.split z "\n").length ≤ z.length + 1 := by
        have := split_len z (s := 10) (by decide)
        rw [← nl_eq] at this
        exact this
      have hne : Txt.split z "\n" ≠ [] := by
        have := split_ne z (s := 10) (by decide)
        rw [← nl_eq] at this
        exact this
      have e0 : bookIn z = bookW (Txt.split z "\n") := rfl
      generalize Txt.split z "\n" = W at f1 part cnt hne e0
      cases W with
      | nil => exact absurd rfl hne
      | cons l r =>
      refine rd_seq (rd_set ?_)
      refine ⟨_, rfl, p, _, 0, .str l, rfl, rfl, SqL.of f1, atI_nat (j := 0) (v := V.str l) rfl, l, rfl, Nat.le_trans (part l (by simp)) (by omega), fun H2 s2 => ?_⟩
      dsimp only
      refine rd_seq (rd_if ?_)
      refine ⟨_, rfl, rfl, _, rfl, ?_⟩
      cases ha : amongIn l with
      | none =>
        refine Eq.mpr (if_pos rfl) ?_
        refine ⟨_, rfl, fun d hd => ke 1 (e0.trans (bookW0 ha)) _ d ((s1.trans s2).trans (same_new hd)) upd_same⟩
      | some a =>
        refine Eq.mpr (if_neg (fun z => by cases of_decide_eq_true z)) ?_
        dsimp only [tNext]
        refine rd_seq (rd_set ?_)
        have f2 := s2 _ _ f1
        refine ⟨_, rfl, _, rfl, p, _, rfl, SqL.of f2, fun p2 hp2 => ?_⟩
        have ec : cutV ((l :: r).map V.str) (some 1) none = r.map V.str := by
          show ((((l :: r).map V.str).drop 1).take (((l :: r).map V.str).length - 1)) = r.map V.str
          rw [List.map_cons, List.drop_succ_cons, List.drop_zero, List.length_cons, Nat.add_sub_cancel, List.take_length]
        rw [ec]
        have s3 : Same H2 (upd H2 p2 (.lst (r.map V.str))) := same_new hp2
        have f3 : upd H2 p2 (.lst (r.map V.str)) p2 = some (.lst (r.map V.str)) := upd_same
        generalize upd H2 p2 (.lst (r.map V.str)) = H3 at s3 f3 ⊢
        refine ⟨p2, r, 2, rfl, SqL.of f3, ?_, fun y hy => Nat.le_trans (part y (List.mem_cons_of_mem _ hy)) (by omega), by omega, fun n hn H' d s d' => ?_, fun rs hn H4 q ps s4 hq e4 pr hl => ?_⟩
        · have := cnt
          rw [List.length_cons] at this
          omega
        · exact ke n (e0.trans (bookW1 ha hn)) H' d (((s1.trans s2).trans s3).trans s) d'
        · dsimp only
          refine rd_seq (rd_if ?_)
          refine ⟨_, rfl, _, .inl ⟨_, SqL.of e4, rfl⟩, ?_⟩
          cases rs with
          | nil =>
            have hps : ps = [] := List.length_eq_zero_iff.mp pr.1
            subst hps
            refine Eq.mpr (if_pos rfl) ?_
            refine ⟨_, rfl, fun d hd => ke 2 (e0.trans (bookW2 ha hn)) _ d ((((s1.trans s2).trans s3).trans s4).trans (same_new hd)) upd_same⟩
          | cons r0 rs =>
            cases ps with
            | nil => exact absurd pr.1 (by simp)
            | cons p0 ps =>
            refine Eq.mpr (if_neg (by simp)) ?_
            dsimp only [tNext]
            have hx4 := s4 _ _ (s3 _ _ (s2 _ _ (s1 _ _ hx)))
            have sA := ((s1.trans s2).trans s3).trans s4
            have eB : bookIn z = .inr (a, r0 :: rs) := e0.trans (bookW3 ha hn)
            refine rd_seq ?_
            refine ⟨_, rfl, _, rfl, x, B, dx, [], rfl, hx4, FB.cls, FB.nT, by simp, ?_⟩
            dsimp only
            refine rd_seq ?_
            refine ⟨_, rfl, _, rfl, x, B, dx, _, rfl, upd_same, FB.cls, FB.nA, Nat.lt_of_le_of_lt (putF_len _ _ _) (by simp), ?_⟩
            dsimp only
            rw [show optS (some a) = V.str a from rfl]
            have fx5 : upd (upd H4 x (.ins B dx (putF "text" (.str z) []))) x (.ins B dx (putF "among" (.str a) (putF "text" (.str z) []))) x = some (.ins B dx (putF "among" (.str a) (putF "text" (.str z) []))) := upd_same
            have k5 : But x H4 (upd (upd H4 x (.ins B dx (putF "text" (.str z) []))) x (.ins B dx (putF "among" (.str a) (putF "text" (.str z) [])))) := But.upd.trans But.upd
            generalize upd (upd H4 x (.ins B dx (putF "text" (.str z) []))) x (.ins B dx (putF "among" (.str a) (putF "text" (.str z) []))) = H5 at fx5 k5 ⊢
            have nqx : q ≠ x := Ne.symm (ne_of_none (s3 _ _ (s2 _ _ (s1 _ _ hx))) hq)
            have e5 := k5 _ _ nqx e4
            refine ⟨_, rfl, q, _, rfl, .inl ⟨SqL.of e5, fun t ht => ?_⟩⟩
            have s6 : Same H5 (upd H5 t (.tup ((p0 :: ps).map V.ref))) := same_new ht
            have ft : upd H5 t (.tup ((p0 :: ps).map V.ref)) t = some (.tup ((p0 :: ps).map V.ref)) := upd_same
            have fx6 := s6 _ _ fx5
            have ntx : t ≠ x := Ne.symm (ne_of_none fx5 ht)
            generalize upd H5 t (.tup ((p0 :: ps).map V.ref)) = H6 at s6 ft fx6 ⊢
            refine ⟨_, rfl, x, B, dx, _, rfl, fx6, FB.cls, FB.nR, Nat.lt_of_le_of_lt (putF_len _ _ _) (Nat.lt_of_le_of_lt (Nat.add_le_add_right (putF_len _ _ _) 1) (by simp)), ?_⟩
            have kk : But x H (upd H6 x (.ins B dx (putF "rules" (.ref t) (putF "among" (.str a) (putF "text" (.str z) []))))) := (((But.of sA).trans k5).trans (But.of s6)).trans But.upd
            refine kq a (r0 :: rs) eB _ t (p0 :: ps) kk ?_ upd_same ((upd_ne ntx).trans ft) ⟨pr.1, fun i p1 r1 h1 h2 => ?_⟩
            · exact sA.free (k5.free ht fx5)
            · have h3 := pr.2 i p1 r1 h1 h2
              have n3 : p1 ≠ x := fun e => by rw [e, hx4] at h3; cases h3
              exact (upd_ne n3).trans (s6 _ _ (k5 _ _ n3 h3))
end
end L2.K06

set_option Elab.async false
set_option linter.all false
set_option maxRecDepth 100000
set_option maxHeartbeats 4000000
namespace L2.K06
open PySem PySem.Spec PyProof.Rows L2.Vx
open PySem.W (Frag)
open TL (tl)
/-! ### the law's own reading of a number -/
theorem toNat_ofNat {c : Nat} (h : 48 ≤ c ∧ c ≤ 57) : (Char.ofNat c).toNat = c := by
  have : c = 48 ∨ c = 49 ∨ c = 50 ∨ c = 51 ∨ c = 52 ∨ c = 53 ∨ c = 54 ∨ c = 55 ∨ c = 56 ∨ c = 57 := by omega
  rcases this with rfl | rfl | rfl | rfl | rfl | rfl | rfl | rfl | rfl | rfl <;> rfl
theorem tl_numText {z : Str} (h : NumText.AllDigits (tl z)) : tl (numText (valOf z)) = (match (tl z).dropWhile (· == 48) with
    | [] => [48]
    | c :: r => c :: r) := by
  have e : tl (numText (valOf z)) = (Nat.toDigits 10 (valOf z)).map Char.toNat := TL.tl_num _
  rw [e]
  unfold valOf
  rw [NumText.toDigits_all _ h]
  have hd : ∀ x ∈ (tl z).dropWhile (· == 48), 48 ≤ x ∧ x ≤ 57 := fun x hx => h x ((List.dropWhile_sublist _).subset hx)
  generalize (tl z).dropWhile (· == 48) = m at hd ⊢
  cases m with
  | nil => rfl
  | cons c r =>
    dsimp only
    rw [List.map_map]
    have : ∀ x ∈ c :: r, (Char.toNat ∘ Char.ofNat) x = x := fun x hx => toNat_ofNat (hd x hx)
    exact (List.map_congr_left this).trans (List.map_id _)
theorem canon {z : Str} (h : NumText.AllDigits (tl z)) {c : Nat} {r : List Nat} (e : tl z = c :: r) : numText (valOf z) = z ↔ (c ≠ 48 ∨ z = "0") := by
  have t := tl_numText h
  rw [e, List.dropWhile_cons] at t
  by_cases hc : c = 48
  · subst hc
    rw [if_pos (by rfl)] at t
    constructor
    · intro q
      right
      rw [q, e] at t
      have hs : (r.dropWhile (· == 48)).length ≤ r.length := (List.dropWhile_sublist _).length_le
      generalize r.dropWhile (· == 48) = m at t hs
      cases m with
      | nil =>
        dsimp only at t
        exact TL.ext_tl (e.trans t)
      | cons a b =>
        dsimp only at t
        have := congrArg List.length t
        rw [List.length_cons] at this
        omega
    · rintro (q | q)
      · exact absurd rfl q
      · rw [q]
        rfl
  · rw [if_neg (by simpa using hc)] at t
    dsimp only at t
    exact ⟨fun _ => .inl hc, fun _ => TL.ext_tl (t.trans e.symm)⟩
theorem cut1 (z : Str) : cutS z none (some 1) = ⟨((tl z).take 1).toArray⟩ := by
  unfold cutS HT.sIx
  dsimp only
  rw [if_neg (by decide), Nat.sub_zero, List.drop_zero]
  have : (tl z).take (min (Int.toNat 1) z.length) = (tl z).take 1 := by
    rw [TL.len_tl]
    cases h : tl z with
    | nil => rfl
    | cons a b => rw [List.length_cons, Nat.min_eq_left (by show 1 ≤ _; omega)]; rfl
  rw [this]
theorem cut2 (z : Str) : cutS z (some 1) none = ⟨((tl z).drop 1).toArray⟩ := by
  unfold cutS HT.sIx
  dsimp only
  rw [if_neg (by decide)]
  have : (tl z).drop (min (Int.toNat 1) z.length) = (tl z).drop 1 := by
    rw [TL.len_tl]
    cases h : tl z with
    | nil => rfl
    | cons a b => rw [List.length_cons, Nat.min_eq_left (by show 1 ≤ _; omega)]; rfl
  rw [this, List.take_of_length_le]
  rw [List.length_drop, TL.len_tl]
  cases h : tl z with
  | nil => simp
  | cons a b => rw [List.length_cons, Nat.min_eq_left (by show 1 ≤ _; omega)]; exact Nat.le_refl _
theorem minus_cps : tl ("-" : Str) = [45] := by decide +kernel
theorem zero_cps : tl ("0" : Str) = [48] := by decide +kernel
theorem val_pos {c : Nat} {r : List Nat} (hc : c ≠ 48) (h : NumText.AllDigits (c :: r)) : 0 < NumText.digitsVal (c :: r) := NumText.digitsVal_pos (by have := h.head; omega)
theorem via {te : TE} {σ : St} {H : Hp} {Q : VK} (Pz : Str → Prop) (key : ∀ S, Pz S → Q (.str S) H) (ev : ∀ R : VK, (∀ S, Pz S → R (.str S) H) → te σ H R) : te σ H Q := ev Q key
def Sz (z S : Str) : Prop := S = z ∨ ∃ r, tl z = 45 :: r ∧ tl S = r
theorem sz_cases (z : Str) : (cutS z none (some 1) = "-" ∧ ∃ r, tl z = 45 :: r ∧ tl (cutS z (some 1) none) = r) ∨ cutS z none (some 1) ≠ "-" := by
  rw [cut1, cut2]
  cases h : tl z with
  | nil => exact .inr (by decide +kernel)
  | cons a r =>
    by_cases ha : a = 45
    · subst ha
      exact .inl ⟨TL.ext_tl (by rw [minus_cps]; rfl), r, rfl, rfl⟩
    · refine .inr fun q => ha ?_
      have := congrArg tl q
      rw [minus_cps] at this
      simpa [tl] using this
section
variable {P : Program} {w : World} {K : Frag} {mg : Str → Option Value} {bs : Heap}
def spNumOf : Sp := fun vs H Q _ => ∃ (z : Str) (lo hi : Int), vs = [.str z, .int lo, .int hi] ∧ 0 ≤ lo ∧ z.length ≤ 900000 ∧ ∀ H', Same H H' → Q (optV (numIn z lo hi)) H'
theorem scNumOf : FnScope ["word", "low", "high", "size", "sign"] ["word", "low", "high"] (defScope sNumOf) := ⟨rfl, rfl, rfl, by decide +kernel, rfl, by decide +kernel, by decide +kernel⟩
theorem ok_numOf {f : Addr} {fd : FuncData} (FP : FD K "_law_number_of" sNumOf f fd) (gL : mg "len" = none) (gI : mg "int" = none) (gA : mg "all" = none) : FnOk P w K mg bs CX0 1 f fd ["word", "low", "high"] spNumOf := by
  have sc := scNumOf
  refine FP.ok scNumOf (fun vs H Q E h => ?_) (fun cdv A outer s H vs Q E hr h => ?_)
  · obtain ⟨z, lo, hi, rfl, _⟩ := h
    rfl
  · obtain ⟨z, lo, hi, rfl, hlo, hz, k⟩ := h
    have hz2 : z.length ≤ sizeLine := Nat.le_trans hz (by decide)
    refine ⟨_, pss_cons (ps_set (i := 3) sc.nd rfl (Or.inl rfl) (pe_ifExp (pt_cmpR op_eq (pe_slice sl_str (pv 0) po_none (po_some pe_int)) pe_str (nomark _)) (pe_slice sl_str (pv 0) (po_some pe_int) po_none) (pv 0)))
      (pss_cons (ps_if (PW.pt (pw_or (pt_not (pt_chain op_lt op_lt pe_int (pe_callB call_len_str (by rfl) gL boot_len (pa_cons (pv 3) pa_nil)) pe_int))
          (pw_or1 (pt_not (pt_val (pe_callB (cr_all rfl) (by rfl) gA boot_all (pa_cons
            (pe_lc (own := [("sign", 4)]) (g := gName 4) (by rfl) sc.nd (pi_str (pv 3)) (blkOk_by (N := ["word", "low", "high", "size", "sign"]) (sc := defScope sNumOf) (by decide +kernel))
              (fun _ _ _ _ _ => pg_name (i := 4) sc.nd rfl (Or.inl rfl)) (fun _ _ _ _ _ => pts_nil)
              (fun _ _ _ _ _ => pe_cmpR op_in_sign (pv 4) pe_str rfl)) pa_nil)))))))
        (pss_one (ps_ret pe_non)) pss_nil)
      (pss_cons (ps_if (PW.pt (pw_and (pt_cmpR op_eq (pe_ix ix_str (pv 3) pe_int (fun _ _ => rfl)) pe_str (nomark _)) (pw_and1 (pt_cmpR op_ne (pv 0) pe_str (nomark _)))))
        (pss_one (ps_ret pe_non)) pss_nil)
      (pss_one (ps_ret (pe_ifExp (pt_chain op_le op_le (pv 1) (pe_callTy call_int_str (by rfl) gI boot_int (pa_cons (pv 0) pa_nil)) (pv 2)) (pe_callTy call_int_str (by rfl) gI boot_int (pa_cons (pv 0) pa_nil)) pe_non))))), ?_⟩
    refine rd_seq (rd_set ?_)
    refine via (Sz z) (fun S hS => ?_) (fun R hR => ?_)
    rotate_left
    · refine ⟨_, rfl, _, rfl, z, rfl, hz2, rfl, _, rfl, ?_⟩
      rcases sz_cases z with ⟨e, hr⟩ | e
      · refine Eq.mpr (if_pos (decide_eq_true (congrArg V.str e))) ?_
        exact ⟨_, rfl, _, rfl, z, rfl, hz2, hR _ (.inr hr)⟩
      · refine Eq.mpr (if_neg (fun q => e (V.str.inj (of_decide_eq_true q)))) ?_
        exact ⟨_, rfl, hR _ (.inl rfl)⟩
    dsimp only
    have fin : ∀ H', Same H H' → numIn z lo hi = none → Q .non H' := fun H' s e => by
      have q := k H' s
      rw [e] at q
      exact q
    have hSl : S.length ≤ z.length := by
      rcases hS with rfl | ⟨r, h1, h2⟩
      · exact Nat.le_refl _
      · rw [TL.len_tl, TL.len_tl, h1, h2, List.length_cons]
        omega
    -- what is not all figures, or too long, is no number either way
    have bad : ¬ ((1 ≤ S.length ∧ S.length ≤ 9) ∧ allIn S digitsS = true) → numIn z lo hi = none := fun q => by
      rcases hS with rfl | ⟨r, h1, h2⟩
      · exact if_neg q
      · refine if_neg fun p => ?_
        have := (allIn_digits.mp p.2) 45 (by show 45 ∈ tl z; rw [h1]; simp)
        omega
    refine rd_seq (rd_if ?_)
    refine ⟨_, rfl, S, rfl, Nat.le_trans hSl hz2, _, _, rfl, rfl, _, rfl, ?_⟩
    by_cases h1 : 1 ≤ S.length
    · refine Eq.mpr (if_pos (decide_eq_true (by omega))) ?_
      refine ⟨_, _, rfl, rfl, _, rfl, ?_⟩
      by_cases h2 : S.length ≤ 9
      · refine Eq.mpr (if_neg (by rw [decide_eq_true (by omega : ((S.length : Nat) : Int) < 10)]; decide)) ?_
        refine ⟨_, rfl, S, rfl, fun D hD => lc_it walk_str (fun i H' => Same H H' ∧ H' D = some (.lst (((S.cps.toList.take i).map fun c => decide (c ∈ digitsS.cps.toList)).map V.bl))) ⟨same_new hD, by rw [upd_same]; rfl⟩ (fun _ _ _ _ => trivial) ?_ ?_⟩
        · rintro i v H5 H6 hi ⟨s5, d5⟩ ⟨rfl, c, hc, rfl⟩
          refine ⟨rfl, rd_yes rfl ?_⟩
          refine ⟨_, rfl, c, digitsS, rfl, rfl, _, d5, ?_, s5.mut hD, ?_⟩
          · rw [List.length_map, List.length_map, List.length_take]
            have : S.cps.toList.length ≤ 9 := by simpa [Str.length] using h2
            exact Nat.lt_of_le_of_lt (by omega : min i S.cps.toList.length ≤ 9) (by decide)
          · have hc' : S.cps.toList[i]? = some c := by simpa using hc
            rw [upd_same, List.take_succ, hc', List.map_append, List.map_append]
            rfl
        · rintro H1 ⟨s1, d1⟩
          have e : S.cps.toList.take S.cps.size = S.cps.toList := List.take_of_length_le (by simp)
          rw [e] at d1
          refine ⟨D, _, rfl, SqL.of d1, _, rfl, ?_⟩
          have ea : (S.cps.toList.map fun c => decide (c ∈ digitsS.cps.toList)).all id = allIn S digitsS := by rw [List.all_map]; rfl
          rw [ea]
          cases hA : allIn S digitsS with
          | false =>
            refine Eq.mpr (if_pos rfl) ?_
            exact fin H1 s1 (bad fun q => by rw [hA] at q; cases q.2)
          | true =>
            refine Eq.mpr (if_neg (by decide)) ?_
            dsimp only [tNext]
            have hd := allIn_digits.mp hA
            have hv := val_small hd h2
            obtain ⟨c, r, eS⟩ : ∃ c r, tl S = c :: r := by
              cases h : tl S with
              | nil => rw [TL.len_tl, h] at h1; cases h1
              | cons c r => exact ⟨c, r, rfl⟩
            have hc := hd c (by show c ∈ tl S; rw [eS]; simp)
            refine rd_seq (rd_if ?_)
            refine ⟨_, rfl, S, 0, c, rfl, rfl, Nat.le_trans hSl hz2, by rw [show S.cps.toList = c :: r from eS]; exact atI_nat (j := 0) rfl, rfl, _, rfl, ?_⟩
            have hd48 : (V.str ⟨#[c]⟩ = V.str "0") ↔ c = 48 := by
              constructor
              · intro q
                have := congrArg tl (V.str.inj q)
                rw [zero_cps] at this
                simpa [tl] using this
              · rintro rfl
                rfl
            -- int(word)
            have hint : ∃ n : Int, intText? z = some n ∧ z.length ≤ 640 ∧ ((S = z ∧ n = ((valOf z : Nat) : Int)) ∨ (tl z = 45 :: c :: r ∧ n = -((valOf S : Nat) : Int))) := by
              rcases hS with rfl | ⟨r2, g1, g2⟩
              · exact ⟨_, intText_digits hd (by show tl S ≠ []; rw [eS]; simp) (by omega), by omega, .inl ⟨rfl, rfl⟩⟩
              · have g3 : tl z = 45 :: tl S := by rw [g1, g2]
                refine ⟨_, intText_neg (cs := tl S) g3 hd (by rw [eS]; simp) ?_, ?_, .inr ⟨by rw [g3, eS], rfl⟩⟩
                · rw [TL.len_tl, g3, List.length_cons, ← TL.len_tl]; omega
                · rw [TL.len_tl, g3, List.length_cons, ← TL.len_tl]; omega
            obtain ⟨n, hn, hz640, hnS⟩ := hint
            -- what the program takes
            have e0 : numIn z lo hi = if lo ≤ n ∧ n ≤ hi ∧ (c ≠ 48 ∨ z = "0") then some n else none := by
              rcases hnS with ⟨rfl, rfl⟩ | ⟨g, rfl⟩
              · have e2 : numIn S lo hi = if numText (valOf S) = S ∧ lo ≤ (valOf S : Int) ∧ (valOf S : Int) ≤ hi then some (valOf S : Int) else none := if_pos ⟨⟨h1, h2⟩, hA⟩
                rw [e2]
                have e3 := canon hd eS
                by_cases q : numText (valOf S) = S
                · have q2 := e3.mp q
                  simp only [q, q2, and_true, true_and]
                · have q2 : ¬ (c ≠ 48 ∨ S = "0") := fun u => q (e3.mpr u)
                  simp only [q, q2, and_false, false_and]
              · have q0 : numIn z lo hi = none := if_neg fun p => by
                  have := (allIn_digits.mp p.2) 45 (by show 45 ∈ tl z; rw [g]; simp)
                  omega
                rw [q0]
                refine (if_neg fun p => ?_).symm
                obtain ⟨p1, p2, p3⟩ := p
                rcases p3 with p3 | p3
                · have : 0 < valOf S := by
                    show 0 < NumText.digitsVal (tl S)
                    rw [eS]
                    exact val_pos p3 (by rw [← eS]; exact hd)
                  omega
                · have := congrArg tl p3
                  rw [g, zero_cps] at this
                  simp at this
            have e2 : (c ≠ 48 ∨ z = "0") → numIn z lo hi = if lo ≤ n ∧ n ≤ hi then some n else none := fun q => by
              rw [e0]
              simp only [q, and_true]
            have hcase : (c = 48 ∧ z ≠ "0") ∨ c ≠ 48 ∨ (c = 48 ∧ z = "0") := by
              by_cases a1 : c = 48
              · by_cases a2 : z = "0"
                · exact .inr (.inr ⟨a1, a2⟩)
                · exact .inl ⟨a1, a2⟩
              · exact .inr (.inl a1)
            rcases hcase with ⟨a1, a2⟩ | hcase
            · refine Eq.mpr (if_pos (decide_eq_true (hd48.mpr a1))) ?_
              refine ⟨_, rfl, rfl, _, rfl, ?_⟩
              refine Eq.mpr (if_pos (nf (fun q => a2 (V.str.inj q)))) ?_
              refine fin H1 s1 (e0.trans (if_neg fun p => ?_))
              rcases p.2.2 with b | b
              · exact b a1
              · exact a2 b
            have e3 := e2 (by rcases hcase with a | a; exact .inl a; exact .inr a.2)
            clear e2 e0
            rcases hcase with a1 | ⟨a1, a2⟩
            case' inl => refine Eq.mpr (if_neg (fun q => a1 (hd48.mp (of_decide_eq_true q)))) ?_
            case' inr =>
              refine Eq.mpr (if_pos (decide_eq_true (hd48.mpr a1))) ?_
              refine ⟨_, rfl, rfl, _, rfl, ?_⟩
              refine Eq.mpr (if_neg (nt (congrArg V.str a2))) ?_
            all_goals
              dsimp only [tNext]
              refine ⟨_, rfl, _, rfl, z, n, rfl, hn, hz640, _, _, rfl, rfl, _, rfl, ?_⟩
              by_cases l1 : lo ≤ n
              · refine Eq.mpr (if_pos (decide_eq_true l1)) ?_
                refine ⟨_, rfl, _, _, rfl, rfl, _, rfl, ?_⟩
                by_cases l2 : n ≤ hi
                · refine Eq.mpr (if_pos (decide_eq_true l2)) ?_
                  refine ⟨_, rfl, z, n, rfl, hn, hz640, ?_⟩
                  have q := k H1 s1
                  rw [e3, if_pos ⟨l1, l2⟩] at q
                  exact q
                · refine Eq.mpr (if_neg (fun q => l2 (of_decide_eq_true q))) ?_
                  exact fin H1 s1 (e3.trans (if_neg fun q => l2 q.2))
              · refine Eq.mpr (if_neg (fun q => l1 (of_decide_eq_true q))) ?_
                exact ⟨_, rfl, fin H1 s1 (e3.trans (if_neg fun q => l1 q.1))⟩
      · refine Eq.mpr (if_pos (by rw [decide_eq_false (by omega : ¬ ((S.length : Nat) : Int) < 10)]; rfl)) ?_
        exact fin H (Same.refl H) (bad fun q => h2 q.1.2)
    · refine Eq.mpr (if_neg (by rw [decide_eq_false (by omega : ¬ (0 : Int) < ((S.length : Nat) : Int))]; decide)) ?_
      exact ⟨_, rfl, fin H (Same.refl H) (bad fun q => h1 q.1.1)⟩
end
end L2.K06

set_option Elab.async false
set_option linter.all false
set_option maxRecDepth 100000
set_option maxHeartbeats 4000000
namespace L2.K06
open PySem PySem.Spec PyProof.Rows L2.Vx
open PySem.W (Frag)
open TL (tl)
/-! ### the law's own reading of a book -/
def lineA : List Str := ["among eldest", "among latest"]
theorem among_iff (l : Str) : amongIn l = none ↔ l ∉ lineA := by
  have e1 : Txt.split ("among eldest" : Str) " " = (["among", "eldest"] : List Str) := by
    rw [sp_eq]
    exact TL.map_tl_inj ((split_cut _ (by decide)).trans (by decide +kernel))
  have e2 : Txt.split ("among latest" : Str) " " = (["among", "latest"] : List Str) := by
    rw [sp_eq]
    exact TL.map_tl_inj ((split_cut _ (by decide)).trans (by decide +kernel))
  constructor
  · intro h hm
    rcases List.mem_cons.mp hm with rfl | hm
    · unfold amongIn at h
      rw [e1] at h
      revert h
      decide +kernel
    · rcases List.mem_cons.mp hm with rfl | hm
      · unfold amongIn at h
        rw [e2] at h
        revert h
        decide +kernel
      · cases hm
  · intro h
    cases hs : amongIn l with
    | none => rfl
    | some b =>
      exfalso
      apply h
      unfold amongIn at hs
      have key : ∀ W, Txt.split l " " = W → amongW W = some b → l ∈ lineA := fun W hW hA => by
        rcases W with _ | ⟨a, _ | ⟨b2, _ | ⟨c, r⟩⟩⟩
        · cases hA
        · cases hA
        · by_cases q : a = "among" ∧ (b2 = "eldest" ∨ b2 = "latest")
          · obtain ⟨rfl, q | q⟩ := q
            · subst q
              have : l = "among eldest" := split_inj (s := 32) (by decide) (by rw [← sp_eq, hW, e1])
              rw [this]
              simp [lineA]
            · subst q
              have : l = "among latest" := split_inj (s := 32) (by decide) (by rw [← sp_eq, hW, e2])
              rw [this]
              simp [lineA]
          · have : amongW [a, b2] = none := if_neg q
            rw [this] at hA
            cases hA
        · cases hA
      exact key _ rfl hs
theorem rule_word {z : Str} {a : Str} {n : Int} (h : ruleIn z = some (a, n)) : a ∈ ruleWords := by
  unfold ruleIn at h
  generalize Txt.split z " " = W at h
  rcases W with _ | ⟨x, _ | ⟨y, _ | ⟨c, r⟩⟩⟩
  · cases h
  · cases h
  · by_cases q : x ∈ ruleWords
    · have e : ruleW [x, y] = (numIn y (leastOf x) 99).map fun n => (x, n) := if_pos q
      rw [e] at h
      cases hn : numIn y (leastOf x) 99 with
      | none => rw [hn] at h; cases h
      | some m =>
        rw [hn] at h
        cases h
        exact q
    · have e : ruleW [x, y] = none := if_neg q
      rw [e] at h
      cases h
  · cases h
theorem dp_strs {K : Frag} {H : Hp} : ∀ ys : List Str, DpAll K H (ys.map V.str) (ys.map PyData.str)
  | [] => .nil
  | y :: ys => .cons (.str y) (dp_strs ys)
theorem depth_strs : ∀ ys : List Str, PyData.depthAll (ys.map PyData.str) = 0
  | [] => rfl
  | y :: ys => by simp [PyData.depthAll, PyData.depth, depth_strs ys]
theorem canLay_strs : ∀ ys : List Str, (∀ y ∈ ys, PyData.strOk y = true) → PyData.canLayAll0 (ys.map PyData.str) = true
  | [], _ => rfl
  | y :: ys, h => by
    have h1 := h y (by simp)
    have h2 := canLay_strs ys fun x hx => h x (List.mem_cons_of_mem _ hx)
    simp [PyData.canLayAll0, PyData.canLay0, h1, h2]
theorem shaped_strs (ys : List Str) (h : ∀ y ∈ ys, PyData.strOk y = true) : SeqAt.shaped (.list (ys.map PyData.str)) = true := by
  refine Bool.and_eq_true_iff.mpr ⟨canLay_strs ys h, decide_eq_true ?_⟩
  simp [PyData.depth, depth_strs ys]
theorem words_ok : ∀ y ∈ ruleWords, PyData.strOk y = true := by decide +kernel
theorem viaI {te : TE} {σ : St} {H : Hp} {Q : VK} (n : Int) (key : Q (.int n) H) (ev : ∀ R : VK, R (.int n) H → te σ H R) : te σ H Q := ev Q key
def dueOf (z : Str) : Int := match bookIn z with
  | .inl n => ((n : Nat) : Int)
  | .inr _ => -1
section
variable {P : Program} {w : World} {K : Frag} {mg : Str → Option Value} {bs : Heap}
def spDue (K : Frag) : Sp := fun vs H Q _ => ∃ v : V, vs = [v] ∧ ((NoStr K H v ∧ ∀ H', Same H H' → Q (.int 0) H') ∨ ∃ z : Str, v = .str z ∧ z.length ≤ 800000 ∧ ∀ H', Same H H' → Q (.int (dueOf z)) H')
theorem scDue : FnScope ["text", "lines", "known", "at", "line", "words"] ["text"] (defScope sDue) := ⟨rfl, rfl, rfl, by decide +kernel, rfl, by decide +kernel, by decide +kernel⟩
structure FxDue (mg : Str → Option Value) : Prop where
  len : mg "len" = none
  int : mg "int" = none
  all : mg "all" = none
  str : mg "str" = none
  isi : mg "isinstance" = none
  enu : mg "enumerate" = none
theorem ok_due {f fN : Addr} {fd fdN : FuncData} (FP : FD K "_law_book_due" sDue f fd) (F : FxDue mg)
    (FN : FD K "_law_number_of" sNumOf fN fdN) (gN : mg "_law_number_of" = some (.ref fN)) (bN : Binds K fdN ["word", "low", "high"] []) : FnOk P w K mg bs CX0 2 f fd ["text"] (spDue K) := by
  have sc := scDue
  have GN : FnOk P w K mg bs CX0 1 fN fdN ["word", "low", "high"] spNumOf := ok_numOf FN F.len F.int F.all
  refine FP.ok scDue (fun vs H Q E h => ?_) (fun cdv A outer s H vs Q E hr h => ?_)
  · obtain ⟨v, rfl, _⟩ := h
    rfl
  · obtain ⟨v, rfl, h⟩ := h
    refine ⟨_, pss_cons (ps_if (pt_not (pt_val (pe_callB call_isi (by rfl) F.isi boot_isinstance (pa_cons (pv 0) (pa_cons (pe_bltn (v := .ty "str") (by rfl) F.str boot_str rfl) pa_nil)))))
        (pss_one (ps_ret pe_int)) pss_nil)
      (pss_cons (ps_par (i := 1) (j := 2) rfl sc.nd rfl rfl (by decide) rfl rfl (pa_cons (pe_split (pv 0) pe_str) (pa_cons (pe_lst pa_nil) pa_nil)) rfl)
      (pss_cons (ps_if (pt_cmpR op_notIn_seq (pe_ix ix_list (pv 1) pe_int (fun _ _ => rfl)) (pe_tup (pa_cons pe_str (pa_cons pe_str pa_nil))) rfl) (pss_one (ps_ret pe_int)) pss_nil)
      (pss_cons (ps_for PassesOwn.never rfl (pi_enum (by rfl) F.enu (pa_cons (pe_slice sl_list (pv 1) (po_some pe_int) po_none) pa_nil)) (pg_tup rfl (pgs_cons (pg_name (i := 3) sc.nd rfl (Or.inl rfl)) (pgs_cons (pg_name (i := 4) sc.nd rfl (Or.inl rfl)) pgs_nil)))
        (pss_cons (ps_set (i := 5) sc.nd rfl (Or.inl rfl) (pe_split (pv 4) pe_str))
        (pss_cons (ps_if (PW.pt (pw_or (pt_cmpR op_ne (pe_callB call_len_seq (by rfl) F.len boot_len (pa_cons (pv 5) pa_nil)) pe_int (nomark _))
            (pw_or (pt_cmpR op_notIn_seq (pe_ix ix_list (pv 5) pe_int (fun _ _ => rfl)) (pe_tup (pa_cons pe_str (pa_cons pe_str (pa_cons pe_str (pa_cons pe_str (pa_cons pe_str pa_nil)))))) rfl)
            (pw_or1 (pt_cmpR op_in_seq (pe_ix ix_list (pv 5) pe_int (fun _ _ => rfl)) (pv 2) rfl)))))
          (pss_one (ps_ret (pe_op op_add (pv 3) pe_int))) pss_nil)
        (pss_cons (ps_if (pt_cmpR op_isN (pe_call GN hr (by rfl) gN FN.kp bN .nil pass0 (pa_cons (pe_ix ix_list (pv 5) pe_int (fun _ _ => rfl))
              (pa_cons (pe_ifExp (pt_cmpR op_eq (pe_ix ix_list (pv 5) pe_int (fun _ _ => rfl)) pe_str (nomark _)) pe_int pe_int) (pa_cons pe_int pa_nil)))) pe_non (nomark _))
          (pss_one (ps_ret (pe_op op_add (pv 3) pe_int))) pss_nil)
        (pss_one (ps_expr (pe_bm PySem.F.plainAttrs_list PySem.F.slot_list_append PySem.F.type_list_append mt_append (pv 2) (pa_cons (pe_ix ix_list (pv 5) pe_int (fun _ _ => rfl)) pa_nil))))))))
      (pss_one (ps_ret (pe_ifExp (pt_cmpR (op_eqD hr.units) (pv 2) (pe_lst pa_nil) (nomark _)) (pe_op op_add (pe_callB call_len_seq (by rfl) F.len boot_len (pa_cons (pv 1) pa_nil)) pe_int) (pe_un un_neg pe_int))))))), ?_⟩
    refine rd_seq (rd_if ?_)
    rcases h with ⟨⟨n, hT, hk⟩, k⟩ | ⟨z, rfl, hz, k⟩
    · refine ⟨_, rfl, v, .ty "str", _, _, false, rfl, .ty "str", hT, kit_ty hk, _, rfl, ?_⟩
      refine Eq.mpr (if_pos rfl) ?_
      exact k H (Same.refl H)
    · refine ⟨_, rfl, .str z, .ty "str", .type "str", _, true, rfl, .ty "str", .base (.str z), kit_ty (by decide +kernel), _, rfl, ?_⟩
      refine Eq.mpr (if_neg (by decide)) ?_
      dsimp only [tNext]
      refine rd_seq ?_
      have hz2 : z.length + 2 ≤ sizeLine := Nat.le_trans (by omega : z.length + 2 ≤ 1000000) (by decide)
      refine ⟨_, rfl, ⟨_, rfl⟩, z, _, rfl, rfl, rfl, hz2, fun p hp => ⟨Nat.zero_le _, fun q hq => ⟨_, _, rfl, ?_⟩⟩⟩
      dsimp only
      have s1 : Same H (upd H p (.lst ((Txt.split z "\n").map V.str))) := same_new hp
      have f1 : upd H p (.lst ((Txt.split z "\n").map V.str)) p = some (.lst ((Txt.split z "\n").map V.str)) := upd_same
      generalize upd H p (.lst ((Txt.split z "\n").map V.str)) = H1 at s1 f1 hq ⊢
      have hq0 : H q = none := s1.free hq
      have npq : p ≠ q := ne_of_none f1 hq
      have s2 : Same H (upd H1 q (.lst [])) := s1.trans (same_new hq)
      have f2 : upd H1 q (.lst []) p = some (.lst ((Txt.split z "\n").map V.str)) := (same_new hq) _ _ f1
      have q2 : upd H1 q (.lst []) q = some (.lst []) := upd_same
      generalize upd H1 q (.lst []) = H2 at s2 f2 q2 ⊢
      clear f1
      have part : ∀ y ∈ Txt.split z "\n", y.length ≤ z.length := fun y hy => split_part (s := 10) (by decide) (by rw [← nl_eq]; exact hy)
      have cnt : (Txt.split z "\n").length ≤ z.length + 1 := by
        have := split_len z (s := 10) (by decide)
        rw [← nl_eq] at this
        exact this
      have hne : Txt.split z "\n" ≠ [] := by
        have := split_ne z (s := 10) (by decide)
        rw [← nl_eq] at this
        exact this
      have e0 : bookIn z = bookW (Txt.split z "\n") := rfl
      generalize Txt.split z "\n" = W at f2 part cnt hne e0
      cases W with
      | nil => exact absurd rfl hne
      | cons l r =>
      refine rd_seq (rd_if ?_)
      refine ⟨_, rfl, p, _, 0, .str l, rfl, rfl, SqL.of f2, atI_nat (j := 0) (v := V.str l) rfl, (by exact (by decide : 2 ≤ sizeLine)), fun t ht => ⟨t, _, rfl, .inr (SqT.of upd_same), rfl, rfl, _, rfl, ?_⟩⟩
      have s3 : Same H2 (upd H2 t (.tup [.str "among eldest", .str "among latest"])) := same_new ht
      have ei : inV (.str l) [.str "among eldest", .str "among latest"] = decide (l ∈ lineA) := inV_str l lineA
      generalize upd H2 t (.tup [.str "among eldest", .str "among latest"]) = H3 at s3 ⊢
      by_cases hl : l ∈ lineA
      · refine Eq.mpr (if_neg (by show ¬ (!inV _ _) = true; rw [ei]; exact nt hl)) ?_
        dsimp only [tNext]
        obtain ⟨am, ha⟩ : ∃ am, amongIn l = some am := by
          cases h : amongIn l with
          | none => exact absurd hl ((among_iff l).mp h)
          | some am => exact ⟨am, rfl⟩
        refine rd_seq ?_
        have f3 := s3 _ _ f2
        have q3 := s3 _ _ q2
        have sH3 := s2.trans s3
        refine ⟨_, rfl, _, rfl, p, _, rfl, SqL.of f3, fun p2 hp2 => ?_⟩
        have ec : cutV ((l :: r).map V.str) (some 1) none = r.map V.str := by
          show ((((l :: r).map V.str).drop 1).take (((l :: r).map V.str).length - 1)) = r.map V.str
          rw [List.map_cons, List.drop_succ_cons, List.drop_zero, List.length_cons, Nat.add_sub_cancel, List.take_length]
        rw [ec]
        have s4 : Same H3 (upd H3 p2 (.lst (r.map V.str))) := same_new hp2
        have f4 : upd H3 p2 (.lst (r.map V.str)) p2 = some (.lst (r.map V.str)) := upd_same
        have n2 : p2 ≠ q := Ne.symm (ne_of_none q3 hp2)
        generalize upd H3 p2 (.lst (r.map V.str)) = H4 at s4 f4 ⊢
        have q4 := s4 _ _ q3
        have g4 := s4 _ _ f3
        have sH4 := sH3.trans s4
        refine ⟨p2, _, rfl, SqL.of f4, for_it (walk_enum (K := K) (xs := r.map V.str)) (fun i σ H' => ∃ (v3 v4 v5 : Option V) (rs : List (Str × Int)),
          σ = [some (.str z), some (.ref p), some (.ref q), v3, v4, v5] ∧ Same H H' ∧ H' p = some (.lst ((l :: r).map V.str)) ∧ H' p2 = some (.lst (r.map V.str)) ∧ H' q = some (.lst ((rs.map Prod.fst).map V.str)) ∧
          rulesIn (r.drop i) (2 + i) rs = rulesIn r 2 [] ∧ rs.length = i ∧ ∀ u ∈ rs, u.1 ∈ ruleWords)
          ⟨none, none, none, [], rfl, sH4, g4, f4, q4, rfl, rfl, fun u hu => by cases hu⟩ (fun i σ H' _ u => ?_) ?_ ?_⟩
        · obtain ⟨_, _, _, _, _, _, _, u, _⟩ := u
          exact SqL.of u
        · rintro i x σ H5 H6 hi ⟨v3, v4, v5, rs, rfl, s5, g5, f5, q5, eq, hle, hw⟩ ⟨T0, x1, y1, rfl, hT, rfl, hx1, hy1⟩
          cases hx1
          have hi' : i < r.length := by simpa using hi
          have hy2 : y1 = .str r[i] := by
            dsimp only at hy1
            rw [List.getElem?_map, List.getElem?_eq_getElem hi'] at hy1
            exact (Option.some.inj hy1).symm
          subst hy2
          have hrl : r.length ≤ 800000 := by
            rw [List.length_cons] at cnt
            omega
          have hdrop : r.drop i = r[i] :: r.drop (i + 1) := List.drop_eq_getElem_cons hi'
          have hyl : r[i].length ≤ 800000 := Nat.le_trans (part _ (List.mem_cons_of_mem _ (List.getElem_mem hi'))) hz
          generalize r[i] = y at hdrop hyl ⊢
          rw [hdrop] at eq
          refine ⟨T0, _, rfl, SqT.of upd_same, rfl, _, _, rfl, _, _, rfl, rfl, ?_⟩
          have s6 : Same H5 (upd H5 T0 (.tup [.int (i : Nat), .str y])) := same_new hT
          generalize upd H5 T0 (.tup [.int (i : Nat), .str y]) = H6 at s6 ⊢
          dsimp only
          have bad : ∀ H', Same H6 H' → (ruleIn y = none ∨ ∃ u, ruleIn y = some u ∧ u.1 ∈ rs.map Prod.fst) → Q (.int ((i : Nat) + 2)) H' := fun H' s h => by
            have e9 : rulesIn r 2 [] = .inl (2 + i) := by
              rw [← eq]
              rcases h with h | ⟨u, h, hu⟩
              · simp [rulesIn, h]
              · simp only [rulesIn, h]
                exact if_pos hu
            have hd2 : dueOf z = ((i : Nat) : Int) + 2 := by
              unfold dueOf
              rw [e0, bookW1 ha e9]
              show (((2 + i : Nat)) : Int) = _
              omega
            have q := k H' ((s5.trans s6).trans s)
            rw [hd2] at q
            exact q
          refine rd_seq (rd_set ?_)
          have hy3 : y.length + 2 ≤ sizeLine := Nat.le_trans (by omega : y.length + 2 ≤ 1000000) (by decide)
          refine ⟨_, rfl, ⟨_, rfl⟩, y, _, rfl, rfl, rfl, hy3, fun p5 hp5 => ?_⟩
          have s7 : Same H6 (upd H6 p5 (.lst ((Txt.split y " ").map V.str))) := same_new hp5
          have f7 : upd H6 p5 (.lst ((Txt.split y " ").map V.str)) p5 = some (.lst ((Txt.split y " ").map V.str)) := upd_same
          have n5 : p5 ≠ q := Ne.symm (ne_of_none (s6 _ _ q5) hp5)
          generalize upd H6 p5 (.lst ((Txt.split y " ").map V.str)) = H7 at s7 f7 ⊢
          dsimp only
          have party : ∀ x ∈ Txt.split y " ", x.length ≤ y.length := fun x hx => split_part (s := 32) (by decide) (by rw [← sp_eq]; exact hx)
          have er : ruleIn y = ruleW (Txt.split y " ") := rfl
          generalize Txt.split y " " = W at f7 party er
          refine rd_seq (rd_if ?_)
          refine ⟨_, rfl, p5, _, rfl, .inl (SqL.of f7), rfl, _, rfl, ?_⟩
          have out : ∀ H', Same H7 H' → (ruleIn y = none ∨ ∃ u, ruleIn y = some u ∧ u.1 ∈ rs.map Prod.fst) → Q (.int ((i : Nat) + 2)) H' := fun H' s h => bad H' (s7.trans s) h
          rcases W with _ | ⟨a, _ | ⟨b, _ | ⟨c, rr⟩⟩⟩
          · exact Eq.mpr (if_pos rfl) ⟨_, rfl, _, _, rfl, rfl, out H7 (Same.refl _) (.inl er)⟩
          · exact Eq.mpr (if_pos rfl) ⟨_, rfl, _, _, rfl, rfl, out H7 (Same.refl _) (.inl er)⟩
          rotate_left
          · refine Eq.mpr (if_pos (nf (fun q => ?_))) ⟨_, rfl, _, _, rfl, rfl, out H7 (Same.refl _) (.inl er)⟩
            have h := V.int.inj q
            simp only [List.length_map, List.length_cons] at h
            omega
          · refine Eq.mpr (if_neg (nt (by rfl))) ?_
            refine ⟨_, rfl, p5, _, 0, .str a, rfl, rfl, SqL.of f7, rfl, (by exact (by decide : 5 ≤ sizeLine)), fun t ht => ⟨t, _, rfl, .inr (SqT.of upd_same), rfl, rfl, _, rfl, ?_⟩⟩
            have ej : inV (.str a) [.str "corner", .str "wall", .str "level", .str "straight", .str "grid"] = decide (a ∈ ruleWords) := inV_str a ruleWords
            have s8 : Same H7 (upd H7 t (.tup [.str "corner", .str "wall", .str "level", .str "straight", .str "grid"])) := same_new ht
            generalize upd H7 t (.tup [.str "corner", .str "wall", .str "level", .str "straight", .str "grid"]) = H8 at s8 ⊢
            by_cases h1 : a ∈ ruleWords
            · refine Eq.mpr (if_neg (by show ¬ (!inV _ _) = true; rw [ej]; exact nt h1)) ?_
              have f8 := s8 _ _ f7
              have q8 := s8 _ _ (s7 _ _ (s6 _ _ q5))
              refine ⟨_, rfl, p5, _, 0, .str a, rfl, rfl, SqL.of f8, rfl, _, rfl, q, _, rfl, .inl (SqL.of q8), rfl, flat_strs _, _, rfl, ?_⟩
              have ek : inV (.str a) ((rs.map Prod.fst).map V.str) = decide (a ∈ rs.map Prod.fst) := inV_str a _
              have e1 : ruleIn y = (numIn b (leastOf a) 99).map fun n => (a, n) := er.trans (if_pos h1)
              by_cases h2 : a ∈ rs.map Prod.fst
              · refine Eq.mpr (if_pos (by show inV _ _ = true; rw [ek]; exact decide_eq_true h2)) ?_
                refine ⟨_, rfl, _, _, rfl, rfl, out H8 s8 ?_⟩
                cases hn : numIn b (leastOf a) 99 with
                | none => exact .inl (e1.trans (by rw [hn]; rfl))
                | some n => exact .inr ⟨(a, n), e1.trans (by rw [hn]; rfl), h2⟩
              · refine Eq.mpr (if_neg (by show ¬ inV _ _ = true; rw [ek]; exact fun z => h2 (of_decide_eq_true z))) ?_
                dsimp only [tNext]
                refine rd_seq (rd_if ?_)
                refine ⟨_, rfl, p5, _, 1, .str b, rfl, rfl, SqL.of f8, rfl, ?_⟩
                refine viaI (leastOf a) ?_ (fun R hR => ?_)
                rotate_left
                · refine ⟨_, rfl, p5, _, 0, .str a, rfl, rfl, SqL.of f8, rfl, rfl, _, rfl, ?_⟩
                  by_cases hg : a = "grid"
                  · refine Eq.mpr (if_pos (decide_eq_true (congrArg V.str hg))) ?_
                    have : leastOf a = 2 := if_pos hg
                    rw [this] at hR
                    exact hR
                  · refine Eq.mpr (if_neg (fun q => hg (V.str.inj (of_decide_eq_true q)))) ?_
                    have : leastOf a = 0 := if_neg hg
                    rw [this] at hR
                    exact hR
                refine ⟨b, leastOf a, 99, rfl, by unfold leastOf; split <;> decide, Nat.le_trans (party b (by simp)) (by omega), fun H9 s9 => ⟨rfl, _, rfl, ?_⟩⟩
                cases hn : numIn b (leastOf a) 99 with
                | none =>
                  refine Eq.mpr (if_pos rfl) ?_
                  exact ⟨_, rfl, _, _, rfl, rfl, out H9 (s8.trans s9) (.inl (e1.trans (by rw [hn]; rfl)))⟩
                | some n =>
                  refine Eq.mpr (if_neg (fun z => by cases of_decide_eq_true z)) ?_
                  dsimp only [tNext]
                  have q9 := s9 _ _ q8
                  have f9 := s9 _ _ f8
                  refine ⟨_, rfl, .inl ⟨rfl, _, SqL.of q9⟩, _, rfl, p5, _, 0, .str a, rfl, rfl, SqL.of f9, rfl, q, _, _, rfl, rfl, q9, Nat.lt_of_le_of_lt (by rw [List.length_map, List.length_map, hle]; omega : ((rs.map Prod.fst).map V.str).length ≤ 900000) (by decide), ?_⟩
                  have sAll := ((s6.trans s7).trans s8).trans s9
                  refine ⟨_, _, _, rs ++ [(a, n)], rfl, (s5.trans sAll).mut hq0, (upd_ne npq).trans (sAll _ _ g5), (upd_ne n2).trans (sAll _ _ f5), by rw [upd_same, List.map_append, List.map_append]; rfl, ?_, ?_, ?_⟩
                  · rw [← eq]
                    have e3 : ruleIn y = some (a, n) := e1.trans (by rw [hn]; rfl)
                    conv => rhs; unfold rulesIn
                    rw [e3]
                    exact (if_neg h2).symm
                  · rw [List.length_append, hle]
                    rfl
                  · intro u hu
                    rcases List.mem_append.mp hu with hu | hu
                    · exact hw u hu
                    · rw [List.mem_singleton.mp hu]
                      exact h1
            · refine Eq.mpr (if_pos (by show (!inV _ _) = true; rw [ej]; exact nf h1)) ?_
              exact ⟨_, rfl, _, _, rfl, rfl, out H8 s8 (.inl (er.trans (if_neg h1)))⟩
        · rintro σ H5 ⟨v3, v4, v5, rs, rfl, s5, g5, f5, q5, eq, hle, hw⟩
          have hn : (r.map V.str).length = r.length := List.length_map ..
          rw [hn] at eq hle
          rw [List.drop_length] at eq
          refine ⟨_, rfl, Nat.zero_le _, fun d hd => ?_⟩
          refine ⟨.list ((rs.map Prod.fst).map PyData.str), .list [], .lst (SqL.of ((same_new hd) _ _ q5)) (dp_strs _), .lst (SqL.of upd_same) .nil, shaped_strs _ (fun y hy => ?_), rfl, _, rfl, ?_⟩
          · obtain ⟨u, hu, rfl⟩ := List.mem_map.mp hy
            exact words_ok _ (hw u hu)
          · have s6 : Same H5 (upd H5 d (.lst [])) := same_new hd
            generalize upd H5 d (.lst []) = H6 at s6 ⊢
            have g6 := s6 _ _ g5
            cases rs with
            | nil =>
              refine Eq.mpr (if_pos rfl) ?_
              have hr0 : r = [] := List.length_eq_zero_iff.mp hle.symm
              subst hr0
              refine ⟨_, rfl, p, _, rfl, .inl (SqL.of g6), _, _, rfl, rfl, ?_⟩
              have hd2 : dueOf z = 2 := by unfold dueOf; rw [e0, bookW2 ha eq.symm]; rfl
              have q := k H6 (s5.trans s6)
              rw [hd2] at q
              exact q
            | cons u us =>
              refine Eq.mpr (if_neg (by simp [PyData.eqv, PyData.eqvAll])) ?_
              have hd2 : dueOf z = -1 := by unfold dueOf; rw [e0, bookW3 ha eq.symm]
              refine ⟨_, rfl, ?_⟩
              have q := k H6 (s5.trans s6)
              rw [hd2] at q
              exact q
      · refine Eq.mpr (if_pos (by show (!inV _ _) = true; rw [ei]; exact nf hl)) ?_
        have hd2 : dueOf z = 1 := by unfold dueOf; rw [e0, bookW0 ((among_iff l).mpr hl)]; rfl
        have q := k H3 (s2.trans s3)
        rw [hd2] at q
        exact q
end
end L2.K06

set_option Elab.async false
set_option linter.all false
set_option maxRecDepth 100000
set_option maxHeartbeats 4000000
namespace L2.K06
open PySem PySem.Spec PyProof.Rows L2.Vx
open PySem.W (Frag)
open TL (tl)
/-! ### a text with something otherwise -/
def parts1 : List Str := ["", "0", "1", "01", "-1", "-0", "99", "100", "999", "1000", "-999", "-1000", "+1", "x", "A", "a", "b"]
def parts2 : List Str := ["zzzzzzzzz", "point", "wall", "at", "by", "cross", "within", "hand", "level", "grid", "eldest"]
theorem parts_len : ∀ y ∈ parts1 ++ parts2, y.length ≤ 9 := by decide +kernel
def cutL (ys : List Str) (lo hi : Option Int) : List Str := (ys.drop (HT.sIx ys.length 0 lo)).take (HT.sIx ys.length ys.length hi - HT.sIx ys.length 0 lo)
theorem cutV_map (ys : List Str) (lo hi : Option Int) : cutV (ys.map V.str) lo hi = (cutL ys lo hi).map V.str := by
  unfold cutV cutL
  rw [List.length_map, ← List.map_drop, ← List.map_take]
theorem cutL_tot (ys : List Str) (lo hi : Option Int) : tot (cutL ys lo hi) ≤ tot ys := Nat.le_trans (tot_take _ _) (tot_drop _ _)
theorem nl1 : ("\n" : Str).length = 1 := by decide +kernel
theorem sp1 : (" " : Str).length = 1 := by decide +kernel
theorem map_erase (ys : List Str) (n : Nat) : (ys.map V.str).eraseIdx n = (ys.eraseIdx n).map V.str := by
  induction ys generalizing n with
  | nil => simp
  | cons y ys ih =>
    cases n with
    | zero => rfl
    | succ n => simp only [List.map_cons, List.eraseIdx_cons_succ, ih]
theorem map_ins (ys : List Str) (i : Nat) (y : Str) : (ys.map V.str).take i ++ [V.str y] ++ (ys.map V.str).drop i = (ys.take i ++ [y] ++ ys.drop i).map V.str := by
  rw [List.map_append, List.map_append, List.map_take, List.map_drop]
  rfl
theorem tot_ins (ys : List Str) (i : Nat) (y : Str) : tot (ys.take i ++ [y] ++ ys.drop i) = tot ys + (y.length + 1) := by
  rw [tot_append, tot_append, tot_cons, tot_nil]
  have := tot_cut ys i
  omega
theorem ixN_nat {n j : Nat} (h : j < n) : ixN n (j : Int) = some j := by
  unfold ixN
  rw [if_pos (by omega), if_pos (by omega), Int.toNat_natCast]
theorem sp_eq2 : (" " : Str) = ⟨#[32]⟩ := by decide +kernel
section
variable {P : Program} {w : World} {K : Frag} {mg : Str → Option Value} {bs : Heap}
def spSpoilt (K : Frag) : Sp := fun vs H Q _ => ∃ (p l m : Addr) (ys ms : List Str) (k : Int), vs = [.ref p, .ref l, .ref m] ∧ H l = some (.lst (ys.map V.str)) ∧ l ≠ p ∧ H m = some (.lst (ms.map V.str)) ∧ m ≠ p ∧ 0 < ys.length ∧ tot ys ≤ 900 ∧
  0 < ms.length ∧ ms.length ≤ 100 ∧ (∀ y ∈ ms, y.length ≤ 100) ∧ k < 999000 ∧ Pot H p k ∧ ∀ H' z, But p H H' → Pot H' p (k + 5) → z.length ≤ 3 * tot ys + 101 → Q (.str z) H'
theorem scSpoilt : FnScope ["pot", "lines", "more", "at", "spot", "way", "found", "words", "place", "some", "part"] ["pot", "lines", "more"] (defScope sSpoilt) := ⟨rfl, rfl, rfl, by decide +kernel, rfl, by decide +kernel, by decide +kernel⟩
theorem ok_spoilt {f fT fO : Addr} {fd fdT fdO : FuncData} (FP : FD K "_law_spoilt_text" sSpoilt f fd) (F : Dx mg) (FT : FD K "_law_take" sTake fT fdT) (gT : mg "_law_take" = some (.ref fT)) (bT : Binds K fdT ["pot", "upto"] [])
    (FO : FD K "_law_of" sOf fO fdO) (gO : mg "_law_of" = some (.ref fO)) (bO : Binds K fdO ["pot", "some"] []) : FnOk P w K mg bs CX0 3 f fd ["pot", "lines", "more"] (spSpoilt K) := by
  have sc := scSpoilt
  have GT : FnOk P w K mg bs CX0 1 fT fdT ["pot", "upto"] spTake := ok_take FT F
  have GO : FnOk P w K mg bs CX0 2 fO fdO ["pot", "some"] (spOf K) := ok_of FO F FT gT bT
  refine FP.ok scSpoilt (fun vs H Q E h => ?_) (fun cdv A outer s H vs Q E hr h => ?_)
  · obtain ⟨p, l, m, ys, ms, k, rfl, _⟩ := h
    rfl
  · obtain ⟨p, l, m, ys, ms, t, rfl, hl, nlp, hm, nmp, hy0, hy, hm0, hm1, hms, ht, hP, k⟩ := h
    have hr1 : Room 1 (A.deeper (envOfC "_law_spoilt_text" (defScope sSpoilt) s.heap.objs.size f cdv)) := hr.mono (by decide)
    refine ⟨_, pss_cons (ps_par3 (i := 3) (j := 4) (l := 5) rfl sc.nd rfl rfl rfl (by decide) (by decide) (by decide) rfl rfl rfl
        (pa_cons (pe_call GT hr1 (by rfl) gT FT.kp bT .nil pass0 (pa_cons (pv 0) (pa_cons (pe_callB call_len_seq (by rfl) F.len boot_len (pa_cons (pv 1) pa_nil)) pa_nil)))
        (pa_cons (pe_call GT hr1 (by rfl) gT FT.kp bT .nil pass0 (pa_cons (pv 0) (pa_cons (pe_callB call_len_seq (by rfl) F.len boot_len (pa_cons (pv 1) pa_nil)) pa_nil)))
        (pa_cons (pe_call GT hr1 (by rfl) gT FT.kp bT .nil pass0 (pa_cons (pv 0) (pa_cons pe_int pa_nil))) pa_nil))) rfl)
      (pss_cons (ps_set (i := 6) sc.nd rfl (Or.inl rfl) (pe_callTy call_list_of (by rfl) F.list boot_list (pa_cons (pv 1) pa_nil)))
      (pss_cons (ps_if (pt_cmpR op_eq (pv 5) pe_int (nomark _))
          (pss_one (ps_set (i := 6) sc.nd rfl (Or.inl rfl) (pe_op op_cat (pe_slice sl_list (pv 1) po_none (po_some (pv 3))) (pe_slice sl_list (pv 1) (po_some (pe_op op_add (pv 3) pe_int)) po_none))))
        (pss_one (ps_if (pt_cmpR op_eq (pv 5) pe_int (nomark _))
          (pss_one (ps_set (i := 6) sc.nd rfl (Or.inl rfl) (pe_op op_cat (pe_op op_cat (pe_slice sl_list (pv 1) po_none (po_some (pv 3))) (pe_slice sl_list (pv 1) (po_some (pv 3)) (po_some (pe_op op_add (pv 3) pe_int)))) (pe_slice sl_list (pv 1) (po_some (pv 3)) po_none))))
        (pss_one (ps_if (pt_cmpR op_eq (pv 5) pe_int (nomark _))
          (pss_one (ps_expr (pe_bm PySem.F.plainAttrs_list PySem.F.slot_list_insert PySem.F.type_list_insert mt_insert (pv 6) (pa_cons (pv 4) (pa_cons (pe_bm PySem.F.plainAttrs_list PySem.F.slot_list_pop PySem.F.type_list_pop mt_popAt (pv 6) (pa_cons (pv 3) pa_nil)) pa_nil)))))
        (pss_one (ps_if (pt_cmpR op_eq (pv 5) pe_int (nomark _))
          (pss_one (ps_expr (pe_bm PySem.F.plainAttrs_list PySem.F.slot_list_insert PySem.F.type_list_insert mt_insert (pv 6) (pa_cons (pv 3) (pa_cons (pe_call GO hr (by rfl) gO FO.kp bO .nil pass0 (pa_cons (pv 0) (pa_cons (pv 2) pa_nil))) pa_nil)))))
        (pss_cons (ps_set (i := 7) sc.nd rfl (Or.inl rfl) (pe_split (pe_ix ix_list (pv 1) (pv 3) (fun _ _ => rfl)) pe_str))
        (pss_cons (ps_set (i := 8) sc.nd rfl (Or.inl rfl) (pe_call GT hr1 (by rfl) gT FT.kp bT .nil pass0 (pa_cons (pv 0) (pa_cons (pe_callB call_len_seq (by rfl) F.len boot_len (pa_cons (pv 7) pa_nil)) pa_nil))))
        (pss_cons (ps_set (i := 9) sc.nd rfl (Or.inl rfl) (pe_lst (pa_cons pe_str (pa_cons pe_str (pa_cons pe_str (pa_cons pe_str (pa_cons pe_str (pa_cons pe_str (pa_cons pe_str (pa_cons pe_str (pa_cons pe_str (pa_cons pe_str (pa_cons pe_str (pa_cons pe_str (pa_cons pe_str (pa_cons pe_str (pa_cons pe_str (pa_cons pe_str (pa_cons pe_str pa_nil)))))))))))))))))))
        (pss_cons (ps_expr (pe_bm PySem.F.plainAttrs_list PySem.F.slot_list_extend PySem.F.type_list_extend mt_extend (pv 9) (pa_cons (pe_lst (pa_cons pe_str (pa_cons pe_str (pa_cons pe_str (pa_cons pe_str (pa_cons pe_str (pa_cons pe_str (pa_cons pe_str (pa_cons pe_str (pa_cons pe_str (pa_cons pe_str (pa_cons pe_str pa_nil)))))))))))) pa_nil)))
        (pss_cons (ps_set (i := 10) sc.nd rfl (Or.inl rfl) (pe_call GO hr (by rfl) gO FO.kp bO .nil pass0 (pa_cons (pv 0) (pa_cons (pv 9) pa_nil))))
        (Evl.pss_cut (ps_if (pt_cmpR op_eq (pv 5) pe_int (nomark _))
            (pss_one (ps_expr (pe_bm PySem.F.plainAttrs_list PySem.F.slot_list_insert PySem.F.type_list_insert mt_insert (pv 7) (pa_cons (pv 8) (pa_cons (pv 10) pa_nil)))))
          (pss_one (ps_if (pt_cmpR op_eq (pv 5) pe_int (nomark _))
            (pss_one (ps_expr (pe_bm PySem.F.plainAttrs_list PySem.F.slot_list_pop PySem.F.type_list_pop mt_popAt (pv 7) (pa_cons (pv 8) pa_nil))))
            (pss_one (ps_asg (pv 10) (pg_sub (pv 7) (pv 8) set_list))))))
        (pss_one (ps_asg (pe_join pe_str (pv 7)) (pg_sub (pv 6) (pv 3) set_list))))))))))))))))
      (pss_one (ps_ret (pe_join pe_str (pv 6)))))), ?_⟩
    have hyl := tot_len ys
    have el : ((ys.map V.str).length : Int) = (ys.length : Int) := by rw [List.length_map]
    refine rd_seq ?_
    refine ⟨_, rfl, _, rfl, l, _, rfl, .inl (SqL.of hl), p, _, t, rfl, by omega, by omega, by omega, hP, fun Ha a ka hPa a0 a1 => ?_⟩
    have hla := ka _ _ nlp hl
    refine ⟨_, rfl, _, rfl, l, _, rfl, .inl (SqL.of hla), p, _, t + 1, rfl, by omega, by omega, by omega, hPa, fun Hb b kb hPb b0 b1 => ?_⟩
    have hlb := kb _ _ nlp hla
    refine ⟨_, rfl, p, 8, t + 1 + 1, rfl, by decide, by decide, by omega, hPb, fun Hc way kc hPc w0 w1 => ⟨_, _, _, rfl, ?_⟩⟩
    have hlc := kc _ _ nlp hlb
    have hmc := kc _ _ nmp (kb _ _ nmp (ka _ _ nmp hm))
    have kC := (ka.trans kb).trans kc
    rw [el] at a1 b1
    clear hPa hPb
    have hPc : Pot Hc p (t + 3) := hPc.mono (by omega)
    dsimp only
    refine rd_seq (rd_set ?_)
    refine ⟨_, rfl, l, _, rfl, .inl (SqL.of hlc), fun F hF => ?_⟩
    have sF : Same Hc (upd Hc F (.lst (ys.map V.str))) := same_new hF
    have fF : upd Hc F (.lst (ys.map V.str)) F = some (.lst (ys.map V.str)) := upd_same
    have nFp : F ≠ p := hPc.ne hF
    have nFl : F ≠ l := Ne.symm (ne_of_none hlc hF)
    have hld := sF _ _ hlc
    have hmd := sF _ _ hmc
    have hPd := hPc.same sF
    have kD := kC.trans (But.of sF)
    have hF0 : H F = none := kC.free hF hPc.some.choose_spec
    generalize upd Hc F (.lst (ys.map V.str)) = Hd at sF fF hld hmd hPd kD ⊢
    clear hla hlb hlc hmc hPc kC ka kb kc sF
    dsimp only
    obtain ⟨ja, rfl⟩ : ∃ j : Nat, a = (j : Int) := ⟨a.toNat, by omega⟩
    obtain ⟨jb, rfl⟩ : ∃ j : Nat, b = (j : Int) := ⟨b.toNat, by omega⟩
    have hja : ja < ys.length := by omega
    refine rd_seq (rd_if ?_)
    refine ⟨_, rfl, rfl, _, rfl, ?_⟩
    by_cases c0 : V.int way = V.int 0
    · refine Eq.mpr (if_pos (decide_eq_true c0)) ?_
      refine rd_set ?_
      refine ⟨_, rfl, _, rfl, _, rfl, l, _, rfl, SqL.of hld, fun q1 h1 => ?_⟩
      have g1 : upd Hd q1 (.lst (cutV (ys.map V.str) none (some (ja : Int)))) q1 = some (.lst ((cutL ys none (some (ja : Int))).map V.str)) := by rw [upd_same, cutV_map]
      have s1 : Same Hd (upd Hd q1 (.lst (cutV (ys.map V.str) none (some (ja : Int))))) := same_new h1
      generalize upd Hd q1 (.lst (cutV (ys.map V.str) none (some (ja : Int)))) = H1 at g1 s1 ⊢
      refine ⟨_, rfl, _, rfl, _, _, rfl, rfl, _, rfl, l, _, rfl, SqL.of (s1 _ _ hld), fun q2 h2 => ?_⟩
      have g2 : upd H1 q2 (.lst (cutV (ys.map V.str) (some ((ja : Int) + 1)) none)) q2 = some (.lst ((cutL ys (some ((ja : Int) + 1)) none).map V.str)) := by rw [upd_same, cutV_map]
      have s2 : Same H1 (upd H1 q2 (.lst (cutV (ys.map V.str) (some ((ja : Int) + 1)) none))) := same_new h2
      generalize upd H1 q2 (.lst (cutV (ys.map V.str) (some ((ja : Int) + 1)) none)) = H2 at g2 s2 ⊢
      have l1 := cutL_tot ys none (some (ja : Int))
      have l2 := cutL_tot ys (some ((ja : Int) + 1)) none
      have m1 := tot_len (cutL ys none (some (ja : Int)))
      have m2 := tot_len (cutL ys (some ((ja : Int) + 1)) none)
      refine ⟨q1, q2, _, _, rfl, rfl, s2 _ _ g1, g2, Nat.le_trans (by rw [List.length_map, List.length_map]; omega : _ ≤ 10000) (by decide), fun G hG => ?_⟩
      rw [← List.map_append]
      dsimp only
      have s3 : Same H2 (upd H2 G (.lst ((cutL ys none (some (ja : Int)) ++ cutL ys (some ((ja : Int) + 1)) none).map V.str))) := same_new hG
      have tt := tot_append (cutL ys none (some (ja : Int))) (cutL ys (some ((ja : Int) + 1)) none)
      refine ⟨⟨_, rfl⟩, _, rfl, "\n", G, _, rfl, rfl, .inl (SqL.of upd_same), by rw [tot_sum _ nl1, tt]; omega, ?_⟩
      exact k _ _ (kD.trans (But.of ((s1.trans s2).trans s3))) ((hPd.same ((s1.trans s2).trans s3)).mono (by omega)) (Nat.le_trans (join_tot nl1 _) (by rw [tt]; omega))
    · refine Eq.mpr (if_neg (fun q => c0 (of_decide_eq_true q))) ?_
      refine rd_if ?_
      refine ⟨_, rfl, rfl, _, rfl, ?_⟩
      by_cases c1 : V.int way = V.int 1
      · refine Eq.mpr (if_pos (decide_eq_true c1)) ?_
        refine rd_set ?_
        refine ⟨_, rfl, _, rfl, _, rfl, l, _, rfl, SqL.of hld, fun q1 h1 => ?_⟩
        have g1 : upd Hd q1 (.lst (cutV (ys.map V.str) none (some (ja : Int)))) q1 = some (.lst ((cutL ys none (some (ja : Int))).map V.str)) := by rw [upd_same, cutV_map]
        have s1 : Same Hd (upd Hd q1 (.lst (cutV (ys.map V.str) none (some (ja : Int))))) := same_new h1
        generalize upd Hd q1 (.lst (cutV (ys.map V.str) none (some (ja : Int)))) = H1 at g1 s1 ⊢
        refine ⟨_, rfl, _, rfl, _, rfl, _, rfl, _, _, rfl, rfl, _, rfl, l, _, rfl, SqL.of (s1 _ _ hld), fun q2 h2 => ?_⟩
        have g2 : upd H1 q2 (.lst (cutV (ys.map V.str) (some (ja : Int)) (some ((ja : Int) + 1)))) q2 = some (.lst ((cutL ys (some (ja : Int)) (some ((ja : Int) + 1))).map V.str)) := by rw [upd_same, cutV_map]
        have s2 : Same H1 (upd H1 q2 (.lst (cutV (ys.map V.str) (some (ja : Int)) (some ((ja : Int) + 1))))) := same_new h2
        generalize upd H1 q2 (.lst (cutV (ys.map V.str) (some (ja : Int)) (some ((ja : Int) + 1)))) = H2 at g2 s2 ⊢
        have l1 := cutL_tot ys none (some (ja : Int))
        have l2 := cutL_tot ys (some (ja : Int)) (some ((ja : Int) + 1))
        have l3 := cutL_tot ys (some (ja : Int)) none
        have m1 := tot_len (cutL ys none (some (ja : Int)))
        have m2 := tot_len (cutL ys (some (ja : Int)) (some ((ja : Int) + 1)))
        have m3 := tot_len (cutL ys (some (ja : Int)) none)
        refine ⟨q1, q2, _, _, rfl, rfl, s2 _ _ g1, g2, Nat.le_trans (by rw [List.length_map, List.length_map]; omega : _ ≤ 10000) (by decide), fun q3 h3 => ?_⟩
        rw [← List.map_append]
        have g3 : upd H2 q3 (.lst ((cutL ys none (some (ja : Int)) ++ cutL ys (some (ja : Int)) (some ((ja : Int) + 1))).map V.str)) q3 = some (.lst ((cutL ys none (some (ja : Int)) ++ cutL ys (some (ja : Int)) (some ((ja : Int) + 1))).map V.str)) := upd_same
        have s3 : Same H2 (upd H2 q3 (.lst ((cutL ys none (some (ja : Int)) ++ cutL ys (some (ja : Int)) (some ((ja : Int) + 1))).map V.str))) := same_new h3
        have tt := tot_append (cutL ys none (some (ja : Int))) (cutL ys (some (ja : Int)) (some ((ja : Int) + 1)))
        have mm := List.length_append (as := cutL ys none (some (ja : Int))) (bs := cutL ys (some (ja : Int)) (some ((ja : Int) + 1)))
        generalize cutL ys none (some (ja : Int)) ++ cutL ys (some (ja : Int)) (some ((ja : Int) + 1)) = W at g3 s3 tt mm ⊢
        generalize upd H2 q3 (.lst (W.map V.str)) = H3 at g3 s3 ⊢
        refine ⟨_, rfl, _, rfl, _, rfl, l, _, rfl, SqL.of (s3 _ _ (s2 _ _ (s1 _ _ hld))), fun q4 h4 => ?_⟩
        have g4 : upd H3 q4 (.lst (cutV (ys.map V.str) (some (ja : Int)) none)) q4 = some (.lst ((cutL ys (some (ja : Int)) none).map V.str)) := by rw [upd_same, cutV_map]
        have s4 : Same H3 (upd H3 q4 (.lst (cutV (ys.map V.str) (some (ja : Int)) none))) := same_new h4
        generalize upd H3 q4 (.lst (cutV (ys.map V.str) (some (ja : Int)) none)) = H4 at g4 s4 ⊢
        refine ⟨q3, q4, _, _, rfl, rfl, s4 _ _ g3, g4, Nat.le_trans (by rw [List.length_map, List.length_map]; omega : _ ≤ 10000) (by decide), fun G hG => ?_⟩
        rw [← List.map_append]
        dsimp only
        have s5 : Same H4 (upd H4 G (.lst ((W ++ cutL ys (some (ja : Int)) none).map V.str))) := same_new hG
        have t2 := tot_append W (cutL ys (some (ja : Int)) none)
        have sA := (((s1.trans s2).trans s3).trans s4).trans s5
        refine ⟨⟨_, rfl⟩, _, rfl, "\n", G, _, rfl, rfl, .inl (SqL.of upd_same), by rw [tot_sum _ nl1, t2]; omega, ?_⟩
        exact k _ _ (kD.trans (But.of sA)) ((hPd.same sA).mono (by omega)) (Nat.le_trans (join_tot nl1 _) (by rw [t2]; omega))
      · refine Eq.mpr (if_neg (fun q => c1 (of_decide_eq_true q))) ?_
        refine rd_if ?_
        refine ⟨_, rfl, rfl, _, rfl, ?_⟩
        obtain ⟨ya, hya⟩ : ∃ y, ys[ja]? = some y := ⟨_, List.getElem?_eq_getElem hja⟩
        have hya2 : (ys.map V.str)[ja]? = some (V.str ya) := by rw [List.getElem?_map, hya]; rfl
        by_cases c2 : V.int way = V.int 2
        · refine Eq.mpr (if_pos (decide_eq_true c2)) ?_
          refine ⟨_, rfl, .inl ⟨rfl, _, SqL.of fF⟩, _, rfl, _, rfl, .inl ⟨rfl, _, SqL.of fF⟩, _, rfl, F, _, _, ja, _, rfl, rfl, fF, by omega, by omega, seqIndex_of (by omega) (by rw [List.length_map]; omega), hya2, ?_⟩
          rw [map_erase]
          refine ⟨F, _, (jb : Int), V.str ya, rfl, rfl, upd_same, Nat.lt_of_le_of_lt (by rw [List.length_map]; exact Nat.le_trans (tot_len _) (Nat.le_trans (tot_erase _ _) hy) : _ ≤ 900) (by decide), by omega, by omega, ?_⟩
          rw [map_ins]
          dsimp only
          have t1 := tot_ins (ys.eraseIdx ja) (Int.toNat (jb : Int)) ya
          have t2 := tot_erase_at ys ja ya hya
          refine ⟨⟨_, rfl⟩, _, rfl, "\n", F, _, rfl, rfl, .inl (SqL.of upd_same), by rw [tot_sum _ nl1, t1]; omega, ?_⟩
          refine k _ _ ((kD.mut hF0).mut hF0) ?_ (Nat.le_trans (join_tot nl1 _) (by rw [t1]; omega))
          obtain ⟨o, b1, c1, e, r1⟩ := hPd.mono (by omega : t + 3 ≤ t + 5)
          exact ⟨o, b1, c1, (upd_ne (Ne.symm nFp)).trans ((upd_ne (Ne.symm nFp)).trans e), r1⟩
        · refine Eq.mpr (if_neg (fun q => c2 (of_decide_eq_true q))) ?_
          refine rd_if ?_
          refine ⟨_, rfl, rfl, _, rfl, ?_⟩
          by_cases c3 : V.int way = V.int 3
          · refine Eq.mpr (if_pos (decide_eq_true c3)) ?_
            refine ⟨_, rfl, .inl ⟨rfl, _, SqL.of fF⟩, _, rfl, _, rfl, _, rfl, p, m, _, t + 3, rfl, nmp, SqL.of hmd, by rw [List.length_map]; exact hm0, by rw [List.length_map]; omega, by omega, hPd, fun He v ke hPe hv => ?_⟩
            obtain ⟨y, hym, rfl⟩ := List.mem_map.mp hv
            have fe := ke _ _ nFp fF
            have hyb := hms y hym
            refine ⟨F, _, (ja : Int), V.str y, rfl, rfl, fe, Nat.lt_of_le_of_lt (by rw [List.length_map]; omega : _ ≤ 900) (by decide), by omega, by omega, ?_⟩
            rw [map_ins]
            dsimp only
            have t1 := tot_ins ys (Int.toNat (ja : Int)) y
            refine ⟨⟨_, rfl⟩, _, rfl, "\n", F, _, rfl, rfl, .inl (SqL.of upd_same), by rw [tot_sum _ nl1, t1]; omega, ?_⟩
            refine k _ _ ((kD.trans ke).mut hF0) ?_ (Nat.le_trans (join_tot nl1 _) (by rw [t1]; omega))
            obtain ⟨o, b1, c1, e, r1⟩ := hPe.mono (by omega : t + 3 + 1 ≤ t + 5)
            exact ⟨o, b1, c1, (upd_ne (Ne.symm nFp)).trans e, r1⟩
          · refine Eq.mpr (if_neg (fun q => c3 (of_decide_eq_true q))) ?_
            have ny : ya.length + 1 ≤ tot ys := tot_mem (List.mem_of_getElem? hya)
            refine rd_seq (rd_set ?_)
            refine ⟨_, rfl, _, rfl, l, _, (ja : Int), .str ya, rfl, rfl, SqL.of hld, atI_nat hya2, ⟨_, rfl⟩, ya, _, rfl, rfl, rfl, Nat.le_trans (by omega : ya.length + 2 ≤ 1000) (by decide), fun q1 h1 => ?_⟩
            have g1 : upd Hd q1 (.lst ((Txt.split ya " ").map V.str)) q1 = some (.lst ((Txt.split ya " ").map V.str)) := upd_same
            have s1 : Same Hd (upd Hd q1 (.lst ((Txt.split ya " ").map V.str))) := same_new h1
            have nq1 : q1 ≠ p := hPd.ne h1
            have n1F : q1 ≠ F := Ne.symm (ne_of_none fF h1)
            have hq10 : H q1 = none := kD.free h1 hPd.some.choose_spec
            have tw : tot (Txt.split ya " ") = ya.length + 1 := by rw [sp_eq2]; exact split_tot ya (by decide)
            have nw0 : Txt.split ya " " ≠ [] := by rw [sp_eq2]; exact split_ne ya (by decide)
            generalize upd Hd q1 (.lst ((Txt.split ya " ").map V.str)) = H1 at g1 s1 ⊢
            generalize Txt.split ya " " = W at g1 tw nw0 ⊢
            have hPe := hPd.same s1
            have kE := kD.trans (But.of s1)
            have fF1 := s1 _ _ fF
            have lw0 : 0 < W.length := List.length_pos_iff.mpr nw0
            have lw1 := tot_len W
            have eW : ((W.map V.str).length : Int) = (W.length : Int) := by rw [List.length_map]
            dsimp only
            refine rd_seq (rd_set ?_)
            refine ⟨_, rfl, _, rfl, q1, _, rfl, .inl (SqL.of g1), p, _, t + 3, rfl, by omega, by omega, by omega, hPe, fun H2 b k2 hP2 b0 b1 => ?_⟩
            rw [eW] at b1
            obtain ⟨jc, rfl⟩ : ∃ j : Nat, b = (j : Int) := ⟨b.toNat, by omega⟩
            have g2 := k2 _ _ nq1 g1
            have fF2 := k2 _ _ nFp fF1
            have kE2 := kE.trans k2
            clear kE k2 hPe s1
            dsimp only
            refine rd_seq (rd_set ?_)
            refine ⟨(by exact (by decide : 17 ≤ sizeLine)), fun q2 h2 => ?_⟩
            have g3 : upd H2 q2 (.lst (parts1.map V.str)) q2 = some (.lst (parts1.map V.str)) := upd_same
            have s3 : Same H2 (upd H2 q2 (.lst (parts1.map V.str))) := same_new h2
            have nq2 : q2 ≠ p := hP2.ne h2
            have n21 : q1 ≠ q2 := ne_of_none g2 h2
            have n2F : F ≠ q2 := ne_of_none fF2 h2
            have h20 : H q2 = none := kE2.free h2 hP2.some.choose_spec
            change tSeq _ _ _ _ (upd H2 q2 (.lst (parts1.map V.str)))
            generalize upd H2 q2 (.lst (parts1.map V.str)) = H3 at g3 s3 ⊢
            have hP3 := hP2.same s3
            have kE3 := kE2.trans (But.of s3)
            have g4 := s3 _ _ g2
            have fF3 := s3 _ _ fF2
            refine rd_seq ?_
            refine ⟨_, rfl, .inl ⟨rfl, _, SqL.of g3⟩, (by exact (by decide : 11 ≤ sizeLine)), fun q3 h3 => ?_⟩
            have g5 : upd H3 q3 (.lst (parts2.map V.str)) q3 = some (.lst (parts2.map V.str)) := upd_same
            have s5 : Same H3 (upd H3 q3 (.lst (parts2.map V.str))) := same_new h3
            refine ⟨q2, q3, _, parts2.map V.str, rfl, rfl, s5 _ _ g3, g5, (by exact (by decide : 28 ≤ sizeLine)), ?_⟩
            rw [← List.map_append]
            have g6 : upd (upd H3 q3 (.lst (parts2.map V.str))) q2 (.lst ((parts1 ++ parts2).map V.str)) q2 = some (.lst ((parts1 ++ parts2).map V.str)) := upd_same
            have g7 := (upd_ne (o := HO.lst ((parts1 ++ parts2).map V.str)) n21).trans (s5 _ _ g4)
            have fF4 := (upd_ne (o := HO.lst ((parts1 ++ parts2).map V.str)) n2F).trans (s5 _ _ fF3)
            have kE4 : But p H (upd (upd H3 q3 (.lst (parts2.map V.str))) q2 (.lst ((parts1 ++ parts2).map V.str))) := (kE3.trans (But.of s5)).mut h20
            have hP4 : Pot (upd (upd H3 q3 (.lst (parts2.map V.str))) q2 (.lst ((parts1 ++ parts2).map V.str))) p (t + 3 + 1) := by
              obtain ⟨o, b1, c1, e, r1⟩ := hP3.same s5
              exact ⟨o, b1, c1, (upd_ne (Ne.symm nq2)).trans e, r1⟩
            dsimp only
            change tSeq _ _ _ _ (upd (upd H3 q3 (.lst (parts2.map V.str))) q2 (.lst ((parts1 ++ parts2).map V.str)))
            generalize upd (upd H3 q3 (.lst (parts2.map V.str))) q2 (.lst ((parts1 ++ parts2).map V.str)) = H4 at g6 g7 fF4 kE4 hP4 ⊢
            refine rd_seq (rd_set ?_)
            refine ⟨_, rfl, _, rfl, p, q2, _, t + 3 + 1, rfl, nq2, SqL.of g6, by decide, by decide, by omega, hP4, fun H5 v k5 hP5 hv => ?_⟩
            obtain ⟨part, hpart, rfl⟩ := List.mem_map.mp hv
            have lp := parts_len part hpart
            have g8 := k5 _ _ nq1 g7
            have fF5 := k5 _ _ nFp fF4
            have kE5 := kE4.trans k5
            have hP6 : Pot H5 p (t + 5) := hP5.mono (by omega)
            have wput : ∀ (W' : List Str), But p H (upd H5 q1 (.lst (W'.map V.str))) ∧ Pot (upd H5 q1 (.lst (W'.map V.str))) p (t + 5) ∧ upd H5 q1 (.lst (W'.map V.str)) F = some (.lst (ys.map V.str)) := fun W' => by
              refine ⟨kE5.mut hq10, ?_, (upd_ne (Ne.symm n1F)).trans fF5⟩
              obtain ⟨o, b1, c1, e, r1⟩ := hP6
              exact ⟨o, b1, c1, (upd_ne (Ne.symm nq1)).trans e, r1⟩
            dsimp only
            refine ⟨fun σ' H' => ∃ (s7 s8 s9 s10 : Option V) (W' : List Str), σ' = [some (.ref p), some (.ref l), some (.ref m), some (.int ja), some (.int jb), some (.int way), some (.ref F), some (.ref q1), s8, s9, s10] ∧ But p H H' ∧ Pot H' p (t + 5) ∧ H' q1 = some (.lst (W'.map V.str)) ∧ H' F = some (.lst (ys.map V.str)) ∧ tot W' ≤ ya.length + 12, ?_, ?_⟩
            · refine rd_if ?_
              refine ⟨_, rfl, rfl, _, rfl, ?_⟩
              by_cases c4 : V.int way = V.int 4
              · refine Eq.mpr (if_pos (decide_eq_true c4)) ?_
                refine ⟨_, rfl, .inl ⟨rfl, _, SqL.of g8⟩, _, rfl, _, rfl, q1, _, (jc : Int), V.str part, rfl, rfl, g8, Nat.lt_of_le_of_lt (by rw [List.length_map]; omega : _ ≤ 1000) (by decide), by omega, by omega, ?_⟩
                rw [map_ins]
                obtain ⟨w1, w2, w3⟩ := wput (W.take (Int.toNat (jc : Int)) ++ [part] ++ W.drop (Int.toNat (jc : Int)))
                exact ⟨none, _, _, _, _, rfl, w1, w2, upd_same, w3, by rw [tot_ins]; omega⟩
              · refine Eq.mpr (if_neg (fun q => c4 (of_decide_eq_true q))) ?_
                refine rd_if ?_
                refine ⟨_, rfl, rfl, _, rfl, ?_⟩
                by_cases c5 : V.int way = V.int 5
                · refine Eq.mpr (if_pos (decide_eq_true c5)) ?_
                  have hjc : jc < W.length := by omega
                  refine ⟨_, rfl, .inl ⟨rfl, _, SqL.of g8⟩, _, rfl, q1, _, _, jc, V.str W[jc], rfl, rfl, g8, by omega, by omega, seqIndex_of (by omega) (by rw [List.length_map]; omega), by rw [List.getElem?_map, List.getElem?_eq_getElem hjc]; rfl, ?_⟩
                  rw [map_erase]
                  obtain ⟨w1, w2, w3⟩ := wput (W.eraseIdx jc)
                  have te := tot_erase W jc
                  exact ⟨none, _, _, _, _, rfl, w1, w2, upd_same, w3, by omega⟩
                · refine Eq.mpr (if_neg (fun q => c5 (of_decide_eq_true q))) ?_
                  refine ⟨_, rfl, _, rfl, _, rfl, q1, _, (jc : Int), jc, rfl, rfl, g8, ixN_nat (by rw [List.length_map]; omega), ?_⟩
                  have em : (W.map V.str).set jc (V.str part) = (W.set jc part).map V.str := by rw [List.map_set]
                  rw [em]
                  obtain ⟨w1, w2, w3⟩ := wput (W.set jc part)
                  have te := tot_set W jc part
                  exact ⟨none, _, _, _, _, rfl, w1, w2, upd_same, w3, by omega⟩
            · rintro σ' H' ⟨s7, s8, s9, s10, W', rfl, w1, w2, w3, w4, w5⟩
              refine ⟨⟨_, rfl⟩, _, rfl, " ", q1, _, rfl, rfl, .inl (SqL.of w3), by rw [tot_sum _ sp1]; omega, _, rfl, _, rfl, F, _, (ja : Int), ja, rfl, rfl, w4, ixN_nat (by rw [List.length_map]; omega), ?_⟩
              have em : (ys.map V.str).set ja (V.str (Txt.join " " W')) = (ys.set ja (Txt.join " " W')).map V.str := by rw [List.map_set]
              rw [em]
              have te := tot_set ys ja (Txt.join " " W')
              have tj := join_tot sp1 W'
              dsimp only
              refine ⟨⟨_, rfl⟩, _, rfl, "\n", F, _, rfl, rfl, .inl (SqL.of upd_same), by rw [tot_sum _ nl1]; omega, ?_⟩
              refine k _ _ (w1.mut hF0) ?_ (Nat.le_trans (join_tot nl1 _) (by omega))
              obtain ⟨o, b1, c1, e, r1⟩ := w2
              exact ⟨o, b1, c1, (upd_ne (Ne.symm nFp)).trans e, r1⟩
end
end L2.K06

set_option Elab.async false
set_option linter.all false
set_option maxRecDepth 100000
set_option maxHeartbeats 4000000
namespace L2.K06
open PySem PySem.Spec PyProof.Rows L2.Vx
open PySem.W (Frag)
/-! ### a drawn book -/
theorem Pr.but {p : Addr} {H H' : Hp} {ps : List Addr} {rs : List (Str × Int)} {k : Int} (h : Pr H ps rs) (hP : Pot H p k) (b : But p H H') : Pr H' ps rs := by
  refine ⟨h.1, fun i a r x y => ?_⟩
  have e := h.2 i a r x y
  obtain ⟨o, c, d, ep, _⟩ := hP
  exact b _ _ (fun z => by rw [z, ep] at e; cases e) e
def BkOk (rs : List (Str × Int)) : Prop := 1 ≤ rs.length ∧ (∃ rest, (rs.map Prod.fst ++ rest).Perm ruleWords) ∧ ∀ r ∈ rs, 0 ≤ r.2 ∧ r.2 ≤ 7 ∧ (r.1 = "grid" → 2 ≤ r.2)
def ams : List Str := ["eldest", "latest"]
def bkD (am : Str) (R : Addr) : List (Key × V) := [(.inr "among", .str am), (.inr "rules", .ref R)]
theorem strs_list {ys : List V} (h : ∀ v ∈ ys, ∃ u : Str, v = .str u) : ∃ us : List Str, ys = us.map V.str := by
  induction ys with
  | nil => exact ⟨[], rfl⟩
  | cons y ys ih =>
    obtain ⟨u, rfl⟩ := h y (by simp)
    obtain ⟨us, rfl⟩ := ih fun v hv => h v (List.mem_cons_of_mem _ hv)
    exact ⟨u :: us, rfl⟩
theorem perm_strs {a b : List Str} (h : (a.map V.str).Perm (b.map V.str)) : a.Perm b := by
  have := h.map (fun v => match v with | V.str s => s | _ => Str.empty)
  rw [List.map_map, List.map_map] at this
  have e : ∀ l : List Str, l.map ((fun v => match v with | V.str s => s | _ => Str.empty) ∘ V.str) = l := fun l => (List.map_congr_left fun _ _ => rfl).trans (List.map_id l)
  rw [e, e] at this
  exact this
/-- a list of ints, newly made -/
theorem viaL {te : TE} {σ : St} {H : Hp} {Q : VK} (p : Addr) (hp : ∃ o, H p = some o) (ns : List Int) (key : ∀ L H', Same H H' → L ≠ p → H' L = some (.lst (ns.map V.int)) → Q (.ref L) H') (ev : ∀ R : VK, (∀ L, H L = none → R (.ref L) (upd H L (.lst (ns.map V.int)))) → te σ H R) : te σ H Q :=
  ev Q fun L hL => key L _ (same_new hL) (fun z => by obtain ⟨o, ho⟩ := hp; rw [z, ho] at hL; cases hL) upd_same
section
variable {P : Program} {w : World} {K : Frag} {mg : Str → Option Value} {bs : Heap}
def spSomeB (K : Frag) : Sp := fun vs H Q _ => ∃ (p l : Addr) (m k : Int), vs = [.ref p, .ref l, .int m] ∧ H l = some (.lst (ruleWords.map V.str)) ∧ l ≠ p ∧ 1 ≤ m ∧ m ≤ 5 ∧ 0 ≤ k ∧ k < 990000 ∧ Pot H p k ∧
  ∀ H' D R ps rs am, But p H H' → Pot H' p (k + 12) → H D = none → H R = none → H' D = some (.dK (bkD am R)) → H' R = some (.lst (ps.map V.ref)) → Pr H' ps rs → am ∈ ams → BkOk rs → Q (.ref D) H'
theorem scSomeB : FnScope ["pot", "words", "most", "rules", "word"] ["pot", "words", "most"] (defScope sSomeB) := ⟨rfl, rfl, rfl, by decide +kernel, rfl, by decide +kernel, by decide +kernel⟩
theorem ok_someB {f fT fO fS : Addr} {fd fdT fdO fdS : FuncData} (FP : FD K "_law_some_book" sSomeB f fd) (F : Dx mg) (FT : FD K "_law_take" sTake fT fdT) (gT : mg "_law_take" = some (.ref fT)) (bT : Binds K fdT ["pot", "upto"] [])
    (FO : FD K "_law_of" sOf fO fdO) (gO : mg "_law_of" = some (.ref fO)) (bO : Binds K fdO ["pot", "some"] [])
    (FS : FD K "_law_some" sSome fS fdS) (gS : mg "_law_some" = some (.ref fS)) (bS : Binds K fdS ["pot", "pool", "many"] []) : FnOk P w K mg bs CX0 3 f fd ["pot", "words", "most"] (spSomeB K) := by
  have sc := scSomeB
  have GT : FnOk P w K mg bs CX0 1 fT fdT ["pot", "upto"] spTake := ok_take FT F
  have GO : FnOk P w K mg bs CX0 2 fO fdO ["pot", "some"] (spOf K) := ok_of FO F FT gT bT
  have GS : FnOk P w K mg bs CX0 2 fS fdS ["pot", "pool", "many"] (spSome K) := ok_some FS F FT gT bT
  refine FP.ok scSomeB (fun vs H Q E h => ?_) (fun cdv A outer s H vs Q E hr h => ?_)
  · obtain ⟨p, l, m, k, rfl, _⟩ := h
    rfl
  · obtain ⟨p, l, m, t, rfl, hl, nlp, hm1, hm5, ht0, ht, hP, k⟩ := h
    have hr1 : Room 1 (A.deeper (envOfC "_law_some_book" (defScope sSomeB) s.heap.objs.size f cdv)) := hr.mono (by decide)
    refine ⟨_, pss_cons (ps_set (i := 3) sc.nd rfl (Or.inl rfl) (pe_lst pa_nil))
      (pss_cons (ps_for PassesOwn.never rfl (pi_list (pe_call GS hr (by rfl) gS FS.kp bS .nil pass0 (pa_cons (pv 0) (pa_cons (pv 1) (pa_cons
            (pe_callB (call_min2 rfl) (by rfl) F.min (by decide +kernel) (pa_cons (pe_callB call_len_seq (by rfl) F.len boot_len (pa_cons (pv 1) pa_nil))
              (pa_cons (pe_op op_add pe_int (pe_call GT hr1 (by rfl) gT FT.kp bT .nil pass0 (pa_cons (pv 0) (pa_cons (pv 2) pa_nil)))) pa_nil))) pa_nil)))))
          (pg_name (i := 4) sc.nd rfl (Or.inl rfl))
        (pss_one (ps_expr (pe_bm PySem.F.plainAttrs_list PySem.F.slot_list_append PySem.F.type_list_append mt_append (pv 3) (pa_cons (pe_tup (pa_cons (pv 4) (pa_cons
          (pe_call GO hr (by rfl) gO FO.kp bO .nil pass0 (pa_cons (pv 0) (pa_cons (pe_ifExp (pt_cmpR op_eq (pv 4) pe_str (nomark _))
            (pe_lst (pa_cons pe_int (pa_cons pe_int (pa_cons pe_int (pa_cons pe_int (pa_cons pe_int pa_nil)))))) (pe_lst (pa_cons pe_int (pa_cons pe_int (pa_cons pe_int (pa_cons pe_int (pa_cons pe_int pa_nil))))))) pa_nil))) pa_nil))) pa_nil)))))
      (pss_one (ps_ret (pe_disp (pps_cons pe_str (pe_call GO hr (by rfl) gO FO.kp bO .nil pass0 (pa_cons (pv 0) (pa_cons (pe_lst (pa_cons pe_str (pa_cons pe_str pa_nil))) pa_nil))) (pps_cons pe_str (pv 3) pps_nil)) (by rfl) (by rfl) (fun z => by cases z) (by decide))))), ?_⟩
    refine rd_seq (rd_set ?_)
    refine ⟨Nat.zero_le _, fun R hR => ?_⟩
    have s1 : Same H (upd H R (.lst [])) := same_new hR
    have f1 : upd H R (.lst []) R = some (.lst []) := upd_same
    generalize upd H R (.lst []) = H1 at s1 f1 ⊢
    have nRp : R ≠ p := hP.ne hR
    dsimp only
    refine rd_seq ?_
    have hl1 := s1 _ _ hl
    refine ⟨_, rfl, _, rfl, _, rfl, l, _, rfl, .inl (SqL.of hl1), _, rfl, _, rfl, p, m, t, rfl, by omega, by omega, by omega, hP.same s1, fun H2 i k2 hP2 i0 i1 => ?_⟩
    have hl2 := k2 _ _ nlp hl1
    have f2 := k2 _ _ nRp f1
    refine ⟨_, _, rfl, rfl, _, _, rfl, ?_⟩
    obtain ⟨c, hc, hc1, hc5⟩ : ∃ c : Nat, (if 1 + i < (((ruleWords.map V.str).length : Nat) : Int) then 1 + i else (((ruleWords.map V.str).length : Nat) : Int)) = (c : Int) ∧ 1 ≤ c ∧ c ≤ 5 := by
      have e : (((ruleWords.map V.str).length : Nat) : Int) = 5 := rfl
      rw [e]
      refine ⟨(1 + i).toNat, ?_, by omega, by omega⟩
      split <;> omega
    rw [hc]
    refine ⟨p, l, _, c, t + 1, rfl, nlp, SqL.of hl2, by decide, hc5, by omega, by omega, hP2, fun H3 q ys rest k3 hq0 hq pm ly hP3 => ?_⟩
    obtain ⟨us, rfl⟩ : ∃ us : List Str, ys = us.map V.str := strs_list fun v hv => by
      have := pm.mem_iff.mp (List.mem_append_left rest hv)
      obtain ⟨u, _, rfl⟩ := List.mem_map.mp this
      exact ⟨u, rfl⟩
    obtain ⟨re, rfl⟩ : ∃ re : List Str, rest = re.map V.str := strs_list fun v hv => by
      have := pm.mem_iff.mp (List.mem_append_right _ hv)
      obtain ⟨u, _, rfl⟩ := List.mem_map.mp this
      exact ⟨u, rfl⟩
    rw [← List.map_append] at pm
    have pm2 : (us ++ re).Perm ruleWords := perm_strs pm
    have lu : us.length = c := by rw [List.length_map] at ly; exact ly
    have kA := (But.of s1).trans (k2.trans k3)
    have f3 := k3 _ _ nRp f2
    have nqp : q ≠ p := hP2.ne hq0
    have nqR : q ≠ R := Ne.symm (ne_of_none f2 hq0)
    refine ⟨q, rfl, ⟨_, SqL.of hq⟩, for_it (walk_list (K := K) (a := q) (xs := us.map V.str)) (fun j σ H' => ∃ (v : Option V) (ps : List Addr) (rs : List (Str × Int)), σ = [some (.ref p), some (.ref l), some (.int m), some (.ref R), v] ∧ But p H H' ∧ H' q = some (.lst (us.map V.str)) ∧
      H' R = some (.lst (ps.map V.ref)) ∧ Pr H' ps rs ∧ rs.map Prod.fst = us.take j ∧ (∀ r ∈ rs, 0 ≤ r.2 ∧ r.2 ≤ 7 ∧ (r.1 = "grid" → 2 ≤ r.2)) ∧ Pot H' p (t + 1 + c + j))
      ⟨none, [], [], rfl, kA, hq, f3, ⟨rfl, fun i p r e => by simp at e⟩, rfl, fun r hr => (by cases hr), hP3.mono (by omega)⟩ (fun i σ H' _ u => ?_) ?_ ?_⟩
    · obtain ⟨_, _, _, _, _, u, _⟩ := u
      exact SqL.of u
    · rintro j x σ H4 H5 hj ⟨v, ps, rs, rfl, k4, q4, r4, pr4, e4, b4, hP4⟩ ⟨rfl, hx⟩
      have hj' : j < us.length := by simpa using hj
      have hx2 : x = .str us[j] := by
        rw [List.getElem?_map, List.getElem?_eq_getElem hj'] at hx
        exact (Option.some.inj hx).symm
      subst hx2
      have hR0 : H R = none := hR
      have htake : us.take (j + 1) = us.take j ++ [us[j]] := by rw [List.take_succ, List.getElem?_eq_getElem hj']; rfl
      generalize us[j] = u at htake ⊢
      have lenps : ps.length = j := by
        rw [pr4.1, ← List.length_map (f := Prod.fst), e4, List.length_take]
        omega
      refine ⟨_, rfl, .inl ⟨rfl, _, SqL.of r4⟩, _, rfl, _, rfl, ?_⟩
      -- the numbers that may be drawn
      refine viaL p (by obtain ⟨o, ho⟩ := hP4.some; exact ⟨o, ho⟩) (if u = "grid" then [2, 3, 4, 5, 7] else [2, 1, 3, 0, 4]) (fun L H6 s6 hL0 hL => ?_) (fun R2 hR2 => ?_)
      · have hns : ∀ n ∈ (if u = "grid" then [2, 3, 4, 5, 7] else [2, 1, 3, 0, 4] : List Int), 0 ≤ n ∧ n ≤ 7 ∧ (u = "grid" → 2 ≤ n) := fun n hn => by
          by_cases hg : u = "grid"
          · rw [if_pos hg] at hn
            simp at hn
            omega
          · rw [if_neg hg] at hn
            simp at hn
            exact ⟨by omega, by omega, fun q => absurd q hg⟩
        have hn5 : ((if u = "grid" then [2, 3, 4, 5, 7] else [2, 1, 3, 0, 4] : List Int).map V.int).length = 5 := by
          split <;> rfl
        generalize (if u = "grid" then [2, 3, 4, 5, 7] else [2, 1, 3, 0, 4] : List Int) = ns at hns hn5 hL
        refine ⟨p, L, ns.map V.int, t + 1 + c + j, rfl, hL0, SqL.of hL, by omega, by omega, by omega, hP4.same s6, fun H7 v7 k7 hP7 hv => ?_⟩
        obtain ⟨n, hn, rfl⟩ := List.mem_map.mp hv
        have kN := (But.of s6).trans k7
        refine ⟨(by exact (by decide : 2 ≤ sizeLine)), fun T hT => ?_⟩
        have sT : Same H7 (upd H7 T (.tup [.str u, .int n])) := same_new hT
        have fT : upd H7 T (.tup [.str u, .int n]) T = some (.tup [.str u, .int n]) := upd_same
        have q7 := sT _ _ (kN _ _ nqp q4)
        have r7 := sT _ _ (kN _ _ nRp r4)
        have pr7 := ((pr4.but hP4 kN).same sT).snoc (r := (u, n)) fT
        have hP8 := hP7.same sT
        have k8 := (k4.trans kN).trans (But.of sT)
        generalize upd H7 T (.tup [.str u, .int n]) = H8 at fT q7 r7 pr7 hP8 k8 ⊢
        refine ⟨R, _, _, rfl, rfl, r7, Nat.lt_of_le_of_lt (by rw [List.length_map, lenps]; omega : _ ≤ 100) (by decide), ?_⟩
        refine ⟨_, ps ++ [T], rs ++ [(u, n)], rfl, k8.mut hR0, (upd_ne nqR).trans q7, by rw [upd_same, List.map_append]; rfl, ?_, by rw [List.map_append, e4, htake]; rfl, ?_, ?_⟩
        · refine ⟨pr7.1, fun i a r x y => ?_⟩
          have e := pr7.2 i a r x y
          exact (upd_ne (fun z => by rw [z, r7] at e; cases e)).trans e
        · intro r hr
          rcases List.mem_append.mp hr with hr | hr
          · exact b4 r hr
          · rw [List.mem_singleton.mp hr]
            exact hns n hn
        · obtain ⟨o, b1, c1, e, r1⟩ := hP8.mono (by omega : t + 1 + c + j + 1 ≤ t + 1 + c + ((j + 1 : Nat) : Int))
          exact ⟨o, b1, c1, (upd_ne (Ne.symm nRp)).trans e, r1⟩
      · refine ⟨_, rfl, rfl, _, rfl, ?_⟩
        by_cases hg : u = "grid"
        · rw [if_pos hg] at hR2
          refine Eq.mpr (if_pos (decide_eq_true (congrArg V.str hg))) ?_
          exact ⟨(by exact (by decide : 5 ≤ sizeLine)), fun L hL => hR2 L hL⟩
        · rw [if_neg hg] at hR2
          refine Eq.mpr (if_neg (fun q => hg (V.str.inj (of_decide_eq_true q)))) ?_
          exact ⟨(by exact (by decide : 5 ≤ sizeLine)), fun L hL => hR2 L hL⟩
    · rintro σ H4 ⟨v, ps, rs, rfl, k4, q4, r4, pr4, e4, b4, hP4⟩
      rw [List.length_map, List.take_length] at e4
      rw [List.length_map] at hP4
      have hR0 : H R = none := hR
      intro D hD
      have sD : Same H4 (upd H4 D (.dK [])) := same_new hD
      have fD : upd H4 D (.dK []) D = some (.dK []) := upd_same
      have nDp : D ≠ p := hP4.ne hD
      have nDR : R ≠ D := ne_of_none r4 hD
      have hD0 : H D = none := k4.free hD hP4.some.choose_spec
      have r5 := sD _ _ r4
      have pr5 := pr4.same sD
      have hP5 := hP4.same sD
      have k5 := k4.trans (But.of sD)
      generalize upd H4 D (.dK []) = H5 at sD fD r5 pr5 hP5 k5 ⊢
      refine ⟨_, rfl, (by exact (by decide : 2 ≤ sizeLine)), fun L hL => ?_⟩
      have sL : Same H5 (upd H5 L (.lst (ams.map V.str))) := same_new hL
      refine ⟨p, L, ams.map V.str, t + 1 + c + us.length, rfl, hP5.ne hL, SqL.of upd_same, by decide, by decide, by omega, hP5.same sL, fun H6 va k6 hP6 hva => ?_⟩
      obtain ⟨am, ham, rfl⟩ := List.mem_map.mp hva
      have kL := (But.of sL).trans k6
      refine ⟨_, rfl, kL _ _ nDp fD, [(.inr "among", .str am), (.inr "rules", .ref R)], rfl, (by simp), ?_⟩
      have hfin : upd H6 D (.dK (bkD am R)) D = some (.dK (bkD am R)) := upd_same
      refine k _ D R ps rs am ((k5.trans kL).mut hD0) ?_ hD0 hR0 hfin ((upd_ne nDR).trans (kL _ _ nRp r5)) ?_ ham ⟨?_, ⟨re, ?_⟩, b4⟩
      · obtain ⟨o, b1, c1, e, r1⟩ := hP6.mono (by omega : t + 1 + c + us.length + 1 ≤ t + 12)
        exact ⟨o, b1, c1, (upd_ne (Ne.symm nDp)).trans e, r1⟩
      · have prL := pr5.but hP5 kL
        refine ⟨prL.1, fun i a r x y => ?_⟩
        have e := prL.2 i a r x y
        exact (upd_ne (fun z => by rw [z, kL _ _ nDp fD] at e; cases e)).trans e
      · have := congrArg List.length e4
        rw [List.length_map] at this
        omega
      · rw [e4]
        exact pm2
end
end L2.K06

set_option Elab.async false
set_option linter.all false
set_option maxRecDepth 100000
set_option maxHeartbeats 4000000
namespace L2.K06
open PySem PySem.Spec PyProof.Rows L2.Vx
open PySem.W (Frag)
/-! ### a drawn book's text -/
def lineOf (r : Str × Int) : Str := r.1 ++ " " ++ Str.ofString (toString r.2)
def bookLines (am : Str) (rs : List (Str × Int)) : List Str := ("among " ++ am) :: rs.map lineOf
theorem len_app (a b : Str) : (a ++ b).length = a.length + b.length := by
  rw [TL.len_tl, TL.tl_append, List.length_append, ← TL.len_tl, ← TL.len_tl]
theorem words_len : ∀ y ∈ ruleWords, y.length ≤ 8 := by decide +kernel
theorem num_len {n : Int} (h0 : 0 ≤ n) (h7 : n ≤ 7) : (Str.ofString (toString n)).length = 1 := by
  have : n = 0 ∨ n = 1 ∨ n = 2 ∨ n = 3 ∨ n = 4 ∨ n = 5 ∨ n = 6 ∨ n = 7 := by omega
  rcases this with rfl | rfl | rfl | rfl | rfl | rfl | rfl | rfl <;> decide +kernel
theorem BkOk.word {rs : List (Str × Int)} (h : BkOk rs) {r : Str × Int} (hr : r ∈ rs) : r.1 ∈ ruleWords := by
  obtain ⟨_, ⟨re, pm⟩, _⟩ := h
  exact pm.mem_iff.mp (List.mem_append_left _ (List.mem_map.mpr ⟨r, hr, rfl⟩))
theorem BkOk.len {rs : List (Str × Int)} (h : BkOk rs) : rs.length ≤ 5 := by
  obtain ⟨_, ⟨re, pm⟩, _⟩ := h
  have := pm.length_eq
  rw [List.length_append, List.length_map] at this
  have e : ruleWords.length = 5 := rfl
  omega
theorem line_len {rs : List (Str × Int)} (h : BkOk rs) {r : Str × Int} (hr : r ∈ rs) : (lineOf r).length ≤ 10 := by
  unfold lineOf
  have h1 := words_len _ (h.word hr)
  have h2 := h.2.2 r hr
  rw [len_app, len_app, num_len h2.1 h2.2.1]
  have : (" " : Str).length = 1 := sp1
  omega
theorem tot_le {B : Nat} : ∀ (ys : List Str), (∀ y ∈ ys, y.length ≤ B) → tot ys ≤ ys.length * (B + 1)
  | [], _ => by simp [tot_nil]
  | y :: ys, h => by
    rw [tot_cons, List.length_cons, Nat.succ_mul]
    have := h y (by simp)
    have := tot_le ys fun x hx => h x (List.mem_cons_of_mem _ hx)
    omega
theorem lines_tot {am : Str} {rs : List (Str × Int)} (ha : am ∈ ams) (h : BkOk rs) : tot (bookLines am rs) ≤ 68 := by
  unfold bookLines
  rw [tot_cons, len_app]
  have h1 : am.length ≤ 6 := (by decide +kernel : ∀ y ∈ ams, y.length ≤ 6) am ha
  have h2 : ("among " : Str).length = 6 := by decide +kernel
  have h3 := tot_le (B := 10) (rs.map lineOf) (fun y hy => by
    obtain ⟨r, hr, rfl⟩ := List.mem_map.mp hy
    exact line_len h hr)
  rw [List.length_map] at h3
  have := h.len
  omega
theorem small7 {n : Int} (h0 : 0 ≤ n) (h7 : n ≤ 7) : n.natAbs.log2 < 1920 := by
  have : n = 0 ∨ n = 1 ∨ n = 2 ∨ n = 3 ∨ n = 4 ∨ n = 5 ∨ n = 6 ∨ n = 7 := by omega
  rcases this with rfl | rfl | rfl | rfl | rfl | rfl | rfl | rfl <;> decide +kernel
section
variable {P : Program} {w : World} {K : Frag} {mg : Str → Option Value} {bs : Heap}
def spText (K : Frag) : Sp := fun vs H Q _ => ∃ (D R : Addr) (ps : List Addr) (rs : List (Str × Int)) (am : Str), vs = [.ref D] ∧ H D = some (.dK (bkD am R)) ∧ H R = some (.lst (ps.map V.ref)) ∧ Pr H ps rs ∧ am ∈ ams ∧ BkOk rs ∧
  ∀ H', Same H H' → Q (.str (Txt.join "\n" (bookLines am rs))) H'
theorem scText : FnScope ["book", "word", "number"] ["book"] (defScope sText) := ⟨rfl, rfl, rfl, by decide +kernel, rfl, by decide +kernel, by decide +kernel⟩
theorem ok_text {f : Addr} {fd : FuncData} (FP : FD K "_law_book_text" sText f fd) (gS : mg "str" = none) : FnOk P w K mg bs CX0 1 f fd ["book"] (spText K) := by
  have sc := scText
  refine FP.ok scText (fun vs H Q E h => ?_) (fun cdv A outer s H vs Q E hr h => ?_)
  · obtain ⟨D, R, ps, rs, am, rfl, _⟩ := h
    rfl
  · obtain ⟨D, R, ps, rs, am, rfl, hD, hR, pr, ha, hb, k⟩ := h
    have hu := hu_of hr
    refine ⟨_, pss_one (ps_ret (pe_join pe_str (pe_op op_cat (pe_lst (pa_cons (pe_op op_add_str pe_str (pe_dget hu (pv 0) pe_str (fun _ _ => rfl))) pa_nil))
      (pe_lc (own := [("word", 1), ("number", 2)]) (g := gTup K 2 (gCons (gName 1) (gCons (gName 2) gNil))) (by rfl) sc.nd (pi_list (pe_dget hu (pv 0) pe_str (fun _ _ => rfl))) (blkOk_by (N := ["book", "word", "number"]) (sc := defScope sText) (by decide +kernel))
        (fun _ _ _ _ _ => pg_tup rfl (pgs_cons (pg_name (i := 1) sc.nd rfl (Or.inl rfl)) (pgs_cons (pg_name (i := 2) sc.nd rfl (Or.inl rfl)) pgs_nil))) (fun _ _ _ _ _ => pts_nil)
        (fun _ _ _ _ _ => pe_op op_add_str (pe_op op_add_str (pv 1) pe_str) (pe_callTy call_str_int (by rfl) gS boot_str (pa_cons (pv 2) pa_nil))))))), ?_⟩
    have h1 : am.length ≤ 6 := (by decide +kernel : ∀ y ∈ ams, y.length ≤ 6) am ha
    have h2 : ("among " : Str).length = 6 := by decide +kernel
    refine ⟨⟨_, rfl⟩, ?_⟩
    refine ⟨_, rfl, D, .str am, rfl, DGet.k (k := Sum.inr "among") hD, _, _, rfl, rfl, Nat.le_trans (by omega : _ ≤ 100) (by decide), (by exact (by decide : 1 ≤ sizeLine)), fun L hL => ?_⟩
    have sL : Same H (upd H L (.lst [.str ("among " ++ am)])) := same_new hL
    have fL : upd H L (.lst [.str ("among " ++ am)]) L = some (.lst [.str ("among " ++ am)]) := upd_same
    generalize upd H L (.lst [.str ("among " ++ am)]) = H1 at sL fL ⊢
    refine ⟨_, rfl, D, .ref R, rfl, DGet.k (k := Sum.inr "rules") (sL _ _ hD), R, rfl, ⟨_, SqL.of (sL _ _ hR)⟩, fun E0 hE => lc_it walk_list (fun j H' => Same H1 H' ∧ H' E0 = some (.lst (((rs.take j).map lineOf).map V.str))) ⟨same_new hE, upd_same⟩ (fun _ _ _ u => SqL.of (u.1 _ _ (sL _ _ hR))) ?_ ?_⟩
    · rintro j v H5 H6 hj ⟨s5, d5⟩ ⟨rfl, hv⟩
      have hj' : j < ps.length := by simpa using hj
      have hj2 : j < rs.length := by rw [← pr.1]; exact hj'
      rw [List.getElem?_map, List.getElem?_eq_getElem hj'] at hv
      cases hv
      have hpj := ((pr.same sL).same s5).2 j _ _ (List.getElem?_eq_getElem hj') (List.getElem?_eq_getElem hj2)
      have hm : rs[j] ∈ rs := List.getElem_mem hj2
      have hw := words_len _ (hb.word hm)
      have hn := hb.2.2 _ hm
      have hlen := hb.len
      refine ⟨_, _, rfl, SqT.of hpj, rfl, _, _, rfl, _, _, rfl, rfl, rfl, rd_yes rfl ?_⟩
      refine ⟨_, rfl, _, _, rfl, rfl, Nat.le_trans (by rw [sp1]; omega : _ ≤ 100) (by decide), _, rfl, rs[j].2, rfl, small7 hn.1 hn.2.1, _, _, rfl, rfl, Nat.le_trans (by rw [len_app, sp1, num_len hn.1 hn.2.1]; omega : _ ≤ 100) (by decide), _, d5, ?_, s5.mut hE, ?_⟩
      · rw [List.length_map, List.length_map, List.length_take]
        exact Nat.lt_of_le_of_lt (by omega : min j rs.length ≤ 100) (by decide)
      · rw [upd_same, List.take_succ, List.getElem?_eq_getElem hj2, List.map_append, List.map_append]
        rfl
    · rintro H5 ⟨s5, d5⟩
      rw [List.length_map, pr.1, List.take_length] at d5
      refine ⟨L, E0, _, _, rfl, rfl, s5 _ _ fL, d5, Nat.le_trans (by rw [List.length_map, List.length_map]; have := hb.len; simp; omega : _ ≤ 100) (by decide), fun G hG => ?_⟩
      have tt := lines_tot ha hb
      have e : [V.str ("among " ++ am)] ++ (rs.map lineOf).map V.str = (bookLines am rs).map V.str := rfl
      rw [e]
      refine ⟨"\n", G, bookLines am rs, rfl, rfl, .inl (SqL.of upd_same), by rw [tot_sum _ nl1]; omega, ?_⟩
      exact k _ ((sL.trans s5).trans (same_new hG))
end
end L2.K06

set_option Elab.async false
set_option linter.all false
set_option maxRecDepth 100000
set_option maxHeartbeats 4000000
namespace L2.K06
open PySem PySem.Spec PyProof.Rows L2.Vx
open PySem.W (Frag)
open LamX (CodeO Tabs TabS TabB ExtN LamS lamEnv lamCx lamS_by)
/-! ### whether a value is taken, or refused as is due -/
theorem noStr_ext {K : Frag} {H H' : Hp} {v : V} (h : NoStr K H v) (e : ExtN H H') : NoStr K H' v := by
  obtain ⟨n, ty, hk⟩ := h
  refine ⟨n, ?_, hk⟩
  cases ty with
  | base b =>
    cases b with
    | non => exact .base .non
    | bl x => exact .base (.bl x)
    | int i => exact .base (.int i)
    | str x => exact .base (.str x)
    | flt x => exact .base (.flt x)
    | lst q => exact .base (.lst (e _ _ q (fun _ z => by cases z)))
    | frz q => exact .base (.frz (e _ _ q (fun _ z => by cases z)))
    | tup q => exact .base (.tup (e _ _ q (fun _ z => by cases z)))
    | dK q => exact .base (.dK (e _ _ q (fun _ z => by cases z)))
    | dT q => exact .base (.dT (e _ _ q (fun _ z => by cases z)))
  | byt b => exact .byt b
  | set q => exact .set (e _ _ q (fun _ z => by cases z))
  | kList a b => exact .kList a b
  | kTuple a b => exact .kTuple a b
  | kDict a b => exact .kDict a b
  | fTuple q => exact .fTuple (e _ _ q (fun _ z => by cases z))
  | fDict q => exact .fDict (e _ _ q (fun _ z => by cases z))
theorem rules_lt : ∀ (zs : List Str) (first : Nat) (acc : List (Str × Int)) (n : Nat), rulesIn zs first acc = .inl n → n < first + zs.length
  | [], _, _, _, h => by cases h
  | z :: zs, first, acc, n, h => by
    unfold rulesIn at h
    rw [List.length_cons]
    cases hr : ruleIn z with
    | none =>
      rw [hr] at h
      cases h
      omega
    | some p =>
      rw [hr] at h
      dsimp only at h
      by_cases hm : p.1 ∈ acc.map Prod.fst
      · rw [if_pos hm] at h
        cases h
        omega
      · rw [if_neg hm] at h
        have := rules_lt zs (first + 1) _ n h
        omega
theorem book_lt {z : Str} {n : Nat} (h : bookIn z = .inl n) : n ≤ z.length + 3 := by
  unfold bookIn at h
  have cnt : (Txt.split z "\n").length ≤ z.length + 1 := by
    have := split_len z (s := 10) (by decide)
    rw [← nl_eq] at this
    exact this
  generalize Txt.split z "\n" = W at h cnt
  cases W with
  | nil => cases h; omega
  | cons l r =>
    rw [List.length_cons] at cnt
    cases ha : amongIn l with
    | none =>
      rw [bookW0 ha] at h
      cases h
      omega
    | some a =>
      cases hr : rulesIn r 2 [] with
      | inl m =>
        rw [bookW1 ha hr] at h
        cases h
        have := rules_lt r 2 [] n hr
        omega
      | inr rs =>
        cases rs with
        | nil => rw [bookW2 ha hr] at h; cases h; omega
        | cons x xs => rw [bookW3 ha hr] at h; cases h
/-- the answer: a number, or none -/
def resV : Option Nat → Int
  | some n => (n : Int)
  | none => -1
section
variable {P : Program} {w : World} {K : Frag} {mg : Str → Option Value} {bs : Heap}
/-- a def whose code object is known -/
theorem okC {CX : CXT} {x qual : Str} {st : Stmt} {f c : Addr} {fd : FuncData} {N ps : List Str} {k : Nat} {sp : Sp} (F : Fun K x qual st f fd) (hc : fd.code = .ref c) (S : FnScope N ps (defScope st)) (len : ∀ vs H Q E, sp vs H Q E → vs.length = ps.length)
    (hbody : ∀ (A : Around) (outer : List Env) (s : Shared) (H : Hp) (vs : List V) (Q : VK) (E : XK), Room k (A.deeper (envOfC qual (defScope st) s.heap.objs.size f (.ref c))) → sp vs H Q E →
      ∃ t, PSs (cxOf CX P w K mg bs N qual (defScope st) f (.ref c) A outer s H E) (defBody st) t ∧ t { nx := fun _ H' => Q .non H', rt := Q } (start N vs) H) : FnOk P w K mg bs CX (k + 1) f fd ps sp := by
  obtain ⟨oc, od, kV, doc, pm, an, cdv, ct, osl, rfl, lk, hcd⟩ := F.ex
  obtain rfl : cdv = .ref c := hc
  exact fn_of lk hcd S len fun A outer s H vs Q E hr hsp => hbody A outer s H vs Q E hr hsp
def qL : Str := ("_law_is_read" ++ ".<locals>." : Str) ++ "<lambda>"
def spRead (K : Frag) (PT : Addr) : Sp := fun vs H Q _ => ∃ v : V, vs = [v] ∧ Tabs [(PT, qL)] H ∧ (NoStr K H v ∨ ∃ z : Str, v = .str z ∧ z.length ≤ 800000) ∧ ∀ H', ExtN H H' → Tabs [(PT, qL)] H' → Q (.bl true) H'
theorem scRead : FnScope ["value", "caught", "due"] ["value"] (defScope sRead) := ⟨rfl, rfl, rfl, by decide +kernel, rfl, by decide +kernel, by decide +kernel⟩
structure FxRead (K : Frag) (mg : Str → Option Value) (B C D fI fB : Addr) : Prop where
  init : FxInit K mg B
  mkB : Mk K B fB
  gBook : mg "Book" = some (.ref B)
  bad : ErrT K C fI
  gBad : mg "BadBook" = some (.ref C)
  gDraw : mg "DrawError" = some (.ref D)
  exm : PySem.W.exmOne K (.ref C) (.ref D) = some true
  kit : PySem.W.kitOne K (.ref C) (.ref C) = some true
  rep : mg "repr" = none
theorem ok_read {f c PT fB fTo fDue fN2 fA fR1 fR fN fC B C D fI : Addr} {fd fdB fdTo fdDue fdN2 fdA fdR1 fdR fdN fdC : FuncData} (FP : Fun K "_law_is_read" "_law_is_read" sRead f fd) (hc : fd.code = .ref c) (TB : TabB bs mg c PT)
    (F : FxRead K mg B C D fI fB) (FR0 : FxRule K w mg) (FD0 : FxDue mg)
    (FTo : FD K "_law_told" sTold fTo fdTo) (gTo : mg "_law_told" = some (.ref fTo)) (bTo : Binds K fdTo ["look"] [])
    (FDue : FD K "_law_book_due" sDue fDue fdDue) (gDue : mg "_law_book_due" = some (.ref fDue)) (bDue : Binds K fdDue ["text"] [])
    (FN2 : FD K "_law_number_of" sNumOf fN2 fdN2) (gN2 : mg "_law_number_of" = some (.ref fN2)) (bN2 : Binds K fdN2 ["word", "low", "high"] [])
    (FB : Fun K "__init__" "Book.__init__" sBook fB fdB) (bB : Binds K fdB ["self", "text"] [])
    (FA : FD K "read_among" sAmong fA fdA) (gA : mg "read_among" = some (.ref fA)) (bA : Binds K fdA ["line"] [])
    (FS : FD K "read_rules" sRules fR1 fdR1) (gS : mg "read_rules" = some (.ref fR1)) (bS : Binds K fdR1 ["lines", "first"] [])
    (FR : FD K "read_rule" sRule fR fdR) (gR : mg "read_rule" = some (.ref fR)) (bR : Binds K fdR ["line"] [])
    (FN : FD K "number_in" sNum fN fdN) (gN : mg "number_in" = some (.ref fN)) (bN : Binds K fdN ["word", "low", "high"] [])
    (FC : FD K "consists_of" sCons fC fdC) (gC : mg "consists_of" = some (.ref fC)) (bC : Binds K fdC ["text", "signs"] []) : FnOk P w K mg bs CX0 9 f fd ["value"] (spRead K PT) := by
  have sc := scRead
  have GB : FnOk P w K mg bs (L2.CX P w) 5 fB fdB ["self", "text"] (spInit K B C) := ok_init FB F.init FR0 FD0.enu F.bad F.gBad FA gA bA FS gS bS FR gR bR FN gN bN FC gC bC
  have GDue : FnOk P w K mg bs CX0 2 fDue fdDue ["text"] (spDue K) := ok_due FDue FD0 FN2 gN2 bN2
  obtain ⟨oc, od, kV, doc, pm, an, cdv, ct, osl, rfl, lk, hcd⟩ := FTo.ex
  refine okC FP hc scRead (fun vs H Q E h => ?_) (fun A outer s H vs Q E hr h => ?_)
  · obtain ⟨v, rfl, _⟩ := h
    rfl
  · obtain ⟨v, rfl, hT, hv, k⟩ := h
    have hr2 : Room 2 (A.deeper (envOfC "_law_is_read" (defScope sRead) s.heap.objs.size f (.ref c))) := hr.mono (by decide)
    refine ⟨_, pss_cons (ps_par (i := 1) (j := 2) rfl sc.nd rfl rfl (by decide) rfl rfl
        (pa_cons (pe_ix ix_tup (pe_lam2 (T := [(PT, qL)]) (TT := TTold K D) (Ng := toldN) (k := 6) (t := fun E => tMake B (spInit K B C) [] E (tCons (tVar 0) tNil)) (by rfl) gTo FTo.kp lk hcd bTo ⟨rfl, rfl, rfl, by decide +kernel, rfl, by decide +kernel, by decide +kernel⟩ rfl (.inl rfl)
            (told_gives2 F.gDraw (fun _ => rfl)) TB rfl (List.mem_singleton.mpr rfl) (fun p hp _ => by rw [List.mem_singleton.mp hp]; rfl) hr (show LamS (defScope sRead) _ from lamS_by (by decide +kernel)) rfl (fun _ _ _ _ _ => rfl)
            (fun A outer s H E f c' hr => pe_make F.mkB GB hr (by rfl) F.gBook bB .nil (fun pins σ H s e s' I z => (takes_of rfl rfl rfl rfl) e s' (XE.of_call I (fun _ _ _ h => h) z)) (pa_cons (pv 0) pa_nil))) pe_int (fun _ _ => rfl))
        (pa_cons (pe_call GDue hr2 (by rfl) gDue FDue.kp bDue .nil pass0 (pa_cons (pv 0) pa_nil)) pa_nil)) rfl)
      (pss_cons (ps_if (pt_cmpR op_lt (pv 2) pe_int (nomark _)) (pss_one (ps_ret (pe_cmpR op_isN (pv 1) pe_non (nomark _)))) pss_nil)
      (pss_one (ps_ret (pe_and (pe_callB call_isX (by rfl) F.init.isi boot_isinstance (pa_cons (pv 1) (pa_cons (pe_ref F.gBad) pa_nil)))
        (pe_one (pe_cmpR op_eq (pe_callB SkE.call_repr_int (by rfl) F.rep boot_repr (pa_cons (pe_val (pv 1)) pa_nil)) (pe_callB SkE.call_repr_int (by rfl) F.rep boot_repr (pa_cons (pv 2) pa_nil)) (nomark _))))))), ?_⟩
    have hres : ∃ res : Option Nat, (∀ n, res = some n → n < 10 ^ 9) ∧
        (∀ (H2 : Hp) (x dx : Addr) (Q : VK) (E : XK), ExtN H H2 → H2 x = some (.ins B dx []) → (∀ n, res = some n → ∀ H' d, Same H2 H' → H' d = some (xv (.int (n : Nat))) → E (.ref C) (some d) H') → (res = none → ∀ H', But x H2 H' → Q .non H') → spInit K B C [.ref x, v] H2 Q E) ∧
        (∀ (H3 : Hp) (Q : VK) (E : XK), ExtN H H3 → (∀ H', Same H3 H' → Q (.int (resV res)) H') → spDue K [v] H3 Q E) := by
      rcases hv with hv | ⟨z, rfl, hz⟩
      · refine ⟨some 0, fun n h => by cases h; decide, fun H2 x dx Q E e hx ke kq => ⟨x, dx, v, rfl, hx, .inl ⟨noStr_ext hv e, fun H' d s h => ke 0 rfl H' d s h⟩⟩, fun H3 Q E e kd => ⟨v, rfl, .inl ⟨noStr_ext hv e, fun H' s => kd H' s⟩⟩⟩
      · cases hb : bookIn z with
        | inl n =>
          refine ⟨some n, fun m h => by cases h; have := book_lt hb; omega, fun H2 x dx Q E e hx ke kq => ⟨x, dx, _, rfl, hx, .inr ⟨z, rfl, hz, fun m hm H' d s h => ?_, fun a rs hm => (by rw [hb] at hm; cases hm)⟩⟩, fun H3 Q E e kd => ⟨_, rfl, .inr ⟨z, rfl, hz, fun H' s => ?_⟩⟩⟩
          · rw [hb] at hm
            cases hm
            exact ke _ rfl H' d s h
          · have q := kd H' s
            unfold dueOf
            rw [hb]
            exact q
        | inr ar =>
          refine ⟨none, fun m h => (by cases h), fun H2 x dx Q E e hx ke kq => ⟨x, dx, _, rfl, hx, .inr ⟨z, rfl, hz, fun m hm => (by rw [hb] at hm; cases hm), fun a rs hm H' t ps k1 _ _ _ _ => kq rfl H' k1⟩⟩, fun H3 Q E e kd => ⟨_, rfl, .inr ⟨z, rfl, hz, fun H' s => ?_⟩⟩⟩
          have q := kd H' s
          unfold dueOf
          rw [hb]
          exact q
    obtain ⟨res, rlt, hInit, hDue⟩ := hres
    clear hv
    refine rd_seq ?_
    refine ⟨hT, fun H1 e1 T1 t0 ht0 => ?_⟩
    refine ⟨_, rfl, fun x dx hx hdx ndx => ?_⟩
    have s0 : Same H1 (upd H1 t0 (.tup [.non, .non])) := same_new ht0
    generalize upd H1 t0 (.tup [.non, .non]) = G0 at s0 hx hdx ⊢
    have s1 : Same G0 (upd G0 dx (.own x)) := same_new hdx
    have hx1 : upd G0 dx (.own x) x = none := (upd_ne (Ne.symm ndx)).trans hx
    have s2 : Same (upd G0 dx (.own x)) (upd (upd G0 dx (.own x)) x (.ins B dx [])) := same_new hx1
    have fx : upd (upd G0 dx (.own x)) x (.ins B dx []) x = some (.ins B dx []) := upd_same
    have sH := (s0.trans s1).trans s2
    have hxn : H1 x = none := s0.free hx
    generalize upd (upd G0 dx (.own x)) x (.ins B dx []) = G2 at s2 fx sH ⊢
    refine hInit G2 x dx _ _ (e1.trans (ExtN.of sH)) fx (fun n hn H' d s d' => ?_) (fun hn H' k1 => ⟨rfl, fun p hp => ?_⟩)
    · refine ⟨F.exm, fun a ha p hp => ?_⟩
      have sA : Same H' (upd H' a (EX a (.ref C) (some d))) := same_new ha
      have fa : upd H' a (EX a (.ref C) (some d)) a = some (EX a (.ref C) (some d)) := upd_same
      have da := sA _ _ d'
      generalize upd H' a (EX a (.ref C) (some d)) = G3 at sA fa da hp ⊢
      have sP : Same G3 (upd G3 p (.tup [.ref a, .non])) := same_new hp
      have fp : upd G3 p (.tup [.ref a, .non]) p = some (.tup [.ref a, .non]) := upd_same
      generalize upd G3 p (.tup [.ref a, .non]) = G4 at sP fp ⊢
      have sAll := ((sH.trans s).trans sA).trans sP
      refine ⟨p, _, 0, .ref a, rfl, rfl, SqT.of fp, rfl, ?_⟩
      refine ⟨_, rfl, ?_⟩
      dsimp only [tNil]
      show spDue K [v] G4 _ _
      refine hDue G4 _ _ (e1.trans (ExtN.of sAll)) fun G5 s5 => ⟨_, _, rfl, ?_⟩
      have fa5 := s5 _ _ (sP _ _ fa)
      have da5 := s5 _ _ (sP _ _ da)
      have sEnd := sAll.trans s5
      subst hn
      have hn9 := rlt n rfl
      refine rd_seq (rd_if ?_)
      refine ⟨_, rfl, _, _, rfl, rfl, _, rfl, ?_⟩
      refine Eq.mpr (if_neg (fun q => by have : ((n : Nat) : Int) < 0 := of_decide_eq_true q; omega)) ?_
      dsimp only [tNext]
      refine ⟨_, rfl, a, .ref C, .ref C, .ref C, true, rfl, .inl ⟨C, d, fI, .int n, rfl, fa5, da5, F.bad⟩, fun u r => r, F.kit, _, rfl, ?_⟩
      refine Eq.mpr (if_pos rfl) ?_
      refine ⟨_, rfl, a, C, d, fI, .int n, rfl, fa5, F.bad, da5, (n : Int), rfl, small_log hn9, _, rfl, (n : Int), rfl, small_log hn9, rfl, ?_⟩
      have q := k G5 (e1.trans (ExtN.of sEnd)) (T1.ext sEnd)
      have e : decide (V.str (Str.ofString (toString ((n : Nat) : Int))) = V.str (Str.ofString (toString ((n : Nat) : Int)))) = true := decide_eq_true rfl
      rw [e]
      exact q
    · subst hn
      have kH : Same H1 H' := fun b o e => k1 b o (fun z => by rw [z, hxn] at e; cases e) (sH b o e)
      have sP : Same H' (upd H' p (.tup [.non, .ref x])) := same_new hp
      have fp : upd H' p (.tup [.non, .ref x]) p = some (.tup [.non, .ref x]) := upd_same
      generalize upd H' p (.tup [.non, .ref x]) = G4 at sP fp ⊢
      have sAll := kH.trans sP
      refine ⟨p, _, 0, .non, rfl, rfl, SqT.of fp, rfl, ?_⟩
      refine ⟨_, rfl, ?_⟩
      dsimp only [tNil]
      show spDue K [v] G4 _ _
      refine hDue G4 _ _ (e1.trans (ExtN.of sAll)) fun G5 s5 => ⟨_, _, rfl, ?_⟩
      have sEnd := sAll.trans s5
      refine rd_seq (rd_if ?_)
      refine ⟨_, rfl, _, _, rfl, rfl, _, rfl, ?_⟩
      refine Eq.mpr (if_pos rfl) ?_
      refine ⟨_, rfl, rfl, ?_⟩
      exact k G5 (e1.trans (ExtN.of sEnd)) (T1.ext sEnd)
end
end L2.K06

set_option Elab.async false
set_option linter.all false
set_option maxRecDepth 100000
set_option maxHeartbeats 4000000
namespace L2.K06
open PySem PySem.Spec PyProof.Rows L2.Vx
open PySem.W (Frag)
open LamX (CodeO Tabs TabS TabB ExtN)
/-! ### the law -/
def OkV (K : Frag) (H : Hp) (v : V) : Prop := NoStr K H v ∨ ∃ z : Str, v = .str z ∧ z.length ≤ 800000
theorem OkV.ext {K : Frag} {H H' : Hp} {v : V} (h : OkV K H v) (e : ExtN H H') : OkV K H' v := by
  rcases h with h | h
  · exact .inl (noStr_ext h e)
  · exact .inr h
theorem extN_mut {H H' : Hp} {a : Addr} {o : HO} (e : ExtN H H') (h : H a = none) : ExtN H (upd H' a o) := fun b u q n => by
  rw [upd_ne (ne_of_none q h)]
  exact e b u q n
theorem extN_seq {K : Frag} {H H' : Hp} {a : Addr} {xs : List V} (e : ExtN H H') (h : SqL K H a xs) : SqL K H' a xs := by
  rcases h with (h | ⟨o, h⟩) | h
  · exact .inl (.inl (e _ _ h (fun _ z => by cases z)))
  · exact .inl (.inr ⟨o, e _ _ h (fun _ z => by cases z)⟩)
  · exact .inr h
theorem tabs_lst {T : List (Addr × Str)} {H : Hp} {D : Addr} {xs : List V} {o : HO} (t : Tabs T H) (h : H D = some (.lst xs)) : Tabs T (upd H D o) := fun p hp => by
  obtain ⟨ps, h1, h2, h3⟩ := t p hp
  refine ⟨ps, (upd_ne (fun z => by rw [z, h] at h1; cases h1)).trans h1, h2, fun pos cv hc => ?_⟩
  obtain ⟨c, e1, e2⟩ := h3 pos cv hc
  exact ⟨c, e1, (upd_ne (fun z => by rw [z, h] at e2; cases e2)).trans e2⟩
def moreS : List Str := ["corner 3", "level 01", "grid 1", "grid 2", "among eldest", "", "straight", "wall 1 2", " level 2"]
theorem noStr_map {K : Frag} {H H' : Hp} {v : V} (h : NoStr K H v) (e : ∀ a o, H a = some o → H' a = some o ∨ ∃ xs ys, o = .lst xs ∧ H' a = some (.lst ys)) : NoStr K H' v := by
  obtain ⟨n, ty, hk⟩ := h
  refine ⟨n, ?_, hk⟩
  have keep : ∀ {a o}, H a = some o → (∀ xs, o ≠ .lst xs) → H' a = some o := fun {a o} q n => by
    rcases e a o q with z | ⟨xs, ys, z, _⟩
    · exact z
    · exact absurd z (n xs)
  cases ty with
  | base b =>
    cases b with
    | non => exact .base .non
    | bl x => exact .base (.bl x)
    | int i => exact .base (.int i)
    | str x => exact .base (.str x)
    | flt x => exact .base (.flt x)
    | lst q =>
      rcases e _ _ q with z | ⟨xs, ys, _, z⟩
      · exact .base (.lst z)
      · exact .base (.lst z)
    | frz q => exact .base (.frz (keep q (fun _ z => by cases z)))
    | tup q => exact .base (.tup (keep q (fun _ z => by cases z)))
    | dK q => exact .base (.dK (keep q (fun _ z => by cases z)))
    | dT q => exact .base (.dT (keep q (fun _ z => by cases z)))
  | byt b => exact .byt b
  | set q => exact .set (keep q (fun _ z => by cases z))
  | kList a b => exact .kList a b
  | kTuple a b => exact .kTuple a b
  | kDict a b => exact .kDict a b
  | fTuple q => exact .fTuple (keep q (fun _ z => by cases z))
  | fDict q => exact .fDict (keep q (fun _ z => by cases z))
theorem odd_str (x : Str) (h : PyData.str x ∈ odd1 ++ odd2) : x.length ≤ 10 := by
  have h2 : ∀ d ∈ odd1 ++ odd2, (match d with | .str y => decide (y.length ≤ 10) | _ => true) = true := by decide +kernel
  exact of_decide_eq_true (h2 _ h)
theorem more_len : ∀ y ∈ moreS, y.length ≤ 100 := by decide +kernel
theorem same_but {p : Addr} {A B C : Hp} (s : Same A B) (h : A p = none) (k : But p B C) : Same A C := fun b o e => k b o (fun z => by rw [z, h] at e; cases e) (s _ _ e)
theorem kD2 {p M : Addr} {H H' : Hp} {o : HO} (n : M ≠ p) (k : But p H H') (e : H M = some o) : H' M = some o := k _ _ n e
/-- all of them may be asked for; nothing of it hangs on p -/
def AllOk (K : Frag) (p : Addr) (H : Hp) (vs : List V) : Prop := ∀ v ∈ vs, OkV K (awy p H) v
theorem AllOk.but {K : Frag} {p : Addr} {H H' : Hp} {vs : List V} (h : AllOk K p H vs) (b : But p H H') : AllOk K p H' vs := fun v hv => (h v hv).ext (ExtN.of (awy_but b))
theorem OkV.put {K : Frag} {p V0 : Addr} {H : Hp} {v : V} {xs ys : List V} (h : OkV K (awy p H) v) (n : V0 ≠ p) (e : H V0 = some (.lst xs)) : OkV K (awy p (upd H V0 (.lst ys))) v := by
  rcases h with h | h
  · refine .inl (noStr_map h fun a o q => ?_)
    unfold awy at q ⊢
    by_cases hp : a = p
    · rw [if_pos hp] at q; cases q
    · rw [if_neg hp] at q ⊢
      by_cases ha : a = V0
      · subst ha
        rw [e] at q
        exact .inr ⟨xs, ys, (Option.some.inj q).symm, upd_same⟩
      · exact .inl ((upd_ne ha).trans q)
  · exact .inr h
theorem AllOk.put {K : Frag} {p V0 : Addr} {H : Hp} {vs : List V} {xs : List V} {v : V} (h : AllOk K p H vs) (hv : OkV K (awy p H) v) (n : V0 ≠ p) (e : H V0 = some (.lst xs)) : AllOk K p (upd H V0 (.lst (vs ++ [v]))) (vs ++ [v]) := fun u hu => by
  rcases List.mem_append.mp hu with hu | hu
  · exact (h u hu).put n e
  · rw [List.mem_singleton.mp hu]
    exact hv.put n e
section
variable {P : Program} {w : World} {K : Frag} {mg : Str → Option Value} {bs : Heap}
def spLaw (K : Frag) (PT : Addr) : Sp := fun vs H Q _ => ∃ (a : Addr) (ns : List Int), vs = [.ref a] ∧ SqL K H a (ns.map V.int) ∧ ns.length ≤ 63 ∧ Tabs [(PT, qL)] H ∧ ∀ H', Q (.bl true) H'
theorem scLaw : FnScope ["script", "more", "words", "place", "pot", "lines", "values", "turn", "some", "value"] ["script"] (defScope sLaw) := ⟨rfl, rfl, rfl, by decide +kernel, rfl, by decide +kernel, by decide +kernel⟩
theorem ok_law {f fRd fPo fT fO fS fSB fTx fOd fSp fCe PT : Addr} {fd fdRd fdPo fdT fdO fdS fdSB fdTx fdOd fdSp fdCe : FuncData} (FP : FD K "law" sLaw f fd) (F : Dx mg) (gStr : mg "str" = none) (gAll : mg "all" = none) (gTup : mg "tuple" = none)
    (GRd : FnOk P w K mg bs CX0 9 fRd fdRd ["value"] (spRead K PT)) (kRd : PySem.W.keepIn K (.ref fRd) = true) (gRd : mg "_law_is_read" = some (.ref fRd)) (bRd : Binds K fdRd ["value"] [])
    (FPo : FD K "_law_pot" sPot fPo fdPo) (gPo : mg "_law_pot" = some (.ref fPo)) (bPo : Binds K fdPo ["script", "place"] [])
    (FCe : FD K "_law_cells" sCells fCe fdCe) (gCe : mg "_law_cells" = some (.ref fCe)) (bCe : Binds K fdCe ["script", "most"] [])
    (FT : FD K "_law_take" sTake fT fdT) (gT : mg "_law_take" = some (.ref fT)) (bT : Binds K fdT ["pot", "upto"] [])
    (FO : FD K "_law_of" sOf fO fdO) (gO : mg "_law_of" = some (.ref fO)) (bO : Binds K fdO ["pot", "some"] [])
    (FS : FD K "_law_some" sSome fS fdS) (gS : mg "_law_some" = some (.ref fS)) (bS : Binds K fdS ["pot", "pool", "many"] [])
    (FSB : FD K "_law_some_book" sSomeB fSB fdSB) (gSB : mg "_law_some_book" = some (.ref fSB)) (bSB : Binds K fdSB ["pot", "words", "most"] [])
    (FTx : FD K "_law_book_text" sText fTx fdTx) (gTx : mg "_law_book_text" = some (.ref fTx)) (bTx : Binds K fdTx ["book"] [])
    (FOd : FD K "_law_odd" sOdd fOd fdOd) (gOd : mg "_law_odd" = some (.ref fOd)) (bOd : Binds K fdOd ["pot"] [])
    (FSp : FD K "_law_spoilt_text" sSpoilt fSp fdSp) (gSp : mg "_law_spoilt_text" = some (.ref fSp)) (bSp : Binds K fdSp ["pot", "lines", "more"] []) : FnOk P w K mg bs CX0 10 f fd ["script"] (spLaw K PT) := by
  have sc := scLaw
  have GPo : FnOk P w K mg bs CX0 1 fPo fdPo ["script", "place"] (spPot K) := ok_pot FPo F
  have GCe : FnOk P w K mg bs CX0 1 fCe fdCe ["script", "most"] (spCells K) := ok_cells FCe F
  have GT : FnOk P w K mg bs CX0 1 fT fdT ["pot", "upto"] spTake := ok_take FT F
  have GSB : FnOk P w K mg bs CX0 3 fSB fdSB ["pot", "words", "most"] (spSomeB K) := ok_someB FSB F FT gT bT FO gO bO FS gS bS
  have GTx : FnOk P w K mg bs CX0 1 fTx fdTx ["book"] (spText K) := ok_text FTx gStr
  have GOd : FnOk P w K mg bs CX0 3 fOd fdOd ["pot"] (spOdd K) := ok_odd FOd F FT gT bT FO gO bO
  have GSp : FnOk P w K mg bs CX0 3 fSp fdSp ["pot", "lines", "more"] (spSpoilt K) := ok_spoilt FSp F FT gT bT FO gO bO
  refine FP.ok scLaw (fun vs H Q E h => ?_) (fun cdv A outer s H vs Q E hr h => ?_)
  · obtain ⟨a, ns, rfl, _⟩ := h
    rfl
  · obtain ⟨a, ns, rfl, hS, hlen, hT, k⟩ := h
    have hr1 : Room 1 (A.deeper (envOfC "law" (defScope sLaw) s.heap.objs.size f cdv)) := hr.mono (by decide)
    have hr3 : Room 3 (A.deeper (envOfC "law" (defScope sLaw) s.heap.objs.size f cdv)) := hr.mono (by decide)
    refine ⟨_, pss_cons (ps_set (i := 1) sc.nd rfl (Or.inl rfl) (pe_lst (pa_cons pe_str (pa_cons pe_str (pa_cons pe_str (pa_cons pe_str (pa_cons pe_str (pa_cons pe_str (pa_cons pe_str (pa_cons pe_str (pa_cons pe_str pa_nil)))))))))))
      (pss_cons (ps_set (i := 2) sc.nd rfl (Or.inl rfl) (pe_lst (pa_cons pe_str (pa_cons pe_str (pa_cons pe_str (pa_cons pe_str (pa_cons pe_str pa_nil)))))))
      (pss_cons (ps_for PassesOwn.never rfl (pi_list (pe_call GCe hr1 (by rfl) gCe FCe.kp bCe .nil pass0 (pa_cons (pv 0) (pa_cons pe_int pa_nil)))) (pg_name (i := 3) sc.nd rfl (Or.inl rfl))
        (pss_cons (ps_set (i := 4) sc.nd rfl (Or.inl rfl) (pe_call GPo hr1 (by rfl) gPo FPo.kp bPo .nil pass0 (pa_cons (pv 0) (pa_cons (pv 3) pa_nil))))
        (pss_cons (ps_set (i := 5) sc.nd rfl (Or.inl rfl) (pe_split (pe_call GTx hr1 (by rfl) gTx FTx.kp bTx .nil pass0 (pa_cons (pe_call GSB hr3 (by rfl) gSB FSB.kp bSB .nil pass0 (pa_cons (pv 4) (pa_cons (pv 2) (pa_cons pe_int pa_nil)))) pa_nil)) pe_str))
        (pss_cons (ps_set (i := 6) sc.nd rfl (Or.inl rfl) (pe_lst (pa_cons (pe_join pe_str (pv 5)) (pa_cons pe_str (pa_cons (pe_ix ix_list (pv 5) pe_int (fun _ _ => rfl)) (pa_cons (pe_join pe_str (pe_slice sl_list (pv 5) (po_some pe_int) po_none))
            (pa_cons pe_non (pa_cons pe_int (pa_cons pe_bl (pa_cons (pe_callTy call_tuple_of (by rfl) gTup boot_tuple (pa_cons (pv 5) pa_nil)) (pa_cons (pv 5) pa_nil)))))))))))
        (pss_cons (ps_expr (pe_bm PySem.F.plainAttrs_list PySem.F.slot_list_append PySem.F.type_list_append mt_append (pv 6) (pa_cons (pe_call GOd hr3 (by rfl) gOd FOd.kp bOd .nil pass0 (pa_cons (pv 4) pa_nil)) pa_nil)))
        (pss_cons (ps_for PassesOwn.never rfl (pi_range1 (by rfl) F.range (pa_cons pe_int pa_nil)) (pg_name (i := 7) sc.nd rfl (Or.inl rfl))
          (pss_cons (ps_set (i := 8) sc.nd rfl (Or.inl rfl) (pe_call GSp hr3 (by rfl) gSp FSp.kp bSp .nil pass0 (pa_cons (pv 4) (pa_cons (pv 5) (pa_cons (pv 1) pa_nil)))))
          (Evl.pss_cut (ps_if (pt_cmpR op_eq (pe_call GT hr1 (by rfl) gT FT.kp bT .nil pass0 (pa_cons (pv 4) (pa_cons pe_int pa_nil))) pe_int (nomark _))
              (pss_one (ps_set (i := 8) sc.nd rfl (Or.inl rfl) (pe_call GSp hr3 (by rfl) gSp FSp.kp bSp .nil pass0 (pa_cons (pv 4) (pa_cons (pe_split (pv 8) pe_str) (pa_cons (pv 1) pa_nil)))))) pss_nil)
          (pss_one (ps_expr (pe_bm PySem.F.plainAttrs_list PySem.F.slot_list_append PySem.F.type_list_append mt_append (pv 6) (pa_cons (pv 8) pa_nil)))))))
        (pss_one (ps_if (pt_not (pt_val (pe_callB (cr_all rfl) (by rfl) gAll boot_all (pa_cons
              (pe_lc (own := [("value", 9)]) (g := gName 9) (by rfl) sc.nd (pi_list (pv 6)) (blkOk_by (N := ["script", "more", "words", "place", "pot", "lines", "values", "turn", "some", "value"]) (sc := defScope sLaw) (by decide +kernel))
                (fun _ _ _ _ _ => pg_name (i := 9) sc.nd rfl (Or.inl rfl)) (fun _ _ _ _ _ => pts_nil)
                (fun _ _ _ _ _ => pe_call GRd hr (by rfl) gRd kRd bRd .nil pass0 (pa_cons (pv 9) pa_nil))) pa_nil))))
            (pss_one (ps_ret pe_bl)) pss_nil))))))))
      (pss_one (ps_ret pe_bl)))), ?_⟩
    refine rd_seq (rd_set ?_)
    refine ⟨(by exact (by decide : 9 ≤ sizeLine)), fun M hM => ?_⟩
    have fM : upd H M (.lst (moreS.map V.str)) M = some (.lst (moreS.map V.str)) := upd_same
    have s1 : Same H (upd H M (.lst (moreS.map V.str))) := same_new hM
    dsimp only
    change tSeq _ _ _ _ (upd H M (.lst (moreS.map V.str)))
    generalize upd H M (.lst (moreS.map V.str)) = H1 at fM s1 ⊢
    refine rd_seq (rd_set ?_)
    refine ⟨(by exact (by decide : 5 ≤ sizeLine)), fun Wd hW => ?_⟩
    have fW : upd H1 Wd (.lst (ruleWords.map V.str)) Wd = some (.lst (ruleWords.map V.str)) := upd_same
    have s2 : Same H1 (upd H1 Wd (.lst (ruleWords.map V.str))) := same_new hW
    dsimp only
    change tSeq _ _ _ _ (upd H1 Wd (.lst (ruleWords.map V.str)))
    have fM2 := s2 _ _ fM
    generalize upd H1 Wd (.lst (ruleWords.map V.str)) = H2 at fW s2 fM2 ⊢
    have sH2 := s1.trans s2
    have hS2 := sH2.seq hS
    have hT2 := hT.ext sH2
    clear fM s1 s2 hS hT sH2 hM hW
    refine rd_seq ?_
    refine ⟨_, rfl, a, ns, 6, rfl, hS2, hlen, by decide, fun H3 q n s3 hq0 hn hq => ⟨q, rfl, ⟨_, SqL.of hq⟩, for_it (walk_list (K := K) (a := q) (xs := (List.range n).map fun i : Nat => V.int (i : Int))) (fun i σ H' => ∃ v3 v4 v5 v6 v7 v8 : Option V,
      σ = [some (.ref a), some (.ref M), some (.ref Wd), v3, v4, v5, v6, v7, v8, none] ∧ ExtN H3 H' ∧ Tabs [(PT, qL)] H') ⟨none, none, none, none, none, none, rfl, ExtN.refl _, hT2.ext s3⟩ (fun i σ H' _ u => ?_) ?_ ?_⟩⟩
    · obtain ⟨_, _, _, _, _, _, _, e, _⟩ := u
      exact extN_seq e (SqL.of hq)
    · rintro i x σ H4 H5 hi ⟨v3, v4, v5, v6, v7, v8, rfl, eN, hT4⟩ ⟨rfl, hx⟩
      have hi' : i < n := by simpa using hi
      have hx2 : x = .int (i : Int) := by
        rw [List.getElem?_map, List.getElem?_range hi'] at hx
        exact (Option.some.inj hx).symm
      subst hx2
      have hS4 := extN_seq eN (s3.seq hS2)
      have fM4 := eN _ _ (s3 _ _ fM2) (fun _ z => by cases z)
      have fW4 := eN _ _ (s3 _ _ fW) (fun _ z => by cases z)
      refine rd_seq (rd_set ?_)
      refine ⟨_, rfl, _, rfl, a, ns, (i : Int), rfl, hS4, hlen, by omega, by omega, fun H5 p s5 hp0 hP => ?_⟩
      have fM5 := s5 _ _ fM4
      have fW5 := s5 _ _ fW4
      have nMp : M ≠ p := ne_of_none fM4 hp0
      have nWp : Wd ≠ p := ne_of_none fW4 hp0
      dsimp only
      refine rd_seq (rd_set ?_)
      refine ⟨_, rfl, _, rfl, p, Wd, 5, 0, rfl, fW5, nWp, by decide, by decide, by decide, by decide, hP, fun H6 D R ps rs am k6 hP6 hD0 hR0 hD hR pr ham hbk => ?_⟩
      refine ⟨D, R, ps, rs, am, rfl, hD, hR, pr, ham, hbk, fun H7 s7 => ?_⟩
      have lt := lines_tot ham hbk
      have lz := join_tot nl1 (bookLines am rs)
      generalize Txt.join "\n" (bookLines am rs) = z at lz ⊢
      refine ⟨⟨_, rfl⟩, z, "\n", rfl, rfl, rfl, Nat.le_trans (by omega : z.length + 2 ≤ 1000) (by decide), fun L hL => ?_⟩
      have fL : upd H7 L (.lst ((Txt.split z "\n").map V.str)) L = some (.lst ((Txt.split z "\n").map V.str)) := upd_same
      have s8 : Same H7 (upd H7 L (.lst ((Txt.split z "\n").map V.str))) := same_new hL
      have tw : tot (Txt.split z "\n") = z.length + 1 := by rw [nl_eq]; exact split_tot z (by decide)
      have nw0 : Txt.split z "\n" ≠ [] := by rw [nl_eq]; exact split_ne z (by decide)
      have hP7 := hP6.same s7
      have nLp : L ≠ p := hP7.ne hL
      have hL0 : H5 L = none := (k6.trans (But.of s7)).free hL hP7.some.choose_spec
      generalize upd H7 L (.lst ((Txt.split z "\n").map V.str)) = H8 at fL s8 ⊢
      generalize Txt.split z "\n" = W at fL tw nw0 ⊢
      have hP8 : Pot H8 p 12 := (hP7.same s8).mono (by omega)
      have k8 : But p H5 H8 := (k6.trans (But.of s7)).trans (But.of s8)
      have hz : z.length ≤ 68 := Nat.le_trans lz lt
      clear hP7 hP6 s7 s8 k6 hD hR pr hD0 hR0 hP lz lt
      cases W with
      | nil => exact absurd rfl nw0
      | cons w0 W' =>
      have hw0 : w0.length + 1 ≤ tot (w0 :: W') := tot_mem (by simp)
      have lW0 : 0 < (w0 :: W').length := by simp
      generalize hWW : w0 :: W' = W at fL tw nw0 hw0 lW0 ⊢
      have hgW : (W.map V.str)[0]? = some (V.str w0) := by rw [← hWW]; rfl
      clear hWW
      dsimp only
      refine rd_seq (rd_set ?_)
      refine ⟨⟨_, rfl⟩, _, rfl, "\n", L, W, rfl, rfl, .inl (SqL.of fL), by rw [tot_sum _ nl1]; omega, ?_⟩
      refine ⟨_, rfl, L, _, 0, .str w0, rfl, rfl, SqL.of fL, atI_nat (j := 0) hgW, ?_⟩
      refine ⟨⟨_, rfl⟩, _, rfl, _, rfl, L, _, rfl, SqL.of fL, fun q1 h1 => ?_⟩
      have g1 : upd H8 q1 (.lst (cutV (W.map V.str) (some 1) none)) q1 = some (.lst ((cutL W (some 1) none).map V.str)) := by rw [upd_same, cutV_map]
      have t1 : Same H8 (upd H8 q1 (.lst (cutV (W.map V.str) (some 1) none))) := same_new h1
      generalize upd H8 q1 (.lst (cutV (W.map V.str) (some 1) none)) = G1 at g1 t1 ⊢
      have lc := cutL_tot W (some 1) none
      have lj1 := join_tot nl1 W
      have lj2 := join_tot nl1 (cutL W (some 1) none)
      refine ⟨"\n", q1, cutL W (some 1) none, rfl, rfl, .inl (SqL.of g1), by rw [tot_sum _ nl1]; omega, ?_⟩
      refine ⟨_, rfl, L, _, rfl, .inl ⟨SqL.of (t1 _ _ fL), fun tq htq => ?_⟩⟩
      have g2 : upd G1 tq (.tup (W.map V.str)) tq = some (.tup (W.map V.str)) := upd_same
      have t2 : Same G1 (upd G1 tq (.tup (W.map V.str))) := same_new htq
      generalize upd G1 tq (.tup (W.map V.str)) = G2 at g2 t2 ⊢
      refine ⟨_, rfl, (by exact (by decide : 9 ≤ sizeLine)), fun Vv hV => ?_⟩
      have fL2 := t2 _ _ (t1 _ _ fL)
      have hP9 := (hP8.same t1).same t2
      have nVp : Vv ≠ p := hP9.ne hV
      have ntp : tq ≠ p := (hP8.same t1).ne htq
      have k9 : But p H5 G2 := (k8.trans (But.of t1)).trans (But.of t2)
      have hV0 : H5 Vv = none := k9.free hV hP9.some.choose_spec
      have aw : ∀ {b : Addr} {o : HO}, b ≠ p → G2 b = some o → awy p G2 b = some o := fun {b o} n e => by unfold awy; rw [if_neg n]; exact e
      have ok9 : AllOk K p G2 [.str (Txt.join "\n" W), .str "", .str w0, .str (Txt.join "\n" (cutL W (some 1) none)), .non, .int 0, .bl true, .ref tq, .ref L] := fun v hv => by
        simp only [List.mem_cons, List.not_mem_nil, or_false] at hv
        rcases hv with rfl | rfl | rfl | rfl | rfl | rfl | rfl | rfl | rfl
        · exact .inr ⟨_, rfl, by omega⟩
        · exact .inr ⟨_, rfl, by decide +kernel⟩
        · exact .inr ⟨_, rfl, by omega⟩
        · exact .inr ⟨_, rfl, by omega⟩
        · exact .inl (noStr_of .non rfl)
        · exact .inl (noStr_of (.int 0) rfl)
        · exact .inl (noStr_of (.bl true) rfl)
        · exact .inl ⟨_, .base (.tup (aw ntp g2)), by decide +kernel⟩
        · exact .inl ⟨_, .base (.lst (aw nLp fL2)), by decide +kernel⟩
      generalize h9 : ([.str (Txt.join "\n" W), .str "", .str w0, .str (Txt.join "\n" (cutL W (some 1) none)), .non, .int 0, .bl true, .ref tq, .ref L] : List V) = vs9 at ok9
      have l9 : vs9.length = 9 := by rw [← h9]; rfl
      have fV : upd G2 Vv (.lst vs9) Vv = some (.lst vs9) := upd_same
      have t3 : Same G2 (upd G2 Vv (.lst vs9)) := same_new hV
      have nVL : Vv ≠ L := Ne.symm (ne_of_none fL2 hV)
      dsimp only
      generalize upd G2 Vv (.lst vs9) = G3 at fV t3 ⊢
      have ok3 : AllOk K p G3 vs9 := ok9.but (But.of t3)
      have hPA := hP9.same t3
      have kA := k9.trans (But.of t3)
      have fLA := t3 _ _ fL2
      clear g1 t1 g2 t2 hV ok9 fL2 hP9 k9 t3 aw h1 htq h9 fL hP8 k8 hgW lj1 lj2 lc
      refine rd_seq ?_
      refine ⟨_, rfl, .inl ⟨rfl, _, SqL.of fV⟩, _, rfl, p, 12, rfl, by decide, hPA, fun H9 v d kO hPO hd hdd => ?_⟩
      have fVO := kO _ _ nVp fV
      refine ⟨Vv, _, _, rfl, rfl, fVO, Nat.lt_of_le_of_lt (Nat.le_of_eq l9) (by decide), ?_⟩
      have okv : OkV K (awy p H9) v := by
        by_cases hs : isS d = true
        · refine .inr ?_
          cases hdd with
          | str x =>
            refine ⟨x, rfl, ?_⟩
            have := odd_str x hd
            omega
          | _ => cases hs
        · exact .inl (noStr_of hdd (by simpa using hs))
      have okB := (ok3.but kO).put okv nVp fVO
      have fVB : upd H9 Vv (.lst (vs9 ++ [v])) Vv = some (.lst (vs9 ++ [v])) := upd_same
      have kB : But p H5 (upd H9 Vv (.lst (vs9 ++ [v]))) := (kA.trans kO).mut hV0
      have fLB : upd H9 Vv (.lst (vs9 ++ [v])) L = some (.lst (W.map V.str)) := (upd_ne (Ne.symm nVL)).trans (kO _ _ nLp fLA)
      have hPB : Pot (upd H9 Vv (.lst (vs9 ++ [v]))) p 13 := by
        obtain ⟨o, b1, c1, e, r1⟩ := hPO
        exact ⟨o, b1, c1, (upd_ne (Ne.symm nVp)).trans e, r1⟩
      have lB : (vs9 ++ [v]).length = 10 := by rw [List.length_append, l9]; rfl
      generalize upd H9 Vv (.lst (vs9 ++ [v])) = HB at okB fVB kB fLB hPB ⊢
      generalize vs9 ++ [v] = vsB at okB fVB lB
      clear okv hdd hd kO hPO fVO ok3 hPA kA fLA fV
      dsimp only
      refine rd_seq ?_
      refine ⟨12, rfl, by decide, by decide, for_range (lo := 0) (n := 12) (fun j σ H' => ∃ (v7 v8 : Option V) (us : List V), σ = [some (.ref a), some (.ref M), some (.ref Wd), some (.int i), some (.ref p), some (.ref L), some (.ref Vv), v7, v8, none] ∧
        But p H5 H' ∧ Pot H' p (13 + 11 * j) ∧ H' L = some (.lst (W.map V.str)) ∧ H' Vv = some (.lst us) ∧ us.length = 10 + j ∧ AllOk K p H' us) ⟨v7, v8, vsB, rfl, kB, hPB.mono (by omega), fLB, fVB, lB, okB⟩ ?_ ?_⟩
      · rintro j σ HC hj ⟨v7, v8, us, rfl, kC, hPC, fLC, fVC, lC, okC⟩
        have fMC := kC _ _ nMp fM5
        dsimp only
        refine rd_seq (rd_set ?_)
        refine ⟨_, rfl, _, rfl, _, rfl, p, L, M, W, moreS, 13 + 11 * j, rfl, fLC, nLp, fMC, nMp, lW0, by omega, by decide, by decide, more_len, by omega, hPC, fun HD z1 kD hPD hz1 => ?_⟩
        have kCD := kC.trans kD
        have fLD := kD _ _ nLp fLC
        have fVD := kD _ _ nVp fVC
        have okD := okC.but kD
        clear hPC fLC fVC okC kC kD
        refine ⟨fun σ' H' => ∃ z2 : Str, σ' = [some (.ref a), some (.ref M), some (.ref Wd), some (.int i), some (.ref p), some (.ref L), some (.ref Vv), some (.int ((0 : Int) + j)), some (.str z2), none] ∧ But p H5 H' ∧ Pot H' p (13 + 11 * j + 11) ∧ H' L = some (.lst (W.map V.str)) ∧ H' Vv = some (.lst us) ∧ AllOk K p H' us ∧ z2.length ≤ 5000, ?_, ?_⟩
        · refine rd_if ?_
          refine ⟨_, rfl, p, 4, 13 + 11 * j + 5, rfl, by decide, by decide, by omega, hPD, fun HE r kE hPE r0 r1 => ⟨rfl, _, rfl, ?_⟩⟩
          have fME := kE _ _ nMp (kD2 nMp kCD fM5)
          have fLE := kE _ _ nLp fLD
          have fVE := kE _ _ nVp fVD
          have okE := okD.but kE
          have kE5 := kCD.trans kE
          by_cases c0 : V.int r = V.int 0
          · refine Eq.mpr (if_pos (decide_eq_true c0)) ?_
            refine rd_set ?_
            refine ⟨_, rfl, _, rfl, ⟨_, rfl⟩, z1, "\n", rfl, rfl, rfl, Nat.le_trans (by omega : z1.length + 2 ≤ 1000) (by decide), fun L2 hL2 => ?_⟩
            have fL2 : upd HE L2 (.lst ((Txt.split z1 "\n").map V.str)) L2 = some (.lst ((Txt.split z1 "\n").map V.str)) := upd_same
            have sE : Same HE (upd HE L2 (.lst ((Txt.split z1 "\n").map V.str))) := same_new hL2
            have tw2 : tot (Txt.split z1 "\n") = z1.length + 1 := by rw [nl_eq]; exact split_tot z1 (by decide)
            have nw2 : Txt.split z1 "\n" ≠ [] := by rw [nl_eq]; exact split_ne z1 (by decide)
            have n2p : L2 ≠ p := hPE.ne hL2
            generalize upd HE L2 (.lst ((Txt.split z1 "\n").map V.str)) = HF at fL2 sE ⊢
            generalize Txt.split z1 "\n" = W2 at fL2 tw2 nw2 ⊢
            refine ⟨_, rfl, p, L2, M, W2, moreS, 13 + 11 * j + 5 + 1, rfl, fL2, n2p, sE _ _ fME, nMp, List.length_pos_iff.mpr nw2, by omega, by decide, by decide, more_len, by omega, hPE.same sE, fun HG z2 kG hPG hz2 => ?_⟩
            exact ⟨z2, rfl, (kE5.trans (But.of sE)).trans kG, hPG.mono (by omega), kG _ _ nLp (sE _ _ fLE), kG _ _ nVp (sE _ _ fVE), (okE.but (But.of sE)).but kG, by omega⟩
          · refine Eq.mpr (if_neg (fun q => c0 (of_decide_eq_true q))) ?_
            exact ⟨z1, rfl, kE5, hPE.mono (by omega), fLE, fVE, okE, by omega⟩
        · rintro σ' HG ⟨z2, rfl, kG, hPG, fLG, fVG, okG, hz2⟩
          refine ⟨_, rfl, .inl ⟨rfl, _, SqL.of fVG⟩, _, rfl, Vv, _, _, rfl, rfl, fVG, Nat.lt_of_le_of_lt (by omega : us.length ≤ 100) (by decide), ?_⟩
          refine ⟨_, _, us ++ [.str z2], rfl, kG.mut hV0, ?_, (upd_ne (Ne.symm nVL)).trans fLG, upd_same, by rw [List.length_append, lC]; rfl, okG.put (.inr ⟨z2, rfl, by omega⟩) nVp fVG⟩
          obtain ⟨o, b1, c1, e, r1⟩ := hPG.mono (by omega : 13 + 11 * (j : Int) + 11 ≤ 13 + 11 * ((j + 1 : Nat) : Int))
          exact ⟨o, b1, c1, (upd_ne (Ne.symm nVp)).trans e, r1⟩
      · rintro σ HC ⟨v7, v8, us, rfl, kC, hPC, fLC, fVC, lC, okC⟩
        have s4C := same_but s5 hp0 kC
        have hTC := hT4.ext s4C
        have okF : ∀ v ∈ us, OkV K HC v := fun v hv => (okC v hv).ext (ExtN.of awy_le)
        dsimp only
        refine rd_if ?_
        refine ⟨_, rfl, Vv, rfl, ⟨_, SqL.of fVC⟩, fun E1 hE => lc_it (walk_list (K := K) (a := Vv) (xs := us)) (fun t H' => ExtN HC H' ∧ Tabs [(PT, qL)] H' ∧ H' E1 = some (.lst ((List.replicate t true).map V.bl))) ⟨ExtN.of (same_new hE), hTC.ext (same_new hE), upd_same⟩ (fun _ _ _ u => extN_seq u.1 (SqL.of fVC)) ?_ ?_⟩
        · rintro t v HD HE ht ⟨eD, tD, dD⟩ ⟨rfl, hv⟩
          refine ⟨rfl, rd_yes rfl ?_⟩
          refine ⟨_, rfl, v, rfl, tD, (okF v (List.mem_of_getElem? hv)).ext eD, fun HF eF tF => ?_⟩
          have dF := eF _ _ dD (fun _ z => by cases z)
          refine ⟨_, dF, ?_, extN_mut (eD.trans eF) hE, tabs_lst tF dF, by rw [upd_same, List.replicate_succ', List.map_append]; rfl⟩
          rw [List.length_map, List.length_replicate]
          exact Nat.lt_of_le_of_lt (by omega : t ≤ 100) (by decide)
        · rintro HD ⟨eD, tD, dD⟩
          refine ⟨E1, _, rfl, SqL.of dD, _, rfl, ?_⟩
          have ea : (List.replicate us.length true).all id = true := by simp
          rw [ea]
          refine Eq.mpr (if_neg (by decide)) ?_
          exact ⟨_, _, _, _, _, _, rfl, (eN.trans (ExtN.of s4C)).trans eD, tD⟩
    · rintro σ H4 ⟨v3, v4, v5, v6, v7, v8, rfl, eN, hT4⟩
      exact k H4
end
end L2.K06

set_option Elab.async false
set_option linter.all false
set_option maxRecDepth 100000
set_option maxHeartbeats 0
namespace L2.K06
open PySem PySem.Spec PyProof.Rows L2.Vx
open PySem.W (Frag)
open LamX (CodeO Tabs TabS TabB ExtN)
open He (ga ma)
def fI (K : Frag) : Addr := ma K (ga K "DrawError") "__init__"
/-- the written dict of the least numbers -/
def kvOf (e : DictEntry) : Option (Str × Int) := match e.key, e.val with
  | .str x _, .int i _ => some (x, i)
  | _, _ => none
def leastL : List (Option (Str × Int)) := [some ("corner", 0), some ("wall", 0), some ("level", 0), some ("straight", 0), some ("grid", 2)]
def leastB (K : Frag) : Bool := match K.lookup (ga K "LEAST") with
  | some ⟨_, _, .dict es _, _⟩ => decide (es.toList.map kvOf = leastL)
  | _ => false
def exK (K : Frag) : Bool :=
  errB K (ga K "BadBook") (fI K) && (decide (PySem.W.kitOne K (.ref (ga K "BadBook")) (.ref (ga K "BadBook")) = some true) &&
    (decide (PySem.W.exmOne K (.ref (ga K "BadBook")) (.ref (ga K "DrawError")) = some true) && leastB K))
abbrev dD (x : Str) (s : Stmt) : He.DefD := ⟨(x, none), x, x, defArgs s, defBody s, defScope s, [], []⟩
abbrev sInit : Stmt := sDErr
def dInit : He.DefD := ⟨("DrawError", some "__init__"), "__init__", "DrawError.__init__", defArgs sInit, defBody sInit, defScope sInit, [], []⟩
def dBook : He.DefD := ⟨("Book", some "__init__"), "__init__", "Book.__init__", defArgs sBook, defBody sBook, defScope sBook, [], []⟩
def dCons : He.DefD := dD "consists_of" sCons
def dNum : He.DefD := dD "number_in" sNum
def dAmong : He.DefD := dD "read_among" sAmong
def dRules : He.DefD := dD "read_rules" sRules
def dRule : He.DefD := dD "read_rule" sRule
def dPot : He.DefD := dD "_law_pot" sPot
def dTake : He.DefD := dD "_law_take" sTake
def dOf : He.DefD := dD "_law_of" sOf
def dSome : He.DefD := dD "_law_some" sSome
def dCells : He.DefD := dD "_law_cells" sCells
def dTold : He.DefD := dD "_law_told" sTold
def dOdd : He.DefD := dD "_law_odd" sOdd
def dSomeB : He.DefD := dD "_law_some_book" sSomeB
def dText : He.DefD := dD "_law_book_text" sText
def dNumOf : He.DefD := dD "_law_number_of" sNumOf
def dDue : He.DefD := dD "_law_book_due" sDue
def dSpoilt : He.DefD := dD "_law_spoilt_text" sSpoilt
def dRead : He.DefD := dD "_law_is_read" sRead
def dLaw : He.DefD := dD "law" sLaw
def fn : List He.DefD := [dInit, dBook, dCons, dNum, dAmong, dRules, dRule, dPot, dTake, dOf, dSome, dCells, dTold, dOdd, dSomeB, dText, dNumOf, dDue, dSpoilt, dRead, dLaw]
def glos : List Str := ["DrawError", "BadBook", "Book", "LEAST", "consists_of", "number_in", "read_among", "read_rules", "read_rule", "_law_pot", "_law_take", "_law_of", "_law_some", "_law_cells", "_law_told", "_law_odd", "_law_some_book",
  "_law_book_text", "_law_number_of", "_law_book_due", "_law_spoilt_text", "_law_is_read", "law"]
def frees : List Str := ["len", "abs", "int", "max", "min", "range", "list", "str", "all", "isinstance", "enumerate", "tuple", "repr"]
def fa : List He.Fa := glos.map He.Fa.glo ++ (frees.map He.Fa.free ++ [.int "LONGEST_NUMBER" 9, .int "MOST" 99, .str "DIGITS" "0123456789", .cls "Book", .noat "Book" "text", .noat "Book" "among", .noat "Book" "rules", .mkr "Book"])
def ts : List He.Tab := [(fun K => ga K "LEAST", ["corner", "wall", "level", "straight", "grid"])]
def tf : List He.Defn := [("_law_is_read", none)]
abbrev R : PySem.W.OpenRow := PySem.W.OpenLaw.row PySem.Challenge.rw_wobblesnap_k06_whole_lines_of_no_book
abbrev hk : PySem.W.Hook := He.hookX 5 fa fn ts tf exK
def ob (s : PySem.W.SharedT) : He.AlX := He.obsX 5 fa fn ts tf exK (HandSHeadRun.getT s)
theorem ob_eq (s : PySem.W.SharedT) : ob s = hk.obs s.abs := He.obsX_eq (HandSHeadRun.getT_eq s)
def loose : List Str := ["DrawError", "BadBook", "NoRule", "Book", "LEAST", "MOST", "DIGITS", "LONGEST_NUMBER", "consists_of", "number_in", "read_among", "read_rules", "read_rule", "_law_pot", "_law_take", "_law_of", "_law_some", "_law_cells", "_law_told", "_law_odd", "_law_some_book",
  "_law_book_text", "_law_number_of", "_law_book_due", "_law_spoilt_text", "_law_is_read"]
theorem runF (w : World) : HandSHeadRun.RunEq R (PySem.W.view R.prog [30]) hk ob 4000 loose (w.withFollow "special-get-raises" false) := by
  intro os
  kernel_rfl
theorem runT (w : World) : HandSHeadRun.RunEq R (PySem.W.view R.prog [30]) hk ob 4000 loose (w.withFollow "special-get-raises" true) := by
  intro os
  kernel_rfl
theorem run (w : World) : HandSHeadRun.RunEq R (PySem.W.view R.prog [30]) hk ob 4000 loose w := PySem.W.byRow2 "special-get-raises" (P := fun w => HandSHeadRun.RunEq R (PySem.W.view R.prog [30]) hk ob 4000 loose w) runF runT w
end L2.K06

set_option Elab.async false
set_option linter.all false
set_option maxRecDepth 100000
set_option maxHeartbeats 4000000
namespace L2.K06
open PySem PySem.Spec PyProof.Rows L2.Vx
open PySem.W (Frag)
open LamX (CodeO Tabs TabS TabB ExtN)
open He (ga ma)
/-- a def's own words from the hook's -/
theorem fun_of {K : Frag} {x qual : Str} {st : Stmt} {f : Addr} {fd : FuncData} (h : FunD K x qual (defArgs st) (defBody st) (defScope st) [] [] f fd) : Fun K x qual st f fd := by
  obtain ⟨oc, od, dV, kV, doc, pm, an, cdv, ct, osl, e, lk, hc, hD, _⟩ := h.ex
  rcases hD with ⟨_, rfl⟩ | ⟨z, _⟩
  · exact ⟨⟨oc, od, kV, doc, pm, an, cdv, ct, osl, e, lk, hc⟩, h.kp⟩
  · exact absurd rfl z
theorem init_of {K : Frag} {fd : FuncData} (h : FunD K "__init__" "DrawError.__init__" (defArgs sInit) (defBody sInit) (defScope sInit) [] [] (fI K) fd) : InitF K (fI K) := by
  obtain ⟨oc, od, dV, kV, doc, pm, an, cdv, ct, osl, e, lk, hc, hD, hK⟩ := h.ex
  rcases hD with ⟨_, rfl⟩ | ⟨z, _⟩
  · exact ⟨oc, od, kV, doc, pm, an, cdv, ct, osl, _, _, _, _, _, _, by rw [lk, e]; rfl, hc⟩
  · exact absurd rfl z
/-- the code object that a def holds -/
theorem code_of {K : Frag} {x qual : Str} {st : Stmt} {fd : FuncData} {p : He.Defn} (F : Fun K x qual st (He.fAd K p) fd) : fd.code = .ref (He.codeOf K p) := by
  obtain ⟨oc, od, kV, doc, pm, an, cdv, ct, osl, rfl, lk, hcd⟩ := F.ex
  obtain ⟨c, rfl⟩ := He.codeIn_ref hcd
  have e := He.codeOf_eq lk (c := c) rfl
  rw [e]
theorem kvOf_some {e : DictEntry} {x : Str} {i : Int} (h : kvOf e = some (x, i)) : ∃ t u, e.key = .str x t ∧ e.val = .int i u := by
  unfold kvOf at h
  split at h
  · rename_i y t j u h1 h2
    cases h
    exact ⟨t, u, h1, h2⟩
  · cases h
theorem look_of {l : List DictEntry} (h : l.map kvOf = leastL) (z : Str) :
    ∃ r, (match l.find? (·.key.isStr z) with
      | some e => (some (some e.val) : Option (Option Value))
      | none => if l.any (·.refKey) then none else some none) = some r ∧ (z ∈ ruleWords → ∃ t, r = some (.int (leastOf z) t)) ∧ (z ∉ ruleWords → r = none) := by
  unfold leastL at h
  have hl : l.length = 5 := by rw [← List.length_map (f := kvOf), h]; rfl
  match l, hl, h with
  | [a, b, c, d, e], _, h =>
    simp only [List.map_cons, List.map_nil, List.cons.injEq, and_true] at h
    obtain ⟨ha, hb, hc, hd, he⟩ := h
    obtain ⟨t1, u1, a1, a2⟩ := kvOf_some ha
    obtain ⟨t2, u2, b1, b2⟩ := kvOf_some hb
    obtain ⟨t3, u3, c1, c2⟩ := kvOf_some hc
    obtain ⟨t4, u4, d1, d2⟩ := kvOf_some hd
    obtain ⟨t5, u5, e1, e2⟩ := kvOf_some he
    have key : ∀ (w x : Str) (t : Tok), Value.isStr (.str w t) x = (w == x) := fun _ _ _ => rfl
    by_cases z1 : (("corner" : Str) == z) = true
    · have n1 := z1
      refine ⟨some a.val, by simp only [List.find?, a1, key, n1], fun _ => ⟨u1, ?_⟩, fun n => absurd ?_ n⟩
      · have e0 : ("corner" : Str) = z := by simpa using z1
        rw [a2, ← e0]
        rfl
      · have e0 : ("corner" : Str) = z := by simpa using z1
        rw [← e0]
        decide +kernel
    have n1 : (("corner" : Str) == z) = false := by simpa using z1
    by_cases z2 : (("wall" : Str) == z) = true
    · have n2 := z2
      refine ⟨some b.val, by simp only [List.find?, a1, b1, key, n1, n2], fun _ => ⟨u2, ?_⟩, fun n => absurd ?_ n⟩
      · have e0 : ("wall" : Str) = z := by simpa using z2
        rw [b2, ← e0]
        rfl
      · have e0 : ("wall" : Str) = z := by simpa using z2
        rw [← e0]
        decide +kernel
    have n2 : (("wall" : Str) == z) = false := by simpa using z2
    by_cases z3 : (("level" : Str) == z) = true
    · have n3 := z3
      refine ⟨some c.val, by simp only [List.find?, a1, b1, c1, key, n1, n2, n3], fun _ => ⟨u3, ?_⟩, fun n => absurd ?_ n⟩
      · have e0 : ("level" : Str) = z := by simpa using z3
        rw [c2, ← e0]
        rfl
      · have e0 : ("level" : Str) = z := by simpa using z3
        rw [← e0]
        decide +kernel
    have n3 : (("level" : Str) == z) = false := by simpa using z3
    by_cases z4 : (("straight" : Str) == z) = true
    · have n4 := z4
      refine ⟨some d.val, by simp only [List.find?, a1, b1, c1, d1, key, n1, n2, n3, n4], fun _ => ⟨u4, ?_⟩, fun n => absurd ?_ n⟩
      · have e0 : ("straight" : Str) = z := by simpa using z4
        rw [d2, ← e0]
        rfl
      · have e0 : ("straight" : Str) = z := by simpa using z4
        rw [← e0]
        decide +kernel
    have n4 : (("straight" : Str) == z) = false := by simpa using z4
    by_cases z5 : (("grid" : Str) == z) = true
    · have n5 := z5
      refine ⟨some e.val, by simp only [List.find?, a1, b1, c1, d1, e1, key, n1, n2, n3, n4, n5], fun _ => ⟨u5, ?_⟩, fun n => absurd ?_ n⟩
      · have e0 : ("grid" : Str) = z := by simpa using z5
        rw [e2, ← e0]
        rfl
      · have e0 : ("grid" : Str) = z := by simpa using z5
        rw [← e0]
        decide +kernel
    have n5 : (("grid" : Str) == z) = false := by simpa using z5
    refine ⟨none, by simp [List.find?, a1, b1, c1, d1, e1, key, n1, n2, n3, n4, n5, DictEntry.refKey], fun n => ?_, fun _ => rfl⟩
    exfalso
    simp only [ruleWords, List.mem_cons, List.not_mem_nil, or_false] at n
    rcases n with n | n | n | n | n
    · rw [n] at n1; exact absurd n1 (by decide +kernel)
    · rw [n] at n2; exact absurd n2 (by decide +kernel)
    · rw [n] at n3; exact absurd n3 (by decide +kernel)
    · rw [n] at n4; exact absurd n4 (by decide +kernel)
    · rw [n] at n5; exact absurd n5 (by decide +kernel)
theorem least_of {K : Frag} {w : World} {mg : Str → Option Value} (hm : mg "LEAST" = some (.ref (ga K "LEAST"))) (hk : ∃ es n, KDict K w (ga K "LEAST") es n) (h : leastB K = true) : FxLeast K w mg := by
  obtain ⟨es, n, D⟩ := hk
  refine ⟨_, es, n, hm, D, fun z => ?_⟩
  unfold leastB at h
  rw [D.at_] at h
  have h2 : es.toList.map kvOf = leastL := of_decide_eq_true h
  have q := look_of h2 z
  unfold PySem.W.nsIn
  rw [D.at_]
  exact q
end L2.K06

set_option Elab.async false
set_option linter.all false
set_option maxRecDepth 100000
set_option maxHeartbeats 4000000
namespace L2.K06
open PySem PySem.Spec PyProof.Rows L2.Vx
open PySem.W (Frag)
open LamX (CodeO Tabs TabS TabB ExtN)
open He (ga ma)
theorem facts {w : World} {K : Frag} {h : Heap} {mg : Str → Option Value} {f : Addr} (X : K.In h) (G : h.Ns mainGlobals mg) (hfa : mg ("law" : Str) = some (.ref f)) (c : He.SaysX fa fn ts tf exK w h K) :
    LamX.LawAtS PySem.Challenge.rw_wobblesnap_k06_whole_lines_of_no_book w K CX0 10 63 "script" mg f h := by
  have fact : ∀ f ∈ fa, f.ok K = true := fun f hf => c.t.d.facts hf
  have glo : ∀ x ∈ glos, mg x = some (.ref (ga K x)) := fun x hx => He.glo_ok X G (fact _ (List.mem_append_left _ (List.mem_map.mpr ⟨x, hx, rfl⟩)))
  have free : ∀ x ∈ frees, mg x = none := fun x hx => He.free_ok X G (fact _ (List.mem_append_right _ (List.mem_append_left _ (List.mem_map.mpr ⟨x, hx, rfl⟩))))
  have rest : ∀ q ∈ ([.int "LONGEST_NUMBER" 9, .int "MOST" 99, .str "DIGITS" "0123456789", .cls "Book", .noat "Book" "text", .noat "Book" "among", .noat "Book" "rules", .mkr "Book"] : List He.Fa), q.ok K = true :=
    fun q hq => fact _ (List.mem_append_right _ (List.mem_append_right _ hq))
  have i9 := He.int_ok X G (rest (.int "LONGEST_NUMBER" 9) (by simp))
  have i99 := He.int_ok X G (rest (.int "MOST" 99) (by simp))
  have sD := He.str_ok X G (rest (.str "DIGITS" "0123456789") (by simp))
  have cB := He.cls_ok (rest (.cls "Book") (by simp))
  have nT := He.noat_ok (rest (.noat "Book" "text") (by simp))
  have nA := He.noat_ok (rest (.noat "Book" "among") (by simp))
  have nR := He.noat_ok (rest (.noat "Book" "rules") (by simp))
  have mk := He.mkr_ok (rest (.mkr "Book") (by simp))
  obtain ⟨m1, m⟩ := Bool.and_eq_true_iff.mp c.more
  obtain ⟨m2, m⟩ := Bool.and_eq_true_iff.mp m
  obtain ⟨m3, m4⟩ := Bool.and_eq_true_iff.mp m
  obtain ⟨fd0, F0⟩ := c.t.d.def_ 0 (d := dInit) rfl
  obtain ⟨fd1, F1⟩ := c.t.d.def_ 1 (d := dBook) rfl
  obtain ⟨fd2, F2⟩ := c.t.d.def_ 2 (d := dCons) rfl
  obtain ⟨fd3, F3⟩ := c.t.d.def_ 3 (d := dNum) rfl
  obtain ⟨fd4, F4⟩ := c.t.d.def_ 4 (d := dAmong) rfl
  obtain ⟨fd5, F5⟩ := c.t.d.def_ 5 (d := dRules) rfl
  obtain ⟨fd6, F6⟩ := c.t.d.def_ 6 (d := dRule) rfl
  obtain ⟨fd7, F7⟩ := c.t.d.def_ 7 (d := dPot) rfl
  obtain ⟨fd8, F8⟩ := c.t.d.def_ 8 (d := dTake) rfl
  obtain ⟨fd9, F9⟩ := c.t.d.def_ 9 (d := dOf) rfl
  obtain ⟨fd10, F10⟩ := c.t.d.def_ 10 (d := dSome) rfl
  obtain ⟨fd11, F11⟩ := c.t.d.def_ 11 (d := dCells) rfl
  obtain ⟨fd12, F12⟩ := c.t.d.def_ 12 (d := dTold) rfl
  obtain ⟨fd13, F13⟩ := c.t.d.def_ 13 (d := dOdd) rfl
  obtain ⟨fd14, F14⟩ := c.t.d.def_ 14 (d := dSomeB) rfl
  obtain ⟨fd15, F15⟩ := c.t.d.def_ 15 (d := dText) rfl
  obtain ⟨fd16, F16⟩ := c.t.d.def_ 16 (d := dNumOf) rfl
  obtain ⟨fd17, F17⟩ := c.t.d.def_ 17 (d := dDue) rfl
  obtain ⟨fd18, F18⟩ := c.t.d.def_ 18 (d := dSpoilt) rfl
  obtain ⟨fd19, F19⟩ := c.t.d.def_ 19 (d := dRead) rfl
  obtain ⟨fd20, F20⟩ := c.t.d.def_ 20 (d := dLaw) rfl
  have b1 : Binds K fd1 ["self", "text"] [] := F1.bindsN fun _ _ _ _ _ _ us hl => match us, hl with | [_, _], _ => rfl
  have b2 : Binds K fd2 ["text", "signs"] [] := F2.bindsN fun _ _ _ _ _ _ us hl => match us, hl with | [_, _], _ => rfl
  have b3 : Binds K fd3 ["word", "low", "high"] [] := F3.bindsN fun _ _ _ _ _ _ us hl => match us, hl with | [_, _, _], _ => rfl
  have b4 : Binds K fd4 ["line"] [] := F4.bindsN fun _ _ _ _ _ _ us hl => match us, hl with | [_], _ => rfl
  have b5 : Binds K fd5 ["lines", "first"] [] := F5.bindsN fun _ _ _ _ _ _ us hl => match us, hl with | [_, _], _ => rfl
  have b6 : Binds K fd6 ["line"] [] := F6.bindsN fun _ _ _ _ _ _ us hl => match us, hl with | [_], _ => rfl
  have b7 : Binds K fd7 ["script", "place"] [] := F7.bindsN fun _ _ _ _ _ _ us hl => match us, hl with | [_, _], _ => rfl
  have b8 : Binds K fd8 ["pot", "upto"] [] := F8.bindsN fun _ _ _ _ _ _ us hl => match us, hl with | [_, _], _ => rfl
  have b9 : Binds K fd9 ["pot", "some"] [] := F9.bindsN fun _ _ _ _ _ _ us hl => match us, hl with | [_, _], _ => rfl
  have b10 : Binds K fd10 ["pot", "pool", "many"] [] := F10.bindsN fun _ _ _ _ _ _ us hl => match us, hl with | [_, _, _], _ => rfl
  have b11 : Binds K fd11 ["script", "most"] [] := F11.bindsN fun _ _ _ _ _ _ us hl => match us, hl with | [_, _], _ => rfl
  have b12 : Binds K fd12 ["look"] [] := F12.bindsN fun _ _ _ _ _ _ us hl => match us, hl with | [_], _ => rfl
  have b13 : Binds K fd13 ["pot"] [] := F13.bindsN fun _ _ _ _ _ _ us hl => match us, hl with | [_], _ => rfl
  have b14 : Binds K fd14 ["pot", "words", "most"] [] := F14.bindsN fun _ _ _ _ _ _ us hl => match us, hl with | [_, _, _], _ => rfl
  have b15 : Binds K fd15 ["book"] [] := F15.bindsN fun _ _ _ _ _ _ us hl => match us, hl with | [_], _ => rfl
  have b16 : Binds K fd16 ["word", "low", "high"] [] := F16.bindsN fun _ _ _ _ _ _ us hl => match us, hl with | [_, _, _], _ => rfl
  have b17 : Binds K fd17 ["text"] [] := F17.bindsN fun _ _ _ _ _ _ us hl => match us, hl with | [_], _ => rfl
  have b18 : Binds K fd18 ["pot", "lines", "more"] [] := F18.bindsN fun _ _ _ _ _ _ us hl => match us, hl with | [_, _, _], _ => rfl
  have b19 : Binds K fd19 ["value"] [] := F19.bindsN fun _ _ _ _ _ _ us hl => match us, hl with | [_], _ => rfl
  have b20 := FunD.bindsA (ps := ["script"]) F20 fun _ _ _ _ _ _ us hl => match us, hl with | [_], _ => rfl
  have e := hfa.symm.trans (glo "law" (by decide +kernel))
  cases e
  have hcd : fd19.code = .ref (He.cT K ("_law_is_read", none)).1 := code_of (x := "_law_is_read") (qual := "_law_is_read") (st := sRead) (p := ("_law_is_read", none)) (fun_of (st := sRead) F19)
  have fxD : Dx mg := ⟨free _ (by decide +kernel), free _ (by decide +kernel), free _ (by decide +kernel), free _ (by decide +kernel), free _ (by decide +kernel), free _ (by decide +kernel), free _ (by decide +kernel)⟩
  have fxN : FxNum mg := ⟨free _ (by decide +kernel), free _ (by decide +kernel), free _ (by decide +kernel), free _ (by decide +kernel), i9, sD⟩
  have fxR : FxRule K w mg := ⟨fxN, least_of (glo "LEAST" (by decide +kernel)) (c.t.tab 0) m4, i99⟩
  have fxI : FxInit K mg (ga K "Book") := ⟨cB, nT, nA, nR, free _ (by decide +kernel), free _ (by decide +kernel)⟩
  have fxDue : FxDue mg := ⟨free _ (by decide +kernel), free _ (by decide +kernel), free _ (by decide +kernel), free _ (by decide +kernel), free _ (by decide +kernel), free _ (by decide +kernel)⟩
  have fxRd : FxRead K mg (ga K "Book") (ga K "BadBook") (ga K "DrawError") (fI K) (ma K (ga K "Book") "__init__") :=
    ⟨fxI, mk, glo "Book" (by decide +kernel), err_ok m1 (init_of F0), glo "BadBook" (by decide +kernel), glo "DrawError" (by decide +kernel), of_decide_eq_true m3, of_decide_eq_true m2, free _ (by decide +kernel)⟩
  refine ⟨fd20, [He.cT K ("_law_is_read", none)], spLaw K (He.cT K ("_law_is_read", none)).2, fun p hp => ?_, fun p hp => ?_, fun p hp => ?_, fun s v => b20 s [v] rfl, fun H a ns hl _ hT hS => ⟨a, ns, rfl, hS, hl, fun p hp => ?_, fun _ => rfl⟩, fun base hb hm hTB => ?_⟩
  · rw [List.mem_singleton.mp hp]
    exact c.empty _ (List.mem_singleton.mpr rfl)
  · rw [List.mem_singleton.mp hp]
    exact c.out _ (List.mem_singleton.mpr rfl)
  · rw [List.mem_singleton.mp hp]
    exact PySem.W.codeHd_of_K X (c.hd _ (List.mem_singleton.mpr rfl))
  · rw [List.mem_singleton.mp hp]
    exact TabS.nil (hT _ (List.mem_singleton.mpr rfl))
  · have GRd := ok_read (P := PySem.Challenge.rw_wobblesnap_k06_whole_lines_of_no_book.prog) (w := w) (fun_of F19) hcd (hTB _ (List.mem_singleton.mpr rfl)) fxRd fxR fxDue (fun_of F12) (glo _ (by decide +kernel)) b12 (fun_of F17) (glo _ (by decide +kernel)) b17
      (fun_of F16) (glo _ (by decide +kernel)) b16 (fun_of F1) b1 (fun_of F4) (glo _ (by decide +kernel)) b4 (fun_of F5) (glo _ (by decide +kernel)) b5 (fun_of F6) (glo _ (by decide +kernel)) b6 (fun_of F3) (glo _ (by decide +kernel)) b3 (fun_of F2) (glo _ (by decide +kernel)) b2
    exact ok_law (fun_of F20) fxD (free _ (by decide +kernel)) (free _ (by decide +kernel)) (free _ (by decide +kernel)) GRd F19.kp (glo _ (by decide +kernel)) b19 (fun_of F7) (glo _ (by decide +kernel)) b7 (fun_of F11) (glo _ (by decide +kernel)) b11 (fun_of F8) (glo _ (by decide +kernel)) b8
      (fun_of F9) (glo _ (by decide +kernel)) b9 (fun_of F10) (glo _ (by decide +kernel)) b10 (fun_of F14) (glo _ (by decide +kernel)) b14 (fun_of F15) (glo _ (by decide +kernel)) b15 (fun_of F13) (glo _ (by decide +kernel)) b13 (fun_of F18) (glo _ (by decide +kernel)) b18
end L2.K06
open PySem PySem.W PySem.Calls PyProof.Rows
theorem PySem.Challenge.cw_wobblesnap_k06_whole_lines_of_no_book_holds : PySem.Challenge.rw_wobblesnap_k06_whole_lines_of_no_book.Holds := by
  w_on; o_law
  refine HandSHeadRun.head_any (r := L2.K06.R) (q := view L2.K06.R.prog [30]) (H := L2.K06.hk) (ob := L2.K06.ob) (M := 4000) (loose := L2.K06.loose) (d := HandSHeadRun.topDef L2.K06.R.prog 30) (kwd := []) L2.K06.ob_eq
    (by kernel_rfl) (fun s => by kernel_rfl) L2.K06.run (by kernel_rfl) (by kernel_rfl) (by kernel_rfl) (by rfl) (by first | assumption | decide +kernel) (by decide +kernel) ⟨rfl, rfl, rfl, rfl, rfl, by decide +kernel⟩ ?hw ?hc
  case hw => w_witness2
  case hc =>
    refine LamX.walk_ofTsE (l := PySem.Challenge.rw_wobblesnap_k06_whole_lines_of_no_book) (n := 63) (k := 10) (x := "script") (CX := fun _ => L2.CX0) rfl (by decide) (by kernel_rfl) ⟨rfl, by decide, by decide⟩ ?F (fun _ _ _ _ _ z => z)
    intro w mg fa h Y G hmg0
    obtain ⟨K, KX, c⟩ := Y
    have hmg : mg ("law" : PySem.Str) = some (.ref fa) := by
      have e : (HandSHeadRun.topDef L2.K06.R.prog 30).name = ("law" : PySem.Str) := by kernel_rfl
      rw [← e]
      exact hmg0
    exact ⟨K, KX, L2.K06.facts KX G hmg c⟩
#print axioms PySem.Challenge.cw_wobblesnap_k06_whole_lines_of_no_book_holds

